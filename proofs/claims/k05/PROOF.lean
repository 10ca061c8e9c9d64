import PyProof.Rows.All
import Wide.All
import OpenK.AllK
import Wide.FinOn
import PyProof.EqAt
import PyProof.EqKinds
import PyProof.TupleCall
import PyProof.ReprReads
import KE.KExcIs
import HandS.ForMost
import HandS.Exc
import HandS.ExcOwn
import HandS.WordsExc
import HandS.IsInst
import HandS.ExcValue
import HandS.Defaults
import HandS.Head0
import HandS.Head1
import HandS.Head2
import HandS.HeadEnd
import HandS.HeadHook4
import HandS.Lambda
import HandS.Walk
import KE.GoesEnum
import HandS.Text
import KE.IntTextLaws
import KE.IntTextText
import HandS.Conv
import HandS.Wide
import HandS.SlotsOwn
import OpenK.KMeth
import OpenK.KOps
import PyProof.IsiPairs
import PyProof.FactsAll.dict
import HandS.EndTab
import PySem.Challenge.RW_wobblesnap_k05_books_as_told
import HandS.More
import HandS.WordsDict
import HandS.RaiseMore
import HandS.HeadWalk
set_option Elab.async false
set_option linter.all false
set_option maxRecDepth 100000
set_option maxHeartbeats 2000000
namespace PySem
namespace DrX
open PySem.W PySem.Calls PyProof.Rows PySem.HandSPX
/-! ### the text of __init__ -/
def iA (p1 p2 : Pos) : Arguments := { posonlyargs := [], args := [{ arg := "self", annotation := none, pos := p1 }, { arg := "value", annotation := none, pos := p2 }], vararg := none, kwonlyargs := [], kw_defaults := [], kwarg := none, defaults := [] }
def iB (q1 q2 q3 q4 : Pos) : List Stmt := [.Assign [.Attribute (.Name "self" q1) "value" q2] (.Name "value" q3) q4]
def iS : Scope := { kind := .function, names := [(PySem.Str.ofString "self", .local), (PySem.Str.ofString "value", .local)], isGenerator := false, isCoroutine := false, more := [] }
/-- what the written part says of Low, at C, and of its __init__, at fI -/
structure ErrT (K : Frag) (C fI : Addr) : Prop where
  cls : ∃ nm q N bs bm sn sub ab col dd k0 k1 k2 k3 k5, K.lookup C = some (excClassObj nm q C N bs bm true sn sub ab col dd k0 k1 k2 k3 k5 "ValueError.__new__") ∧ refsVE bm = true
  sa : findIn K (.ref C) "__setattr__" = some (some (.builtin "object.__setattr__"))
  ga : findIn K (.ref C) "__getattribute__" = some (some (.builtin "BaseException.__getattribute__"))
  gg : findIn K (.ref C) "__getattr__" = some none
  noN : findIn K (.ref C) "value" = some none
  iC : findIn K (.ref C) "__init__" = some (some (.ref fI))
  tC : typeIn K (.ref fI) = some (.type "function")
  kC : keepIn K (.ref C) = true
  exC : subIn K (.ref C) (.type "BaseException") = some true
  tyC : typeIn K (.ref C) = some (.type "type")
  hdC : hasDictIn K C = true
  cls' : (clsIn K C).isSome = true
  ha : findIn K (.ref C) "__class__" = some (some (.builtin "object.__class__"))
  hn : specialIn K (.builtin "object.__class__") "__get__" = some (some (.builtin "getset_descriptor.__get__"))
  ht : takesIn K (.builtin "object.__class__") = some true
  hm : mroIn K C (.type "object") = some true
  fn : ∃ (oc : Value) (od : Option Addr) (kV doc pm : Value) (an : Option Addr) (cdv ct : Value) (osl : Array (Option Value)) (p1 p2 q1 q2 q3 q4 : Pos),
    K.lookup fI = some ⟨oc, od, .func (fnOf "__init__" "DrawError.__init__" (iA p1 p2) (iB q1 q2 q3 q4) iS .none kV doc pm an cdv ct), osl⟩ ∧ codeIn K cdv "DrawError.__init__" = true
theorem one_size (v : Value) : [v].length ≤ sizeLine := by
  rw [sizeLine_eq]
  exact (by decide : 1 ≤ 16777216)
theorem kept_but {K : Frag} {h h' : Heap} {x : Addr} (X : K.In h) (hx : K.lookup x = none) (k : ∀ b o, b ≠ x → h.get? b = some o → h'.get? b = some o) : K.In h' := fun a o e =>
  k a o (fun z => by rw [z, hx] at e; cases e) (X a o e)
theorem ldC {M : Model} {s : Shared} {name : Str} {scope : Scope} {L a : Addr} {cd : Value} {m : Str → Option Value} {x : Str} {pos : Pos} {v : Value} {Q : Value → Shared → Prop} {A : Around} {E : Value → Shared → Prop} (hn : s.heap.Ns L m) (hv : m x = some v) (h : Q v s)
    (hk : scope.kind = .function := by rfl) (hl : (envOfC name scope L a cd).kindOf x = some .local := by rfl) (hd : (x == ("__debug__" : Str)) = false := by decide) :
    wpAny M A (eval (.Name x pos) (envOfC name scope L a cd)) Q E s := wpAny_Name (wpAny_loadName_local hk hl hn hv h) hd
/-- what __init__ leaves of a fresh exception at x -/
structure InitEnd (h h' : Heap) (x C dx t1 : Addr) (v : Value) : Prop where
  keep : ∀ b o, b ≠ x → h.get? b = some o → h'.get? b = some o
  obj : h'.get? x = some { cls := .ref C, dict := some dx, data := .fields #[.ref t1, .none, .none, .none, .bool false, .none] }
  dbig : h.objs.size ≤ dx
  dne : dx ≠ x
  ns : h'.Ns1 dx (fun y => if y = "value" then some v else none)
/-- a made Low -/
structure OwnMade (h h' : Heap) (e C d : Addr) (v : Value) : Prop where
  keep : ∀ b o, h.get? b = some o → h'.get? b = some o
  new : h.objs.size ≤ e
  obj : ∃ oe vs, h'.get? e = some oe ∧ oe.cls = .ref C ∧ oe.dict = some d ∧ oe.data = .fields vs ∧ vs[1]? = some .none
  dbig : h.objs.size ≤ d
  dne : d ≠ e
  ns : h'.Ns1 d (fun y => if y = "value" then some v else none)
section
variable {prog : Program} {w : World} {A : Around} {E : Value → Shared → Prop} {R : Result → Shared → Prop} {s : Shared} {K : Frag} {C fI : Addr}
theorem low_init (T : ErrT K C fI) {x t0 : Addr} {v : Value} (X : K.In s.heap) (hlim : s.heap.NoLimit) (hx : s.heap.get? x = some (excO C t0)) (hnx : K.lookup x = none) (hroom : A.depth < recursionLimit)
    (hq : ∀ h' tk dx, InitEnd s.heap h' x C dx t0 v → R (.ok (.ret .none)) { s with heap := h', toks := tk }) :
    codeAny (model prog w) A (.call (.ref fI) ⟨[.ref x, v], []⟩) R s := by
  obtain ⟨oc, od, kV, doc, pm, an, cdv, ct, osl, p1, p2, q1, q2, q3, q4, ho, hcd⟩ := T.fn
  obtain ⟨nm, q, N, bs, bm, sn, sub, ab, col, dd, k0, k1, k2, k3, k5, hC, hbm⟩ := T.cls
  have hcl : clsIn K C = some { name := nm, bases := bs, mro := .ref C :: bm, ns := N, qualname := q, hasDict := true, slotNames := sn, subclasses := sub, abstract := ab, collection := col, hasDel := false } := by unfold clsIn; rw [hC] <;> rfl
  refine Att.call_fn (binds := [("self", .ref x), ("value", v)]) X hlim ho hcd hroom (BindsTo.of_eq (by first | rfl | with_unfolding_all rfl)) (by first | rfl | decide | with_unfolding_all rfl) (fun s₁ IC => ?_) rfl rfl rfl
  obtain ⟨h₁, tk₁, rfl⟩ := IC.toInCall.same
  have k : ∀ b o, s.heap.get? b = some o → h₁.get? b = some o := IC.toInCall.keep
  have hn := IC.toInCall.ns
  have hxL : s.heap.objs.size ≠ x := Nat.ne_of_gt (Heap.lt_size hx)
  have X₁ : K.In h₁ := X.keeps k
  have hx₁ := k _ _ hx
  -- self.by = by
  show wpAny _ _ (execs _ _) _ _ _
  refine wpAny_execs_cons (plainObj_wpAny_Assign_Attribute ?_)
  refine ldC (v := v) hn (by first | rfl | with_unfolding_all rfl | kernel_rfl) (ldC (v := .ref x) hn (by first | rfl | with_unfolding_all rfl | kernel_rfl) ?_)
  refine set_plain X₁ (ox := excO C t0) (od := none) ⟨hx₁, rfl, rfl, trivial⟩ T.sa ?_
  refine exc_osa X₁ hx₁ hcl (show refsVE (.ref C :: bm) = true from hbm) rfl T.noN (fun h₃ tk₃ dx k₃ dn dne hx₃ hn₃ => ?_)
  show wpAny _ _ (execs _ _) _ _ _
  have z : s.heap.objs.size < h₁.objs.size := hn.lt
  exact wpAny_execs_nil (hq h₃ tk₃ dx ⟨fun b o hb e => k₃ b o hb (k b o e), hx₃, Nat.le_of_lt (Nat.lt_of_lt_of_le z dn), dne, hn₃⟩)
theorem low_made (T : ErrT K C fI) {v : Value} (X : K.In s.heap) (hlim : s.heap.NoLimit) (hroom : A.depth + 1 < recursionLimit)
    (hq : ∀ h' tk e d, OwnMade s.heap h' e C d v → R (.ok (.ret (.ref e))) { s with heap := h', toks := tk }) :
    codeAny (model prog w) A (.call (.ref C) ⟨[v], []⟩) R s := by
  obtain ⟨nm, q, N, bs, bm, sn, sub, ab, col, dd, k0, k1, k2, k3, k5, hC, hbm⟩ := T.cls
  obtain ⟨hp, g, dr, tk, os⟩ := s
  have k : ∀ b o, hp.get? b = some o → ((hp.push (kdv_tup [v])).push (excO C hp.objs.size)).get? b = some o := fun b o e => Heap.get?_push_of_some _ (Heap.get?_push_of_some _ e)
  have hget : ((hp.push (kdv_tup [v])).push (excO C hp.objs.size)).get? (hp.objs.size + 1) = some (excO C hp.objs.size) := by heap_get
  have hnx : K.lookup (hp.objs.size + 1) = none := by
    cases e : K.lookup (hp.objs.size + 1) with
    | none => rfl
    | some o =>
      have z : hp.get? (hp.objs.size + 1) = some o := X _ _ e
      exact absurd (Nat.lt_of_succ_lt (Heap.lt_size z)) (Nat.lt_irrefl _)
  refine call_own F.excBase_ValueError (fun X => refsVE_contains X bm hbm) (X _ _ hC) (looks_findIn X T.iC) (fun self => bind_fn X self T.tC) (one_size v) ?_
  refine low_init (s := ⟨(hp.push (kdv_tup [v])).push (excO C hp.objs.size), g, dr, tk, os⟩) T (X.keeps k) (hlim.keeps k) hget hnx ?_ fun h' tk' dx ⟨k', hx, dn, dne, hns⟩ => ?_
  · show A.depth + 1 < recursionLimit
    exact hroom
  · have old : ∀ b o, hp.get? b = some o → h'.get? b = some o := fun b o e => k' b o (Nat.ne_of_lt (Nat.lt_succ_of_lt (Heap.lt_size e))) (k b o e)
    have z : hp.objs.size + 1 + 1 ≤ dx := by
      first
        | (simpa only [Heap.size_push] using dn)
        | exact dn
        | (have q := dn; rw [Heap.size_push, Heap.size_push] at q; exact q)
    exact ⟨rfl, hq h' tk' (hp.objs.size + 1) dx ⟨old, Nat.le_succ _, ⟨_, _, hx, rfl, rfl, rfl, rfl⟩, Nat.le_trans (Nat.le_trans (Nat.le_succ _) (Nat.le_succ _)) z, dne, hns⟩⟩
end
end DrX
end PySem

set_option Elab.async false
set_option linter.all false
set_option maxRecDepth 100000
set_option maxHeartbeats 2000000
namespace L2.Vx
open PySem PySem.Spec PyProof.Rows

/-- the written facts of an error class, with the name of it -/
abbrev ErrT := @PySem.DrX.ErrT

/-- at a stands an exception of the class cls, its own dict, if there is one, at d -/
def EX (a : Addr) (cls : Value) (d : Option Addr) : HO :=
  .ext fun h => ∃ oe vs, h.get? a = some oe ∧ Zc cls d oe ∧ oe.data = .fields vs
theorem ex_ok {P : Program} {w : World} {H : Hp} {h : Heap} {a : Addr} {cls : Value} {d : Option Addr} {oe : Obj} {vs : Array Value}
    (e : h.get? a = some oe) (z : Zc cls d oe) (q : oe.data = .fields vs) : ObjOk P w H h a (EX a cls d) :=
  ⟨⟨oe, vs, e, z, q⟩, ⟨oe, e⟩, fun _ _ ⟨o, v, p, r⟩ k => ⟨o, v, k o p, r⟩⟩
theorem ex_at {P : Program} {w : World} {H : Hp} {h : Heap} {a : Addr} {cls : Value} {d : Option Addr} (ok : HOk P w H h)
    (e : H a = some (EX a cls d)) : ∃ oe vs, h.get? a = some oe ∧ Zc cls d oe ∧ oe.data = .fields vs := (ok a _ e).1
/-- the state is another one, its heap the same -/
theorem inv_same {X : Cx} {pins : List (Addr × Obj)} {σ : St} {H : Hp} {s s' : Shared} (I : Inv X pins σ H s) (e : s'.heap = s.heap)
    (os : s'.os = s.os) (bare : AllBare s'.gens) : Inv X pins σ H s' := by
  obtain ⟨h, g, dr, tk, o⟩ := s
  obtain ⟨h', g', dr', tk', o'⟩ := s'
  obtain rfl : h' = h := e
  obtain rfl : o' = o := os
  exact ⟨I.ok, I.os, bare, I.base, I.loc, I.cell, I.free, I.freeC, I.pin, I.hok, I.len⟩
/-- what makes an exception, as a value: it is tracked from now on -/
theorem pe_mk {X : Cx} {e : Expr} {t : St → Hp → XK → Prop} (he : PMk X e t) :
    PE X e (fun σ H Q => t σ H fun cls d H1 => ∀ a, H1 a = none → Q (.ref a) (upd H1 a (EX a cls d))) := by
  refine ⟨fun pins s σ H Q I h => ?_⟩
  refine wpAny_mono (he pins s σ H _ I h) (fun u s1 hu => ?_) fun _ _ x => x
  obtain ⟨a, oe, vs, sI, H', cls, d, rfl, J, k, hne, ha, hz, hd, _, na, os, ag, _, q⟩ := hu
  have J2 := J.laidN (t' := s1.toks) (h' := s1.heap) k hne na (ex_ok (P := X.prog) (w := X.w) (H := upd H' a (EX a cls d)) ha hz hd)
  exact ⟨.ref a, _, inv_same J2 rfl os ag, rfl, q a na⟩

/-- the own dict of an error that keeps v -/
abbrev xv (v : V) : HO := .xd [(("value" : Str), v)]
theorem look_xv {v : V} : List.lookup ("value" : Str) [(("value" : Str), v)] = some v := by simp [List.lookup]
theorem rel_xv {v : V} {u : Value} (r : RelV v u) (f : Str) :
    RelO (List.lookup f [(("value" : Str), v)]) (if f = "value" then some u else none) := by
  by_cases hf : f = "value"
  · subst hf
    rw [if_pos rfl, look_xv]
    exact r
  · rw [if_neg hf]
    have q : (f == ("value" : Str)) = false := by simpa using hf
    have q2 : List.lookup f [(("value" : Str), v)] = none := by simp [List.lookup, q]
    rw [q2]
    trivial

section
variable {X : Cx} {C fI : Addr}

/-- the call of an error class, whatever is made of it -/
theorem run_err {x : Str} {a : Expr} {ta : TA} {p pos : Pos} {k : Nat} (T : ErrT X.K C fI) (hm : X.mg x = some (.ref C))
    (hr : Room k X.A) (ha : PA X [a] ta) (hg : Gl X x) (hdb : (x == ("__debug__" : Str)) = false)
    (he : starEach (a :: []) X.env = (false, eval a X.env) :: starEach [] X.env)
    (hpl : (backTo pos (starEach [] X.env)).any (·.1) = false)
    {pins : List (Addr × Obj)} {s : Shared} {σ : St} {H : Hp} {Q : V → Hp → Prop} {R : Value → Shared → Prop} (I : Inv X pins σ H s)
    (h : ta σ H fun vs H1 => ∃ v, vs = [v] ∧ Q v H1)
    (fin : ∀ (v : V) (H1 : Hp) (e d : Addr) (G h' : Heap) (g : Array GenState) (dr : Drawn) (tk' : Nat) (os : OsState) (oe : Obj) (fv : Array Value),
      Inv X pins σ (upd H1 d (xv v)) ⟨G, g, dr, tk', os⟩ → (∀ b o, G.get? b = some o → h'.get? b = some o) → G.get? e = none →
      h'.get? e = some oe → Zc (.ref C) (some d) oe → oe.data = .fields fv → fv[1]? = some .none → H1 e = none → H1 d = none → d ≠ e → Q v H1 →
      AllBare g → R (.ref e) ⟨h', g, dr, tk', os⟩) :
    wpAny (model X.prog X.w) X.A (eval (.Call (.Name x p) [a] [] pos) X.env) R X.xe s := by
  refine wpAny_Call_Name_kw (ld_glob I hg hm ?_ hdb)
  refine PySem.W.callWith_K (h₀ := X.base) I.ok.mod.kin T.kC (thn (ha.run pos pins s σ H _ I h) fun us s1 hh => ?_) he hpl
  obtain ⟨vs, H1, I1, r1, v, ev, q1⟩ := hh
  subst ev
  refine ⟨I1.kIn, ?_⟩
  cases r1 with
  | cons rv rn =>
    rename_i v' us'
    cases rn
    have hlim := I1.nolimit
    obtain ⟨hp, g, dr, tk, os⟩ := s1
    refine wpAny_call (PySem.DrX.low_made T I1.kIn hlim (by have := hr.dp; omega) fun h' tk' e d M => ?_)
    obtain ⟨oe, fv, hoe, hc, hd, hdat, h1⟩ := M.obj
    obtain ⟨G', g1, g2⟩ := restrict h' fun b => decide (b ≠ e)
    have gk : ∀ b, b ≠ e → G'.get? b = h'.get? b := fun b hb => g1 b (decide_eq_true hb)
    have ge : G'.get? e = none := g2 e (by simp)
    have old : ∀ b o, hp.get? b = some o → G'.get? b = some o := fun b o q =>
      (gk b (Nat.ne_of_lt (Nat.lt_of_lt_of_le (Heap.lt_size q) M.new))).trans (M.keep b o q)
    have ob : ObjOk X.prog X.w (upd H1 d (xv v)) G' d (xv v) :=
      ⟨_, M.ns.at (fun o q => (gk d M.dne).trans q), fun f => rel_xv rv f⟩
    have J : Inv X pins σ (upd H1 d (xv v)) ⟨G', g, dr, tk', os⟩ := I1.laid (t' := tk') old M.dbig ob
    refine fin v H1 e d G' h' g dr tk' os oe fv J (fun b o q => ?_) ge hoe ⟨hc, hd⟩ hdat h1 (I1.hok.fresh M.new) (I1.hok.fresh M.dbig) M.dne q1 I1.bare
    by_cases hb : b = e
    · rw [hb, ge] at q
      cases q
    · exact (gk b hb).symm.trans q

/-- C(e), to be raised -/
def tMkE (C : Addr) (ta : TA) : St → Hp → XK → Prop := fun σ H Q => ta σ H fun vs H1 =>
  ∃ v, vs = [v] ∧ ∀ d, H1 d = none → Q (.ref C) (some d) (upd H1 d (xv v))
theorem pmk_err {x : Str} {a : Expr} {ta : TA} {p pos : Pos} {k : Nat} (T : ErrT X.K C fI) (hm : X.mg x = some (.ref C))
    (hr : Room k X.A) (ha : PA X [a] ta) (hg : Gl X x := by rfl) (hdb : (x == ("__debug__" : Str)) = false := by decide)
    (he : starEach (a :: []) X.env = (false, eval a X.env) :: starEach [] X.env := by rfl)
    (hpl : (backTo pos (starEach [] X.env)).any (·.1) = false := by rfl) :
    PMk X (.Call (.Name x p) [a] [] pos) (tMkE C ta) := by
  intro pins s σ H Q I h
  refine run_err T hm hr ha hg hdb he hpl I (Q := fun v H1 => ∀ d, H1 d = none → Q (.ref C) (some d) (upd H1 d (xv v))) h ?_
  intro v H1 e d G h' g dr tk' os oe fv J k ge hoe hz hdat h1 ne nd ned q hb
  have hn : upd H1 d (xv v) e = none := by rw [upd_ne (Ne.symm ned)]; exact ne
  exact ⟨e, oe, fv, _, _, .ref C, some d, rfl, J, k, ge, hoe, hz, hdat, h1, hn, rfl, hb, raises_own T.exC T.tyC, q d nd⟩
/-- raise C(e) -/
theorem ps_err {W : WX} {x : Str} {a : Expr} {ta : TA} {p pos pos2 : Pos} {k : Nat} (hc : X.calm = true) (T : ErrT X.K C fI)
    (hm : X.mg x = some (.ref C)) (hr : Room k X.A) (tk : Takes X W) (ha : PA X [a] ta) (hg : Gl X x := by rfl)
    (hdb : (x == ("__debug__" : Str)) = false := by decide)
    (he : starEach (a :: []) X.env = (false, eval a X.env) :: starEach [] X.env := by rfl)
    (hpl : (backTo pos (starEach [] X.env)).any (·.1) = false := by rfl) :
    PS X (.Raise (some (.Call (.Name x p) [a] [] pos)) none pos2) (fun _ σ H => tMkE C ta σ H fun cls d H' => W cls d σ H') :=
  ps_raise hc tk (pmk_err T hm hr ha hg hdb he hpl)

/-- C(e) as a value -/
def tExc (C : Addr) (ta : TA) : TE := fun σ H Q => tMkE C ta σ H fun cls d H1 => ∀ a, H1 a = none → Q (.ref a) (upd H1 a (EX a cls d))
theorem pe_exc {x : Str} {a : Expr} {ta : TA} {p pos : Pos} {k : Nat} (T : ErrT X.K C fI) (hm : X.mg x = some (.ref C))
    (hr : Room k X.A) (ha : PA X [a] ta) (hg : Gl X x := by rfl) (hdb : (x == ("__debug__" : Str)) = false := by decide)
    (he : starEach (a :: []) X.env = (false, eval a X.env) :: starEach [] X.env := by rfl)
    (hpl : (backTo pos (starEach [] X.env)).any (·.1) = false := by rfl) :
    PE X (.Call (.Name x p) [a] [] pos) (tExc C ta) := pe_mk (pmk_err T hm hr ha hg hdb he hpl)

/-- what is known of an error that is held: its class of one's own, its dict with the value; or a plain ValueError -/
def Held (K : PySem.W.Frag) (H : Hp) (a : Addr) (cls : Value) : Prop :=
  (∃ C d fI v, cls = .ref C ∧ H a = some (EX a cls (some d)) ∧ H d = some (xv v) ∧ ErrT K C fI) ∨
  (cls = .type "ValueError" ∧ H a = some (EX a cls none))
/-- e.value, e a tracked error -/
def tVal (K : PySem.W.Frag) (te : TE) : TE := fun σ H Q => te σ H fun x H1 => ∃ a C d fI v,
  x = .ref a ∧ H1 a = some (EX a (.ref C) (some d)) ∧ ErrT K C fI ∧ H1 d = some (xv v) ∧ Q v H1
theorem inst_ex {h : Heap} {a C d : Addr} {oe : Obj} {vs : Array Value} {mA : Str → Option Value} (ho : h.get? a = some oe)
    (hz : Zc (.ref C) (some d) oe) (hd : oe.data = .fields vs) (hns : h.Ns1 d mA) :
    ∃ od, PySem.W.InstAt h a oe C (some od) ∧ ∀ name, PySem.W.lookIn name od = some (mA name) := by
  obtain ⟨od, hod, hl⟩ := lookIn_ns hns
  exact ⟨od, ⟨ho, hz.1, by unfold PySem.W.notCls; rw [hd] <;> rfl, by rw [hz.2]; exact hod⟩, hl⟩
theorem pe_val {e : Expr} {te : TE} {pos : Pos} (he : PE X e te)
    (hb : attributeBase e "value" X.env (eval e X.env) = eval e X.env := by rfl) : PE X (.Attribute e "value" pos) (tVal X.K te) := by
  refine ⟨fun pins s σ H Q I h => ?_⟩
  refine attr_of hb (thn (he.run pins s σ H _ I h) fun u s1 hh => ?_)
  obtain ⟨x, H1, I1, rx, a, C, d, fI, v, ex, ea, T, ed, q⟩ := hh
  subst ex
  obtain rfl : u = Value.ref a := rx
  obtain ⟨oe, vs, ho, hz, hd⟩ := ex_at I1.hok ea
  have hx : ObjOk X.prog X.w H1 s1.heap d (xv v) := I1.hok d _ ed
  obtain ⟨mA, hns, hr⟩ := hx
  obtain ⟨od, J, hl⟩ := inst_ex ho hz hd hns
  obtain ⟨u, hu, ru⟩ := RelO.some_of (v := v) (o := mA "value") (by rw [← look_xv (v := v)]; exact hr "value")
  exact HandSPX.exc_get I1.kIn J T.ga T.gg T.exC (PySem.W.findObj_own T.hdC T.noN rfl (by rw [hl, hu])) (handed_of ru) ⟨v, H1, I1.tok _, ru, q⟩

/-- isinstance(e, c), e a tracked error -/
def rIsX (K : PySem.W.Frag) : List V → Hp → VK → Prop := fun xs H Q => ∃ (a : Addr) (cls : Value) (c : V) (cv : Value) (b : Bool),
  xs = [.ref a, c] ∧ Held K H a cls ∧ (∀ u, RelV c u → u = cv) ∧ PySem.W.kitOne K cls cv = some b ∧ Q (.bl b) H
theorem call_isX : CallR X (.builtin "isinstance") (rIsX X.K) := by
  intro pins s σ H xs us Q I r h
  obtain ⟨a, cls, c, cv, b, rfl, hh, hcv, e, q⟩ := h
  cases r with
  | cons rx rr =>
    cases rr with
    | cons rt rr =>
      cases rr
      cases rx
      have ec := hcv _ rt
      subst ec
      have fin : ∀ tk : Nat, EP X pins σ Q (.bool b) { s with toks := tk } := fun tk => ⟨.bl b, H, I.kept (t' := tk) fun _ _ z => z, rfl, q⟩
      rcases hh with ⟨C, d, fI, v, rfl, ea, ed, T⟩ | ⟨rfl, ea⟩
      · obtain ⟨oe, vs, ho, hz, hd⟩ := ex_at I.hok ea
        have hx : ObjOk X.prog X.w H s.heap d (xv v) := I.hok d _ ed
        obtain ⟨mA, hns, _⟩ := hx
        obtain ⟨od, J, _⟩ := inst_ex ho hz hd hns
        exact PySem.W.kia_one (PySem.W.kitx_exc T.cls' T.ga T.gg T.exC T.ha T.hn T.ht T.hm) I.kIn J e (fun z => nomatch z) fin
      · obtain ⟨oe, vs, ho, hz, hd⟩ := ex_at I.hok ea
        exact PySem.W.kia_one (PySem.W.kitx_bexc PySem.F.excAttr_ValueError PySem.F.lkClass_ValueError PySem.F.soClass_ValueError (by decide)) I.kIn ⟨oe, ho, hz.1⟩ e (fun z => nomatch z) fin
end
end L2.Vx

set_option Elab.async false
set_option linter.all false
set_option maxRecDepth 100000
set_option maxHeartbeats 2000000
namespace L2.Vx
open PySem PySem.Spec PyProof.Rows

/-! ### data at an address, dicts with it -/
def kd : Key → PyData
  | .inl i => .int i
  | .inr x => .str x
mutual
inductive Dd (K : PySem.W.Frag) (H : Hp) : V → PyData → Prop
  | non : Dd K H .non .none
  | bl (b : Bool) : Dd K H (.bl b) (.bool b)
  | int (i : Int) : Dd K H (.int i) (.int i)
  | str (x : Str) : Dd K H (.str x) (.str x)
  | lst {a : Addr} {xs : List V} {ds : List PyData} : SqL K H a xs → DdAll K H xs ds → Dd K H (.ref a) (.list ds)
  | tup {a : Addr} {xs : List V} {ds : List PyData} : SqT K H a xs → DdAll K H xs ds → Dd K H (.ref a) (.tuple ds)
  | dct {a : Addr} {kvs : List (Key × V)} {ds : List PyData} : H a = some (.dK kvs) → DdAll K H (kvs.map (·.2)) ds →
      Dd K H (.ref a) (.dict ((kvs.map fun p => kd p.1).zip ds))
inductive DdAll (K : PySem.W.Frag) (H : Hp) : List V → List PyData → Prop
  | nil : DdAll K H [] []
  | cons {v : V} {vs : List V} {d : PyData} {ds : List PyData} : Dd K H v d → DdAll K H vs ds → DdAll K H (v :: vs) (d :: ds)
end
/-! no list in it -/
mutual
def noL : PyData → Bool
  | .none | .bool _ | .int _ | .str _ => true
  | .list _ => false
  | .tuple xs => noLs xs
  | .dict kvs => noLk kvs
def noLs : List PyData → Bool
  | [] => true
  | x :: xs => noL x && noLs xs
def noLk : List (PyData × PyData) → Bool
  | [] => true
  | (_, v) :: r => noL v && noLk r
end
theorem noLk_zip : ∀ (ks ds : List PyData), ks.length = ds.length → noLk (ks.zip ds) = noLs ds
  | [], [], _ => rfl
  | k :: ks, d :: ds, h => by
    show (noL d && noLk (ks.zip ds)) = (noL d && noLs ds)
    rw [noLk_zip ks ds (Nat.succ.inj h)]
  | [], _ :: _, h => by cases h
  | _ :: _, [], h => by cases h
theorem DdAll.len {K : PySem.W.Frag} {H : Hp} : ∀ {vs : List V} {ds : List PyData}, DdAll K H vs ds → vs.length = ds.length
  | _, _, .nil => rfl
  | _, _, .cons _ t => congrArg (· + 1) t.len

theorem reads_keys {P : Program} {w : World} {h : Heap} : ∀ (es : List DictEntry) (kvs : List (Key × Value)), Pairs (mixKind P w) es kvs →
    ReadsAll h (es.map (·.key)) (kvs.map fun p => kd p.1) [] ∧ es.map (·.val) = kvs.map (·.2)
  | _, _, .nil => ⟨.nil, rfl⟩
  | e :: es, kv :: kvs, .cons hk hv t => by
    obtain ⟨r, q⟩ := reads_keys es kvs t
    refine ⟨?_, by rw [List.map_cons, List.map_cons, hv, q]⟩
    have r1 : Reads h e.key (kd kv.1) [] := by
      rcases keyIs_shape (show keyIs kv.1 e.key = true from hk) with ⟨i, t, e1, e2⟩ | ⟨x, t, e1, e2⟩
      · rw [e1, e2]; exact .int i t
      · rw [e1, e2]; exact .str x t
    exact ReadsAll.cons r1 r
theorem kv_keys {κ : Type} : ∀ (kvs : List (κ × V)) (us : List (κ × Value)), KV kvs us → kvs.map (·.1) = us.map (·.1) ∧ Vals (kvs.map (·.2)) (us.map (·.2))
  | _, _, .nil => ⟨rfl, .nil⟩
  | _, _, .cons r t => by
    obtain ⟨q1, q2⟩ := kv_keys _ _ t
    exact ⟨by rw [List.map_cons, List.map_cons, r.1, q1], .cons r.2 q2⟩

section
variable {X : Cx} {pins : List (Addr × Obj)} {σ : St} {H : Hp} {s : Shared}
mutual
theorem Dd.reads (I : Inv X pins σ H s) : ∀ {v : V} {d : PyData}, Dd X.K H v d → ∀ u : Value, RelV v u → ∃ as, Reads s.heap u d as ∧ (noL d = true → sysModules ∉ as)
  | _, _, .non, u, r => by
    obtain rfl : u = Value.none := r
    exact ⟨_, Reads.none, fun _ z => by cases z⟩
  | _, _, .bl b, u, r => by
    obtain rfl : u = Value.bool b := r
    exact ⟨_, Reads.bool b, fun _ z => by cases z⟩
  | _, _, .int i, u, r => by
    obtain ⟨t, rfl⟩ := (show ∃ t, u = Value.int i t from r)
    exact ⟨_, Reads.int i t, fun _ z => by cases z⟩
  | _, _, .str x, u, r => by
    obtain ⟨t, rfl⟩ := (show ∃ t, u = Value.str x t from r)
    exact ⟨_, Reads.str x t, fun _ z => by cases z⟩
  | _, _, .lst (a := a) hs ha, u, r => by
    obtain rfl : u = Value.ref a := r
    obtain ⟨its, rv, ⟨o, n, ho, hc, _, hd⟩, _⟩ := I.list hs
    obtain ⟨as, hr, _⟩ := Dd.readsAll I ha its rv
    exact ⟨_, Reads.list ho hc hd hr, fun z => by cases z⟩
  | _, _, .tup (a := a) hs ha, u, r => by
    obtain rfl : u = Value.ref a := r
    obtain ⟨its, rv, ⟨o, ho, hc, n, hd⟩, _⟩ := I.tuple hs
    obtain ⟨as, hr, hn⟩ := Dd.readsAll I ha its rv
    exact ⟨_, Reads.tuple ho hc hd hr, hn⟩
  | _, _, .dct (a := a) (kvs := pvs) (ds := ds) he ha, u, r => by
    obtain rfl : u = Value.ref a := r
    obtain ⟨_, hne, us, rk, ob, es, ep, ho, hx, hd, _, hp, _⟩ := I.hok _ _ he
    obtain ⟨rk1, rk2⟩ := kv_keys _ _ rk
    obtain ⟨q1, q2⟩ := reads_keys (h := s.heap) es.toList us hp
    have hl : (pvs.map fun p => kd p.1).length = ds.length := by
      rw [List.length_map]
      have := ha.len
      rw [List.length_map] at this
      exact this
    obtain ⟨as, hr, hn⟩ := Dd.readsAll I ha (us.map (·.2)) rk2
    have e1 : us.map (fun p => kd p.1) = pvs.map (fun p => kd p.1) := by
      have := congrArg (List.map kd) rk1
      rw [List.map_map, List.map_map] at this
      exact this.symm
    have f1 : ((pvs.map fun p => kd p.1).zip ds).map (·.1) = pvs.map fun p => kd p.1 := List.map_fst_zip (by rw [hl]; exact Nat.le_refl _)
    have f2 : ((pvs.map fun p => kd p.1).zip ds).map (·.2) = ds := List.map_snd_zip (by rw [hl]; exact Nat.le_refl _)
    refine ⟨_, Reads.dict ho hx.1 hd (as := []) (bs := as) (by rw [f1, ← e1]; exact q1) (by rw [f2, q2]; exact hr), fun z => ?_⟩
    intro hm
    rcases List.mem_cons.mp (show sysModules ∈ a :: ([] ++ as) from hm) with e | hm
    · rw [← e] at hne
      simp at hne
    · exact hn (by rw [← noLk_zip _ _ hl]; exact z) hm
theorem Dd.readsAll (I : Inv X pins σ H s) : ∀ {vs : List V} {ds : List PyData}, DdAll X.K H vs ds → ∀ us : List Value, Vals vs us → ∃ as, ReadsAll s.heap us ds as ∧ (noLs ds = true → sysModules ∉ as)
  | _, _, .nil, us, r => by
    cases r
    exact ⟨_, ReadsAll.nil, fun _ z => by cases z⟩
  | _, _, .cons h1 h2, us, r => by
    cases r with
    | cons r1 r2 =>
      obtain ⟨as, q1, n1⟩ := Dd.reads I h1 _ r1
      obtain ⟨bs, q2, n2⟩ := Dd.readsAll I h2 _ r2
      refine ⟨_, ReadsAll.cons q1 q2, fun z hm => ?_⟩
      obtain ⟨z1, z2⟩ := Bool.and_eq_true_iff.mp z
      rcases List.mem_append.mp hm with m | m
      · exact n1 z1 m
      · exact n2 z2 m
end
end
/-- what repr may be asked of -/
def shOk (d : PyData) : Bool := d.showable && (!d.hasDict || noL d)
/-- repr(x) of data -/
def rRepr (K : PySem.W.Frag) : List V → Hp → VK → Prop := fun xs H Q => ∃ (x : V) (d : PyData),
  xs = [x] ∧ Dd K H x d ∧ shOk d = true ∧ d.depth ≤ 60 ∧ d.shown.length ≤ sizeLine ∧ Q (.str d.shown) H
theorem call_repr {X : Cx} (hg : X.A.guards = some []) (hu : X.A.units + 64 < cLine) : CallR X (.builtin "repr") (rRepr X.K) := by
  intro pins s σ H xs us Q I r h
  obtain ⟨x, d, rfl, hd, hs, hdep, hz, q⟩ := h
  cases r with
  | cons rx rr =>
    cases rr
    rename_i u
    obtain ⟨as, hr, hn⟩ := Dd.reads I hd u rx
    obtain ⟨s1, s2⟩ := Bool.and_eq_true_iff.mp (show (d.showable && (!d.hasDict || noL d)) = true from hs)
    have hsm : d.hasDict = true → sysModules ∉ as := fun z => hn (by rw [z] at s2; simpa using s2)
    have atRef : ∀ {a : Addr}, u = Value.ref a → wpAny (model X.prog X.w) X.A (call (.builtin "repr") [u]) (EP X pins σ Q) X.xe s := fun {a} e => by
      subst e
      exact repr_of_reads' hr s1 hsm hg (by omega) (fun _ _ e => e) (fun h' v tk hk => ⟨.str _, H, I.kept hk, ⟨_, rfl⟩, q⟩) hz
    cases hd with
    | non =>
      obtain rfl : u = Value.none := rx
      exact PySem.P.repr_of_none ⟨.str _, H, I.tok _, ⟨_, rfl⟩, q⟩
    | bl b =>
      obtain rfl : u = Value.bool b := rx
      exact PySem.P.repr_of_bool ⟨.str _, H, I.tok _, ⟨_, rfl⟩, q⟩
    | int i =>
      obtain ⟨t, rfl⟩ := (show ∃ t, u = Value.int i t from rx)
      exact PySem.P.repr_of_int (of_decide_eq_true s1) ⟨.str _, H, I.tok _, ⟨_, rfl⟩, q⟩
    | str x =>
      obtain ⟨t, rfl⟩ := (show ∃ t, u = Value.str x t from rx)
      exact PySem.P.repr_of_str ⟨.str _, H, I.tok _, ⟨_, rfl⟩, q⟩ hz
    | lst _ _ => exact atRef rx
    | tup _ _ => exact atRef rx
    | dct _ _ => exact atRef rx

/-! ### defs that are called where nothing shows itself: the guards are told -/
structure FnG (P : Program) (w : World) (K : PySem.W.Frag) (mg : Str → Option Value) (base : Heap) (CX : CXT) (k : Nat) (f : Addr)
    (fd : FuncData) (ps : List Str) (sp : Sp) : Prop where
  len : ∀ vs H Q E, sp vs H Q E → vs.length = ps.length
  run : ∀ (A : Around) (outer : List Env) (s : Shared) (H : Hp) (args : Args) (us : List Value) (vs : List V) (Q : VK) (E : XK), A.guards = some [] →
    Room k A → Env0 P w K mg base A outer s H → BindsTo s fd args (ps.zip us) → Vals vs us → sp vs H Q E →
      codeAny (model P w) A (.call (.ref f) args) (CR CX outer P w H s Q E) s
section
variable {X : Cx} {CX : CXT} {k : Nat} {f : Addr} {fd : FuncData} {ps : List Str} {sp : Sp} {dvs : List V} {ds : List Value} {E : XK} {x : Str}
  {p pos : Pos} {e : Expr} {es : List Expr} {t : TA}
theorem run_g {pins : List (Addr × Obj)} {σ : St} {H : Hp} {s : Shared} {Q : VK} {us : List Value} {vs : List V}
    (F : FnG X.prog X.w X.K X.mg X.base CX k f fd ps sp) (gd : X.A.guards = some []) (hr : Room k X.A) (hb : Binds X.K fd ps ds) (hd : Vals dvs ds)
    (hx : Passes CX X E) (I : Inv X pins σ H s) (r : Vals vs us) (h : sp (vs ++ dvs) H Q E) :
    wpAny (model X.prog X.w) X.A (call (.ref f) us) (EP X pins σ Q) X.xe s := by
  have r2 := r.append hd
  have hl : (us ++ ds).length = ps.length := r2.length.symm.trans (F.len _ _ _ _ h)
  have hc := F.run X.A X.stack s H ⟨us, []⟩ (us ++ ds) (vs ++ dvs) Q E gd hr I.env0 (hb s us I.kIn hl) r2 h
  refine wpAny_call (codeAny_mono hc fun r s' hq => ?_)
  match r, hq with
  | .error e, hq => exact hx pins σ H s e s' I hq
  | .ok (.ret u), hq => exact I.after hq
  | .ok .next, hq => exact hq.elim
  | .ok .brk, hq => exact hq.elim
  | .ok .cont, hq => exact hq.elim
/-- f(e, ..), f such a def -/
theorem pe_callG (F : FnG X.prog X.w X.K X.mg X.base CX k f fd ps sp) (gd : X.A.guards = some []) (hr : Room k X.A) (hg : Gl X x)
    (hm : X.mg x = some (.ref f)) (hk : PySem.W.keepIn X.K (.ref f) = true) (hb : Binds X.K fd ps ds) (hd : Vals dvs ds) (hx : Passes CX X E)
    (ha : PA X (e :: es) t) (hdb : (x == ("__debug__" : Str)) = false := by decide)
    (he : starEach (e :: es) X.env = (false, eval e X.env) :: starEach es X.env := by rfl)
    (hpl : (backTo pos (starEach es X.env)).any (·.1) = false := by rfl) :
    PE X (.Call (.Name x p) (e :: es) [] pos) (tCall sp dvs E t) := by
  refine ⟨fun pins s σ H Q I h => wpAny_Call_Name_kw (ld_glob I hg hm ?_ hdb)⟩
  have ht := ha.run pos pins s σ H _ I h
  exact PySem.W.callWith_K (h₀ := X.base) I.ok.mod.kin hk
    (thn ht fun us s1 ⟨vs, H1, I1, r, q⟩ => ⟨I1.kIn, run_g F gd hr hb hd hx I1 r q⟩) he hpl
end
section
variable {P : Program} {w : World} {K : PySem.W.Frag} {mg : Str → Option Value} {base : Heap}
/-- a def's promise by its body, the guards told -/
theorem okG {CX : CXT} {x qual : Str} {st : Stmt} {f : Addr} {fd : FuncData} {N ps : List Str} {k : Nat} {sp : Sp} (F : Fun K x qual st f fd)
    (S : FnScope N ps (defScope st)) (len : ∀ vs H Q E, sp vs H Q E → vs.length = ps.length)
    (hbody : ∀ (cdv : Value) (A : Around) (outer : List Env) (s : Shared) (H : Hp) (vs : List V) (Q : VK) (E : XK), A.guards = some [] →
      Room k (A.deeper (envOfC qual (defScope st) s.heap.objs.size f cdv)) → sp vs H Q E →
      ∃ t, PSs (cxOf CX P w K mg base N qual (defScope st) f cdv A outer s H E) (defBody st) t ∧
        t { nx := fun _ H' => Q .non H', rt := Q } (start N vs) H) : FnG P w K mg base CX (k + 1) f fd ps sp := by
  obtain ⟨oc, od, kV, doc, pm, an, cdv, ct, osl, rfl, lk, hcd⟩ := F.ex
  refine ⟨len, fun A outer s H args us vs Q E gd hr e0 hb r hsp => ?_⟩
  have old : ∀ b o, base.get? b = some o → s.heap.get? b = some o := fun b o e => (e0.bs b o e).1
  have KX : K.In s.heap := e0.mod.kin.keeps old
  have par : ∀ y ∈ ps.zip us, (defScope st).names.lookup y.1 = some .local ∨
      ((defScope st).names.lookup y.1 = some .cell ∧ ((cellsFrom (s.heap.objs.size + 1) (defScope st).names []).lookup y.1).isSome = true) := by
    intro y hy
    obtain ⟨n, v⟩ := y
    rcases S.par n (List.of_mem_zip hy).1 with q | q
    · exact .inl q
    · exact .inr ⟨q, PySem.W.cellsFrom_some _ _ _ (.inl q)⟩
  refine codeAny_call_function hr.depth (KX _ _ lk) rfl S.co S.gen rfl (PySem.W.codeRec_of KX hcd) (hb _ _ _ _ ?_)
  refine wpAny_newFunctionEnv_cells S.kind par fun env he s1 ic => ?_
  subst he
  refine ⟨(e0.mod.nolimit.keeps old).keeps ic.toInCall.keep, codeAny_func ?_⟩
  obtain ⟨t, ht, hq⟩ := hbody cdv A outer s H vs Q E gd (hr.deeper _) hsp
  have I := inv_start (CX := CX) (E := E) S hr.hd e0 (len _ _ _ _ hsp) r ic
  refine wpAny_mono (ht.run [] s1 _ H _ I hq) (fun fl s' hs => ?_) fun _ _ z => z
  match fl, hs with
  | .ret u, ⟨v, σ', H', J, rv, q⟩ => exact ⟨v, H', J.os, J.bare, J.base, J.hok, rv, q⟩
  | .next, ⟨σ', H', J, q⟩ => exact ⟨V.non, H', J.os, J.bare, J.base, J.hok, rfl, q⟩
  | .brk, ⟨_, _, _, q⟩ => exact q.elim
  | .cont, ⟨_, _, _, q⟩ => exact q.elim
/-- .. one that lets nothing out -/
theorem okG0 {x qual : Str} {st : Stmt} {f : Addr} {fd : FuncData} {N ps : List Str} {k : Nat} {sp : Sp} (F : Fun K x qual st f fd)
    (S : FnScope N ps (defScope st)) (len : ∀ vs H Q E, sp vs H Q E → vs.length = ps.length)
    (hbody : ∀ (cdv : Value) (A : Around) (outer : List Env) (s : Shared) (H : Hp) (vs : List V) (Q : VK) (E : XK), A.guards = some [] →
      Room k (A.deeper (envOfC qual (defScope st) s.heap.objs.size f cdv)) → sp vs H Q E →
      ∃ t, PSs (cxOf CX0 P w K mg base N qual (defScope st) f cdv A outer s H E).nox (defBody st) t ∧
        t { nx := fun _ H' => Q .non H', rt := Q } (start N vs) H) : FnG P w K mg base CX0 (k + 1) f fd ps sp :=
  okG F S len fun cdv A outer s H vs Q E gd hr hsp => by
    obtain ⟨t, h, q⟩ := hbody cdv A outer s H vs Q E gd hr hsp
    exact ⟨t, h.nox, q⟩
end
end L2.Vx

set_option Elab.async false
set_option linter.all false
set_option maxRecDepth 100000
set_option maxHeartbeats 2000000
namespace L2.Vx
open PySem PySem.Spec PyProof.Rows

/-- the end of a law whose def is told the guards -/
theorem law_callG {P : Program} {w : World} {K : PySem.W.Frag} {mg mb : Str → Option Value} {CX : CXT} {k : Nat} {fa a : Addr} {fd : FuncData} {x : Str} {sp : Sp}
    {s₁ : Shared} {vs : List Value} {ns : List Int}
    (KX : K.In s₁.heap) (hns : s₁.heap.Ns mainGlobals mg) (hb : s₁.heap.Ns builtinsNs mb) (hbb : ∀ x : Str, x ≠ "__name__" → mb x = bootBuiltins x)
    (hlim : s₁.heap.NoLimit) (hg : s₁.gens = #[]) (ha : s₁.heap.get? a = some { cls := .type "list", data := .seq vs.toArray }) (hi : IntsAre vs ns)
    (hl : ns.length ≤ sizeLine) (hr : Room k callerA)
    (F : ∀ base : Heap, K.In base → base.Ns mainGlobals mg → FnG P w K mg base CX k fa fd [x] sp)
    (hbind : ∀ (s : Shared) (u : Value), BindsTo s fd ⟨[u], []⟩ [(x, u)])
    (hsp : ∀ H : Hp, Only H → SqL K H a (ns.map V.int) → sp [.ref a] H (fun v _ => v = .bl true) fun _ _ _ => False)
    (hCX : ∀ H e s', CX [] H s₁ (fun _ _ _ => False) e s' → False) :
    codeAny (model P w) callerA (.call (.ref fa) ⟨[.ref a], []⟩)
      (fun r s' => r = .ok (.ret (.bool true)) ∧ OldK s₁.heap s'.heap ∧ s'.os = s₁.os ∧ AllBare s'.gens) s₁ := by
  have lenV := hi.length
  have rv := vals_ints hi
  -- whatever of the script is tracked
  have any : ∀ H : Hp, Only H → SqL K H a (ns.map V.int) → HOk P w H s₁.heap → (∀ b u, H b = some u → b = a) → (∀ u, H a = some u → K.lookup a = none) →
      codeAny (model P w) callerA (.call (.ref fa) ⟨[.ref a], []⟩)
        (fun r s' => r = .ok (.ret (.bool true)) ∧ OldK s₁.heap s'.heap ∧ s'.os = s₁.os ∧ AllBare s'.gens) s₁ := by
    intro H hO hS hok only free
    have stays : ∀ {b : Addr} {o : Obj}, s₁.heap.get? b = some o → (∀ u, H b = some u → False) → (hidT s₁.heap H).get? b = some o := by
      intro b o e n
      refine hidT_get e ?_
      cases q : H b with
      | none => rfl
      | some u => exact (n u q).elim
    have dictStays : ∀ {b : Addr} {o : Obj} {es : Array DictEntry} {ep : Nat}, s₁.heap.get? b = some o → o.data = .dict es ep → (hidT s₁.heap H).get? b = some o := by
      intro b o es ep e d
      refine stays e fun u q => ?_
      have eb := only b u q
      subst eb
      rw [ha] at e
      cases e
      cases d
    have ns' : ∀ {b : Addr} {m : Str → Option Value}, s₁.heap.Ns b m → (hidT s₁.heap H).Ns b m := by
      intro b m h
      obtain ⟨o, es, ep, e, d, r⟩ := h
      exact ⟨o, es, ep, dictStays e d, d, r⟩
    have KB : K.In (hidT s₁.heap H) := by
      intro b o e
      refine stays (KX b o e) fun u q => ?_
      have eb := only b u q
      subst eb
      rw [free u q] at e
      cases e
    have M : Mod K mg (hidT s₁.heap H) := by
      obtain ⟨mc, h1, h2⟩ := hlim
      exact ⟨KB, ns' hns, ⟨mb, ns' hb, hbb⟩, ⟨mc, ns' h1, h2⟩⟩
    have e0 : Env0 P w K mg (hidT s₁.heap H) callerA [] s₁ H :=
      { frames := rfl, mod := M, bs := fun b o e => of_hidT e, bsz := Nat.le_of_eq (hidT_size _ _), funs := trivial, frf := fun b z => (by cases z), hok := hok, bare := .of_eq hg }
    have run := (F _ KB (ns' hns)).run callerA [] s₁ H ⟨[.ref a], []⟩ [.ref a] [.ref a] _ _ rfl hr e0 (hbind s₁ (.ref a)) (.cons rfl .nil) (hsp H hO hS)
    refine codeAny_mono run fun r s' h => ?_
    match r, h with
    | .error e, h => exact (hCX H e s' h).elim
    | .ok .next, h => exact h.elim
    | .ok .brk, h => exact h.elim
    | .ok .cont, h => exact h.elim
    | .ok (.ret u), ⟨v, H', os, bare, un, hok', r', q⟩ =>
      obtain rfl : v = .bl true := q
      obtain rfl : u = Value.bool true := r'
      refine ⟨rfl, OldK.of_keep fun b o e => ?_, os, bare⟩
      rcases hO b with z | ⟨ob, xs, z⟩
      · exact un.keep b o e z (fun z => by cases z) (fun z => by cases z)
      · obtain ⟨e1, _⟩ := hok b _ z
        obtain ⟨e2, _⟩ := hok' b _ (un.frzs b ob _ z)
        rw [e] at e1
        cases e1
        exact e2
  cases hk : K.lookup a with
  | some o =>
    have e := KX a o hk
    rw [ha] at e
    cases e
    refine any (fun _ => none) (fun _ => .inl rfl) (.inr ⟨_, vs.toArray, _, hk, rfl, rfl, rfl, ?_, by simpa using rv⟩) (fun b u z => by cases z) (fun b u z => by cases z) (fun u z => by cases z)
    rw [List.size_toArray, lenV]
    exact hl
  | none =>
    refine any (fun b => if b = a then some (.frz { cls := .type "list", data := .seq vs.toArray } (.lst (ns.map V.int))) else none) (fun b => ?_)
      (.inl (.inr ⟨{ cls := .type "list", data := .seq vs.toArray }, if_pos rfl⟩)) (fun b u z => ?_) (fun b u z => ?_) (fun _ _ => hk)
    · by_cases q : b = a
      · exact .inr ⟨_, _, if_pos q⟩
      · exact .inl (if_neg q)
    · by_cases q : b = a
      · subst q
        have z := (if_pos rfl).symm.trans z
        cases z
        exact ⟨ha, by rw [List.length_map]; exact hl, vs, _, rv, ha⟩
      · have z := (if_neg q).symm.trans z
        cases z
    · by_cases q : b = a
      · exact q
      · have z := (if_neg q).symm.trans z
        cases z
theorem walk_ofG {l : PySem.W.OpenLaw} {n k : Nat} {q : Program} {loose : List Str} {XP : (Str → Option Value) → Heap → Prop} {YP : World → Heap → Prop} {d : DefRec}
    {K : Params → PySem.W.Frag} {CX : World → CXT} {sp : World → Sp} {x : Str}
    (hn : l.most = some n) (hn2 : n ≤ sizeLine) (hdf : d.params.defaults = []) (hr : Room k callerA) (hY : ∀ (w : World) (h : Heap), YP w h → (K w.params).In h)
    (F : ∀ (w : World) (mg : Str → Option Value) (fa : Addr) (h : Heap), (K w.params).In h → h.Ns mainGlobals mg → mg d.name = some (.ref fa) →
      ∃ fd : FuncData, (∀ (s : Shared) (u : Value), BindsTo s fd ⟨[u], []⟩ [(x, u)]) ∧
        ∀ base : Heap, (K w.params).In base → base.Ns mainGlobals mg → FnG l.prog w (K w.params) mg base (CX w) k fa fd [x] (sp w))
    (hsp : ∀ (w : World) (H : Hp) (a : Addr) (ns : List Int), ns.length ≤ n → Only H → SqL (K w.params) H a (ns.map V.int) →
      sp w [.ref a] H (fun v _ => v = .bl true) fun _ _ _ => False)
    (hCX : ∀ (w : World) (H : Hp) (s : Shared) (e : Value) (s' : Shared), CX w [] H s (fun _ _ _ => False) e s' → False) :
    PySem.W.WalkO q loose XP YP l.row.toRowW d [] (fun f vs => PySem.call f vs) := by
  refine Att.attach_call hn hdf fun w s₀ s₁ mg mb fa o pm cd doc a vs ns G Y ho hd hcd hmg hobj hints hlen hg => ?_
  have KX := hY w _ Y
  obtain ⟨fd, hb, hF⟩ := F w mg fa _ KX G.T.g hmg
  refine law_callG KX G.T.g G.T.b G.T.builtins G.T.nolimit hg hobj hints (Nat.le_trans hlen hn2) hr hF hb (fun H hO hS => ?_) fun H e s' => hCX w H s₁ e s'
  exact hsp w H a ns hlen hO hS
end L2.Vx

set_option Elab.async false
set_option linter.all false
set_option maxRecDepth 100000
set_option maxHeartbeats 2000000
namespace L2.Vx
open PySem PySem.Spec PyProof.Rows
open PySem.W (Frag)

/-! ### the facts of an error class as one Bool -/
/-- the class object itself -/
def ecB (K : Frag) (C : Addr) : Bool := match K.lookup C with
  | some ⟨.type t, _, .cls cd, sl⟩ => decide (t = "type") && (match cd.mro, sl.toList with
    | .ref D :: bm, [_, _, _, _, some (.builtin n), _] => decide (D = C) && (decide (n = "ValueError.__new__") && (!cd.hasDel && (PySem.HandSPX.refsVE bm && cd.hasDict)))
    | _, _ => false)
  | _ => false
theorem ec_ok {K : Frag} {C : Addr} (h : ecB K C = true) : ∃ nm q N bs bm sn sub ab col dd k0 k1 k2 k3 k5,
    K.lookup C = some (excClassObj nm q C N bs bm true sn sub ab col dd k0 k1 k2 k3 k5 "ValueError.__new__") ∧ PySem.HandSPX.refsVE bm = true := by
  unfold ecB at h
  split at h
  · rename_i t dd cd sl ho
    obtain ⟨h0, h⟩ := Bool.and_eq_true_iff.mp h
    split at h
    · rename_i D bm k0 k1 k2 k3 n k5 hm hs
      obtain ⟨h1, h⟩ := Bool.and_eq_true_iff.mp h
      obtain ⟨h2, h⟩ := Bool.and_eq_true_iff.mp h
      obtain ⟨h3, h⟩ := Bool.and_eq_true_iff.mp h
      obtain ⟨h4, h5⟩ := Bool.and_eq_true_iff.mp h
      have e0 := of_decide_eq_true h0
      have e1 := of_decide_eq_true h1
      have e2 := of_decide_eq_true h2
      obtain ⟨nm, bs, mro, ns, qn, hd, sn, sub, ab, col, del⟩ := cd
      dsimp only at hm h3 h4 h5
      have h3' : del = false := by simpa using h3
      subst hm h3' h5 e0 e1 e2
      have hsl : sl = #[k0, k1, k2, k3, some (.builtin "ValueError.__new__"), k5] := by
        rw [← hs]
      subst hsl
      exact ⟨nm, qn, ns, bs, bm, sn, sub, ab, col, dd, k0, k1, k2, k3, k5, ho, h4⟩
    · cases h
  · cases h
def eqV1 (a b : Option (Option Value)) : Bool := decide (a = b)
def errB (K : Frag) (C fI : Addr) : Bool :=
  ecB K C && (eqV1 (PySem.W.findIn K (.ref C) "__setattr__") (some (some (.builtin "object.__setattr__"))) &&
  (eqV1 (PySem.W.findIn K (.ref C) "__getattribute__") (some (some (.builtin "BaseException.__getattribute__"))) &&
  (eqV1 (PySem.W.findIn K (.ref C) "__getattr__") (some none) && (eqV1 (PySem.W.findIn K (.ref C) "value") (some none) &&
  (eqV1 (PySem.W.findIn K (.ref C) "__init__") (some (some (.ref fI))) && (decide (PySem.W.typeIn K (.ref fI) = some (.type "function")) &&
  (PySem.W.keepIn K (.ref C) && (decide (PySem.W.subIn K (.ref C) (.type "BaseException") = some true) &&
  (decide (PySem.W.typeIn K (.ref C) = some (.type "type")) && (PySem.W.hasDictIn K C && ((PySem.W.clsIn K C).isSome &&
  (eqV1 (PySem.W.findIn K (.ref C) "__class__") (some (some (.builtin "object.__class__"))) &&
  (eqV1 (PySem.W.specialIn K (.builtin "object.__class__") "__get__") (some (some (.builtin "getset_descriptor.__get__"))) &&
  (decide (PySem.W.takesIn K (.builtin "object.__class__") = some true) && decide (PySem.W.mroIn K C (.type "object") = some true)))))))))))))))
/-- the own __init__ of all of them -/
def InitF (K : Frag) (fI : Addr) : Prop := ∃ (oc : Value) (od : Option Addr) (kV doc pm : Value) (an : Option Addr) (cdv ct : Value)
  (osl : Array (Option Value)) (p1 p2 q1 q2 q3 q4 : Pos), K.lookup fI = some ⟨oc, od, .func (PySem.W.fnOf "__init__" "DrawError.__init__"
    (PySem.DrX.iA p1 p2) (PySem.DrX.iB q1 q2 q3 q4) PySem.DrX.iS .none kV doc pm an cdv ct), osl⟩ ∧ PySem.W.codeIn K cdv "DrawError.__init__" = true
theorem err_ok {K : Frag} {C fI : Addr} (h : errB K C fI = true) (fn : InitF K fI) : ErrT K C fI := by
  have ba := @Bool.and_eq_true_iff
  obtain ⟨h1, h⟩ := ba.mp h
  obtain ⟨h2, h⟩ := ba.mp h
  obtain ⟨h3, h⟩ := ba.mp h
  obtain ⟨h4, h⟩ := ba.mp h
  obtain ⟨h5, h⟩ := ba.mp h
  obtain ⟨h6, h⟩ := ba.mp h
  obtain ⟨h7, h⟩ := ba.mp h
  obtain ⟨h8, h⟩ := ba.mp h
  obtain ⟨h9, h⟩ := ba.mp h
  obtain ⟨h10, h⟩ := ba.mp h
  obtain ⟨h11, h⟩ := ba.mp h
  obtain ⟨h12, h⟩ := ba.mp h
  obtain ⟨h13, h⟩ := ba.mp h
  obtain ⟨h14, h⟩ := ba.mp h
  obtain ⟨h15, h16⟩ := ba.mp h
  exact { cls := ec_ok h1, sa := of_decide_eq_true h2, ga := of_decide_eq_true h3, gg := of_decide_eq_true h4, noN := of_decide_eq_true h5,
          iC := of_decide_eq_true h6, tC := of_decide_eq_true h7, kC := h8, exC := of_decide_eq_true h9, tyC := of_decide_eq_true h10, hdC := h11,
          cls' := h12, ha := of_decide_eq_true h13, hn := of_decide_eq_true h14, ht := of_decide_eq_true h15, hm := of_decide_eq_true h16, fn := fn }
/-! ### a reading, one step -/
section
variable {t u : TS} {D : Ends} {σ : St} {H : Hp} {te tv : TE} {ta : TA} {g : TG} {Q : VK} {c : TT}
theorem rd_seq (h : t { D with nx := u D } σ H) : tSeq t u D σ H := h
theorem rd_asg (h : te σ H fun x H1 => g x σ H1 D.nx) : tAsg te g D σ H := h
theorem rd_set {i : Nat} (h : te σ H fun x H1 => D.nx (σ.set i (some x)) H1) : tAsg te (gName i) D σ H := h
theorem rd_lst (h : ta σ H fun xs H1 => xs.length ≤ sizeLine ∧ ∀ p, H1 p = none → Q (.ref p) (upd H1 p (.lst xs))) : tLst ta σ H Q := h
theorem rd_tup (h : ta σ H fun xs H1 => xs.length ≤ sizeLine ∧ ∀ p, H1 p = none → Q (.ref p) (upd H1 p (.tup xs))) : tTup ta σ H Q := h
theorem rd_yes {F : Bool → Hp → Prop} {A B : Prop} (e : F true H = if true = true then A else B) (h : A) : tYes σ H F := by
  show F true H
  rw [e, if_pos rfl]
  exact h
theorem rd_drop (h : te σ H fun _ H1 => D.nx σ H1) : tDrop te D σ H := h
theorem rd_ret (h : te σ H D.rt) : tRet te D σ H := h
theorem rd_if (h : c σ H fun b H1 => if b = true then t D σ H1 else u D σ H1) : tIfS c t u D σ H := h
theorem rd_cons {tr : TA} {Q : List V → Hp → Prop} (h : te σ H fun x H1 => tr σ H1 fun xs H2 => Q (x :: xs) H2) : tCons te tr σ H Q := h
theorem rd_op {r : R2} {tb : TE} (h : te σ H fun x H1 => tb σ H1 fun y H2 => r x y H2 Q) : tOp r te tb σ H Q := h
theorem rd_cb {r : List V → Hp → VK → Prop} (h : ta σ H fun vs H1 => r vs H1 Q) : tCB r ta σ H Q := h
theorem rd_bm {K : PySem.W.Frag} {T : String} {r : V → List V → Hp → VK → Prop} (h : te σ H fun x H1 => tyV K T x H1 ∧ ta σ H1 fun xs H2 => r x xs H2 Q) : tBM K T r te ta σ H Q := h
end
/-- a class, a def as a value -/
theorem pe_ref {X : Cx} {x : Str} {a : Addr} {pos : Pos} (hm : X.mg x = some (.ref a)) (hg : Gl X x := by rfl) (hd : (x == ("__debug__" : Str)) = false := by decide) :
    PE X (.Name x pos) (tC (.ref a)) := pe_glob hg hm rfl hd
theorem same_new {H : Hp} {p : Addr} {o : HO} (h : H p = none) : Same H (upd H p o) := fun b u e => by
  rw [upd_ne (ne_of_none e h)]
  exact e
/-- what did not stand before may change -/
theorem _root_.L2.Same.mut {H H' : Hp} {p : Addr} {o : HO} (e : Same H H') (h : H p = none) : Same H (upd H' p o) := fun b u q => by
  rw [upd_ne (ne_of_none q h)]
  exact e _ _ q
end L2.Vx

set_option Elab.async false
set_option linter.all false
set_option maxRecDepth 100000
set_option maxHeartbeats 2000000
namespace L2.Vx
open PySem PySem.Spec PyProof.Rows

section
variable {X : Cx} {pins : List (Addr × Obj)} {σ : St} {H : Hp} {s : Shared}
/-- a pinned exception, new since the entry, is tracked from now on -/
theorem inv_track {a : Addr} {oe : Obj} {vs : Array Value} {cls : Value} {d : Option Addr} (I : Inv X ((a, oe) :: pins) σ H s)
    (new : X.s_0.heap.get? a = none) (hz : Zc cls d oe) (hd : oe.data = .fields vs) (ap : ∀ p ∈ X.pn ++ pins, p.1 ≠ a) :
    Inv X pins σ (upd H a (EX a cls d)) s := by
  obtain ⟨ha, na, nL, nF, ncell⟩ := I.pin (a, oe) (List.mem_append_right _ List.mem_cons_self)
  have off : ∀ {b : Addr} {o : Obj}, X.s_0.heap.get? b = some o → b ≠ a := fun {b o} e z => by
    rw [z, new] at e
    cases e
  have low : ∀ {b : Addr} {u : HO}, H b = some u → upd H a (EX a cls d) b = some u := fun {b u} e => by
    rw [upd_ne (ne_of_none e na)]
    exact e
  have pin' : ∀ p ∈ X.pn ++ pins, p ∈ X.pn ++ (a, oe) :: pins := fun p hp => by
    rcases List.mem_append.mp hp with m | m
    · exact List.mem_append_left _ m
    · exact List.mem_append_right _ (List.mem_cons_of_mem _ m)
  refine ⟨I.ok, I.os, I.bare, ⟨I.base.keep, I.base.slot, fun b o e n hx => ?_, I.base.there, fun b xs q => low (I.base.tups b xs q), fun b o u q => low (I.base.frzs b o u q), fun b ps q => ?_⟩, I.loc, I.cell, ?_, fun x c e => ?_, fun p hp => ?_, I.hok.laidN (fun _ _ e => e) na (ex_ok ha hz hd), I.len⟩
  · rw [upd_ne (off e)]
    exact I.base.free b o e n hx
  · obtain ⟨more, q'⟩ := I.base.tbls b ps q
    exact ⟨more, low q'⟩
  · rw [upd_ne (Ne.symm nL)]
    exact I.free
  · have hc : c ≠ a := fun z => by
      obtain ⟨v, o, e1, e2⟩ := I.cell x c e
      rw [z, show s.heap.get? a = some oe from ha] at e1
      cases e1
      exact ncell _ e2
    rw [upd_ne hc]
    exact I.freeC x c e
  · obtain ⟨e1, e2, e3, e4, e5⟩ := I.pin p (pin' p hp)
    exact ⟨e1, by rw [upd_ne (ap p hp)]; exact e2, e3, e4, e5⟩
end

/-- what 'except x as n: m = n' wishes of an exception of the body: slot i is n's, j is m's -/
def wHold (K : PySem.W.Frag) (c : Value) (i j : Nat) (Wout : WX) (D : Ends) : WX := fun cls d σ H =>
  ∃ b, PySem.W.exmOne K cls c = some b ∧ (b = true → ∀ a, H a = none → D.nx (((σ.set i (some (.ref a))).set j (some (.ref a))).set i none) (upd H a (EX a cls d))) ∧
    (b = false → Wout cls d σ H)
section
variable {X : Cx} {x n m : Str} {c : Value} {i j : Nat} {body : List Stmt} {np pos pos' q1 q2 q3 : Pos} {tb : WX → TS} {Wout : WX}
theorem ps_try_hold (hs : X.stack = X.env :: X.outer) (hf : X.env.frame = some X.env.locals) (hex : X.ex = []) (hN : X.N.Nodup) (hi : X.N[i]? = some n) (hj : X.N[j]? = some m)
    (hln : X.env.kindOf n = some .local) (hlm : X.env.kindOf m = some .local) (hc : Names X x c) (tk : Takes X Wout) (hdn : (n == ("__debug__" : Str)) = false := by decide) (hdc : (n == ("__classdict__" : Str)) = false := by decide)
    (hb : ∀ (W : WX) (pn : List (Addr × Obj)) (xe : Value → Shared → Prop), Takes (X.tr pn xe) W → PassesOwn (model X.prog X.w) X.A X.env xe → PSs (X.tr pn xe) body (tb W))
    (hsw : ∀ (a : Addr) (pn : List (Addr × Obj)), swapsWith (.Name n q2) (some (.Name m q1)) q3.line (X.suite a pn).env = pure false := by intro _ _; rfl) :
    PS X (.Try body [.ExceptHandler (some (.Name x np)) (some n) [.Assign [.Name m q1] (.Name n q2) q3] pos'] [] [] pos) (fun D σ H => tb (wHold X.K c i j Wout D) D σ H) := by
  refine ⟨fun pins s σ H D I h => ?_⟩
  have ok := I.ok
  have hfr : X.A.frames = some (X.env :: X.outer) := ok.frames.trans (congrArg some hs)
  have hloc : Loc X.env.scope n := .inl hln
  have hlom : Loc X.env.scope m := .inl hlm
  refine wpAny_Try_except ?_
  let hs_ : List ExceptHandler := [.ExceptHandler (some (.Name x np)) (some n) [.Assign [.Name m q1] (.Name n q2) q3] pos']
  let xe' : Value → Shared → Prop := fun e s₁ => wpAny (model X.prog X.w) X.A (noteFrame e X.env) (fun _ s₂ => wpAny (model X.prog X.w) X.A (setFlight e none) (fun _ s₃ =>
    wpAny (model X.prog X.w) X.A (handleBy e X.env hs_) (SP X pins D) X.xe s₃) X.xe s₂) X.xe s₁
  have hbody := hb (wHold X.K c i j Wout D) (X.pn ++ pins) xe' (fun u s' xx => ?_) PassesOwn.looking
  · refine wpAny_mono (hbody.run [] s σ H D (I.toTry _) h) (fun f s1 hsp => ?_) (fun e s1 he => he)
    match f, hsp with
    | .next, ⟨σ', H', J', q⟩ => exact wpAny_execs_nil ⟨σ', H', J'.ofTry ok, q⟩
    | .brk, ⟨σ', H', J', q⟩ => exact ⟨σ', H', J'.ofTry ok, q⟩
    | .cont, ⟨σ', H', J', q⟩ => exact ⟨σ', H', J'.ofTry ok, q⟩
    | .ret u, ⟨v, σ', H', J', r, q⟩ => exact ⟨v, σ', H', J'.ofTry ok, r, q⟩
  · -- caught
    obtain ⟨a, B, sI, pins', σ', H', cls, d, rfl, J', nb, up, sky, na, os, ag, b, hb1, hyes, hno⟩ := xx
    have J : Inv X pins σ' H' sI := J'.ofTry ok
    rw [hs] at sky
    show wpAny (model X.prog X.w) X.A (noteFrame (.ref a) X.env) _ _ _
    refine Sky.land Zc.steady hfr hf sky fun h3 fl3 up3 => ?_
    have J3 : Inv X pins σ' H' { s' with heap := h3 } := J.landed nb fl3.1 (up.trans up3) os ag
    obtain ⟨oe3, vs3, he3, hz3, hd3⟩ := fl3.there
    have nfr : a ∉ frs (X.env :: X.outer) := fun hm => by
      obtain ⟨_, o', e', hnf⟩ := fl3.2.2.1.mem hm
      rw [he3] at e'
      cases e'
      exact hnf _ hd3
    have nL : a ≠ X.env.locals := fun z => nfr (List.mem_filterMap.mpr ⟨X.env, List.mem_cons_self, hf.trans (congrArg some z.symm)⟩)
    have nF : a ∉ X.fs := fun hm => by
      obtain ⟨e, he, q⟩ := List.mem_filterMap.mp hm
      exact nfr (List.mem_filterMap.mpr ⟨e, List.mem_cons_of_mem _ he, q⟩)
    -- the exception is new
    have outI : sI.heap.get? a = none := by
      cases q : sI.heap.get? a with
      | none => rfl
      | some o =>
        have z := nb a o q (by rw [hs]; exact nfr)
        rw [fl3.2.1] at z
        cases z
    have new : X.s_0.heap.get? a = none := by
      cases q : X.s_0.heap.get? a with
      | none => rfl
      | some o =>
        obtain ⟨o', z⟩ := J.base.there a o q (by rw [hex]; simp)
        rw [outI] at z
        cases z
    have apart : ∀ p ∈ X.pn ++ pins, p.1 ≠ a := fun p hp z => by
      have q := (J.pin p hp).1
      rw [z, outI] at q
      cases q
    have S3 := J3.suite he3 hd3 na nL nF
    refine wpAny_handleBy_cons (codeAny_handlers_test ?_) (by intro q; cases q)
    have LT : PySem.W.Looks (model X.prog X.w) h3 (typeOf (.ref a)) cls := fun A Q E s k q => wpAny_typeOf_ref (k _ _ he3) (by rw [hz3.1]; exact q)
    have LM := PySem.W.exm_one (M := model X.prog X.w) J3.kIn LT hb1
    have test : ∀ {Q : Value → Shared → Prop} {E : Value → Shared → Prop}, Q c { s' with heap := h3 } →
        wpAny (model X.prog X.w) (X.A.mark (some (.ref a))) (eval (.Name x np) X.env) Q E { s' with heap := h3 } := by
      intro Q E q
      obtain ⟨hg, hdbg, hm | ⟨hm, hv, hnn⟩⟩ := hc
      · exact ld_glob (X := X.suite a ((a, oe3) :: (X.pn ++ pins))) S3 hg hm q hdbg
      · exact ld_blt (X := X.suite a ((a, oe3) :: (X.pn ++ pins))) S3 hg hm hv q hnn hdbg
    refine test (LM.here ?_)
    cases b with
    | true =>
      refine codeAny_handlers_suite_as ?_
      refine HandSPX.lands_againZ fl3 fun h4 fl4 up4 => ?_
      have J4 : Inv X pins σ' H' { s' with heap := h4 } := J.landed nb fl4.1 ((up.trans up3).trans up4) os ag
      obtain ⟨oe4, vs4, he4, hz4, hd4⟩ := fl4.there
      have S4 := J4.suite he4 hd4 na nL nF
      refine store_ok (X := X.suite a ((a, oe4) :: (X.pn ++ pins))) (v := .ref a) S4 hN hi hloc rfl (fun s5 S5 => ?_) (.inr hln)
      have li : i < σ'.length := by
        rw [J.len]
        exact (List.getElem?_eq_some_iff.mp hi).1
      have asg : PSs (X.suite a ((a, oe4) :: (X.pn ++ pins))) [.Assign [.Name m q1] (.Name n q2) q3] (tAsg (tVar i) (gName j)) :=
        pss_one (ps_set hN hj hlom (pe_var hi (.inl hln) hdn hdc) (hsw a _) (.inr hlm))
      refine wpAny_mono (asg.run [] s5 _ H' { nx := fun σ6 H6 => σ6 = (σ'.set i (some (.ref a))).set j (some (.ref a)) ∧ H6 = H', rt := fun _ _ => False } S5 ?_) (fun f s6 hsp => ?_) (fun _ _ z => False.elim z)
      · exact ⟨.ref a, by rw [List.getElem?_set_self li], rfl, rfl⟩
      · match f, hsp with
        | .ret u, ⟨_, _, _, _, _, z⟩ => exact z.elim
        | .brk, ⟨_, _, _, z⟩ => exact z.elim
        | .cont, ⟨_, _, _, z⟩ => exact z.elim
        | .next, ⟨σ6, H6, S6, e6, eH⟩ =>
          subst e6
          subst eH
          have J6 : Inv X ((a, oe4) :: pins) ((σ'.set i (some (.ref a))).set j (some (.ref a))) H6 s6 :=
            ⟨ok, S6.os, S6.bare, S6.base, S6.loc, S6.cell, S6.free, S6.freeC, fun p hp => S6.pin p (by
              rw [List.append_nil]
              rcases List.mem_append.mp hp with q | q
              · exact List.mem_cons_of_mem _ (List.mem_append_left _ q)
              · rcases List.mem_cons.mp q with q | q
                · rw [q]; exact List.mem_cons_self
                · exact List.mem_cons_of_mem _ (List.mem_append_right _ q)), S6.hok, S6.len⟩
          refine gone_ok J6 hN hi hln fun s7 J7 => ⟨_, _, inv_track J7 new hz4 hd4 apart, hyes rfl a na⟩
    | false =>
      show wpAny _ X.A (handleBy (.ref a) X.env []) _ _ _
      refine wpAny_handleBy_nil ?_
      obtain ⟨k1, k2, k3, oe, vs, T, oT, ts', he, hz, hd, h1, hr⟩ := id fl3
      unfold PySem.passOn
      refine wpAny_bind (wpAny_field he hd h1 ?_)
      rw [if_neg (show ¬ ((Value.ref T == Value.none) = true) from by simp)]
      have fin : wpAny (model X.prog X.w) X.A (setFlight (.ref a) X.env.frame) (fun _ s4 => wpAny (model X.prog X.w) X.A (throw (.ref a) : Sem Flow) (SP X pins D) X.xe s4) X.xe { s' with heap := h3 } := by
        rw [hf]
        refine HandSPX.setFlight_upZ fl3 fun h4 hh4 up4 => wpAny_throw (tk _ _ ?_)
        exact ⟨a, B, sI, pins, σ', H', cls, d, rfl, J, nb, (up.trans up3).trans up4, .inr (.inr (by rw [hs]; exact hh4)), na, os, ag, hno rfl⟩
      first
        | exact wpAny_bind (wpAny_pure (wpAny_bind fin))
        | exact wpAny_bind fin
end
end L2.Vx

set_option Elab.async false
set_option linter.all false
set_option maxRecDepth 100000
set_option maxHeartbeats 2000000
namespace L2.Vx
open PySem PySem.Spec PyProof.Rows
open LamX (CodeO Tabs TabS TabB ExtN LamS lamEnv lamCx lam_make2 lam_start2 lamS_by)

section
variable {X : Cx} {pins : List (Addr × Obj)} {σ : St} {H : Hp} {s : Shared}
/-- the call of a lambda that was handed in, what it raises being wished for at the slots as they stand -/
theorem pe_act2 {CXg : CXT} {Eg : XK} {Ng : List Str} {qg : Str} {sg : Scope} {g f c' : Addr} {cdg pm ctv : Value} {params : Arguments} {body : Expr} {scope : Scope} {k i : Nat} {a : Str}
    {pn : List (Addr × Obj)} {xe : Value → Shared → Prop} {W : WX} {E : XK} {tb : TE} {p1 p2 : Pos}
    (I : Inv X pins σ H s) (L : LamS X.env.scope scope)
    (hf : s.heap.get? f = some (PySem.W.kla_obj "<lambda>" (X.env.qual ++ "<lambda>") params body scope (cloFrom X.env.cells scope.names []) pm c' ctv)) (hfn : H f = none) (hfr : f ∉ frs X.stack)
    (hbind : bindArgs (PySem.W.kla_fn "<lambda>" (X.env.qual ++ "<lambda>") params body scope (cloFrom X.env.cells scope.names []) pm (.ref c') ctv) ⟨[], []⟩ = pure [])
    (tk : Takes ((cxOf CXg X.prog X.w X.K X.mg X.base Ng qg sg g cdg X.A X.stack s H Eg).tr pn xe) W) (hr : Room (k + 1) (X.A.deeper (envOfC qg sg s.heap.objs.size g cdg)))
    (hbody : ∀ (A : Around) (outer : List Env) (s : Shared) (H : Hp), Room k (A.deeper (lamEnv X scope s.heap.objs.size f c')) → PE (lamCx X A outer s H E scope f c') body tb)
    (hN : Ng[i]? = some a) (hv : Vis sg a) (hd : (a == ("__debug__" : Str)) = false := by decide) (hcd : (a == ("__classdict__" : Str)) = false := by decide) :
    PE ((cxOf CXg X.prog X.w X.K X.mg X.base Ng qg sg g cdg X.A X.stack s H Eg).tr pn xe) (.Call (.Name a p1) [] [] p2)
      (fun σZ HZ Q => (∀ cls d H', E cls d H' → W cls d σZ H') ∧ σZ[i]? = some (some (.ref f)) ∧ HZ c' = some (CodeO c' (X.env.qual ++ "<lambda>")) ∧ tb σ HZ Q) := by
  refine ⟨fun pinsZ sZ σZ HZ Q IZ h => ?_⟩
  obtain ⟨hW, hs, hc, ht⟩ := h
  have rd := (pe_var (pos := p1) (i := i) hN hv hd hcd).run pinsZ sZ σZ HZ (fun v H1 => v = .ref f ∧ H1 = HZ) IZ ⟨.ref f, hs, rfl, rfl⟩
  refine wpAny_Call_Name_kw (thn rd fun u s1 q0 => ?_)
  obtain ⟨v, H1, I1, r1, ev, eH⟩ := q0
  subst ev
  subst eH
  obtain rfl : u = Value.ref f := r1
  have of1 := I1.base.keep f _ hf hfn hfr (fun z => nomatch (show f ∈ ([] : List Addr) from z))
  refine PySem.W.callWith_F0 ⟨_, _, _, _, of1⟩ ?_
  obtain ⟨⟨oc, vs, t, hoc, hdc, hvc⟩, _, _⟩ := I1.hok c' _ hc
  have rc : codeAny (model X.prog X.w) (X.A.deeper (envOfC qg sg s.heap.objs.size g cdg)) (.call (.ref f) ⟨[], []⟩)
      (CR (L2.CX X.prog X.w) (envOfC qg sg s.heap.objs.size g cdg :: X.stack) X.prog X.w H1 s1 Q E) s1 := by
    refine PySem.W.kla_callFunE hr.depth of1 rfl L.co L.gen rfl ⟨c', oc, vs, t, rfl, hoc, hdc, hvc⟩ ?_
    rw [hbind]
    refine wpAny_pure (wpAny_newFunctionEnv (fun y hy => (L.own y hy).2) (fun y hy => absurd hy (by simp)) (fun h₁ hns hsb => ⟨I1.nolimit.fresh _ hsb, ?_⟩) L.kind)
    show codeAny _ _ (.expr body (lamEnv X scope s1.heap.objs.size f c')) _ _
    have kp : ∀ b o, s1.heap.get? b = some o → h₁.get? b = some o := fun b o e => hsb.extBut b o (Nat.ne_of_lt (Heap.lt_size e)) (Heap.get?_push_of_some _ e)
    have J := lam_start2 (E := E) (f := f) (c' := c') (tk := s1.toks + ([] : List (Str × Value)).length) I L I1.env0 hr.hd I1.base hns kp
    refine PySem.W.kla_codeExpr (wpAny_mono ((hbody _ _ s1 H1 (hr.deeper _)).run [] _ _ H1 Q J ht) (fun v s' hq => ?_) fun e s' hq => hq)
    obtain ⟨w', H', J', rv, q⟩ := hq
    exact ⟨w', H', J'.os, J'.bare, J'.base, J'.hok, rv, q⟩
  refine wpAny_call (codeAny_mono rc fun r s' hq => ?_)
  match r, hq with
  | .error e, hq => exact tk e s' (XE.of_call I1 (fun cls d H' z => hW cls d H' z) hq)
  | .ok (.ret u), hq => exact I1.after hq
  | .ok .next, hq => exact hq.elim
  | .ok .brk, hq => exact hq.elim
  | .ok .cont, hq => exact hq.elim
end
/-- the def that calls what it got; TT: what it makes of the lambda's reading -/
def Gives (X : Cx) (Ng : List Str) (x : Str) (sg : Scope) (g : Addr) (cdg : Value) (bg : List Stmt) (a : Str) (q : Str) (TT : (XK → Hp → VK → Prop) → Hp → VK → Prop) : Prop :=
  ∀ (f c' : Addr) (s : Shared) (H : Hp) (Q : VK) (tl : XK → Hp → VK → Prop),
    (∀ (W : WX) (pn : List (Addr × Obj)) (xe : Value → Shared → Prop) (E : XK) (p1 p2 : Pos), Takes ((cxOf CX0 X.prog X.w X.K X.mg X.base Ng x sg g cdg X.A X.stack s H E0).tr pn xe) W →
      PE ((cxOf CX0 X.prog X.w X.K X.mg X.base Ng x sg g cdg X.A X.stack s H E0).tr pn xe) (.Call (.Name a p1) [] [] p2)
        (fun σZ HZ Q => (∀ cls d H', E cls d H' → W cls d σZ H') ∧ σZ[0]? = some (some (.ref f)) ∧ HZ c' = some (CodeO c' q) ∧ tl E HZ Q)) →
    H c' = some (CodeO c' q) → TT tl H Q →
    ∃ t, PSs (cxOf CX0 X.prog X.w X.K X.mg X.base Ng x sg g cdg X.A X.stack s H E0).nox bg t ∧ t { nx := fun _ H' => Q .non H', rt := Q } (start Ng [.ref f]) H
def tLam2 (T : List (Addr × Str)) (TT : (XK → Hp → VK → Prop) → Hp → VK → Prop) (t : XK → TE) : TE := fun σ H Q =>
  Tabs T H ∧ ∀ H1, ExtN H H1 → Tabs T H1 → TT (fun E H' Q' => t E σ H' Q') H1 Q
section
variable {X : Cx}
/-- x(lambda: body) -/
theorem pe_lam2 {T : List (Addr × Str)} {TT : (XK → Hp → VK → Prop) → Hp → VK → Prop} {x a : Str} {g c P : Addr} {k : Nat} {pg : Arguments} {bg : List Stmt} {sg : Scope} {dV kV doc pm cdv ct oc : Value} {an od : Option Addr} {osl : Array (Option Value)} {Ng : List Str}
    {params : Arguments} {body : Expr} {scope : Scope} {t : XK → TE} {p lpos pos : Pos} (hg : Gl X x) (hm : X.mg x = some (.ref g)) (hk : PySem.W.keepIn X.K (.ref g) = true)
    (lk : X.K.lookup g = some ⟨oc, od, .func (PySem.W.fnOf x x pg bg sg dV kV doc pm an cdv ct), osl⟩) (hcg : PySem.W.codeIn X.K cdv x = true)
    (hb : Binds X.K (PySem.W.fnOf x x pg bg sg dV kV doc pm an cdv ct) [a] []) (Sg : FnScope Ng [a] sg) (hNg : Ng[0]? = some a) (hva : Vis sg a)
    (hG : Gives X Ng x sg g cdv bg a (X.env.qual ++ "<lambda>") TT)
    (TB : TabB X.base X.mg c P) (hcode : X.env.code = .ref c) (hmT : (P, X.env.qual ++ "<lambda>") ∈ T) (hu : ∀ p ∈ T, p.1 = P → p.2 = X.env.qual ++ "<lambda>") (hr : Room (k + 2) X.A) (L : LamS X.env.scope scope) (hdef : defaultsOf params X.env = ([], []))
    (hbind : ∀ (q : Str) (cl : List (Str × Addr)) (pm cv ctv : Value), bindArgs (PySem.W.kla_fn "<lambda>" q params body scope cl pm cv ctv) ⟨[], []⟩ = pure [])
    (hbody : ∀ (A : Around) (outer : List Env) (s : Shared) (H : Hp) (E : XK) (f c' : Addr), Room k (A.deeper (lamEnv X scope s.heap.objs.size f c')) → PE (lamCx X A outer s H E scope f c') body (t E))
    (hdb : (x == ("__debug__" : Str)) = false := by decide) (hd : (a == ("__debug__" : Str)) = false := by decide) (hcd : (a == ("__classdict__" : Str)) = false := by decide) :
    PE X (.Call (.Name x p) [.Lambda params body scope lpos] [] pos) (tLam2 T TT t) := by
  refine ⟨fun pins s σ H Q I h => ?_⟩
  obtain ⟨hT, h⟩ := h
  refine wpAny_Call_Name_kw (ld_glob I hg hm ?_ hdb)
  refine PySem.W.callWith_K (h₀ := X.base) I.ok.mod.kin hk ?_ (by rfl) (by rfl)
  show wpAny _ _ (spliced ((false, eval (.Lambda params body scope lpos) X.env) :: backTo pos (starEach [] X.env))) _ _ s
  refine Calls.spliced_cons (lam_make2 I TB hcode hmT hu hT hdef (L.has I.ok) fun f c' pm' ctv H1 s' I1 eN T1 hf hfn hfr hco => ?_)
  refine Calls.spliced_nil ⟨I1.kIn, ?_⟩
  have rc : codeAny (model X.prog X.w) X.A (.call (.ref g) ⟨[.ref f], []⟩) (CR CX0 X.stack X.prog X.w H1 s' Q E0) s' := by
    refine LamX.run_ofS (N := Ng) (ps := [a]) (us := [.ref f]) (vs := [.ref f]) lk hcg Sg hr I1.env0 (hb s' [.ref f] I1.kIn rfl) (.cons rfl .nil) rfl fun hr' => ?_
    have act := fun (W : WX) (pn : List (Addr × Obj)) (xe : Value → Shared → Prop) (E : XK) (p1 p2 : Pos) (tk : Takes ((cxOf CX0 X.prog X.w X.K X.mg X.base Ng x sg g cdv X.A X.stack s' H1 E0).tr pn xe) W) =>
      pe_act2 (p1 := p1) (p2 := p2) (i := 0) I1 L hf hfn hfr (hbind _ _ _ _ _) tk hr' (fun A outer s H hr2 => hbody A outer s H E f c' hr2) hNg hva hd hcd
    obtain ⟨t', ht', hq'⟩ := hG f c' s' H1 Q (fun E H' Q' => t E σ H' Q') act hco (h H1 eN T1)
    exact ⟨t', ht'.nox, hq'⟩
  refine wpAny_call (codeAny_mono rc fun r s2 hq => ?_)
  match r, hq with
  | .error e, hq => exact (show False from hq).elim
  | .ok (.ret u), hq => exact I1.after hq
  | .ok .next, hq => exact hq.elim
  | .ok .brk, hq => exact hq.elim
  | .ok .cont, hq => exact hq.elim

/-- what is wished for may be weakened -/
theorem pe_weak {e : Expr} {t : TE} (h : PE X e t) : PE X e (fun σ H Q => ∃ R : VK, (∀ v H', R v H' → Q v H') ∧ t σ H R) := by
  refine ⟨fun pins s σ H Q I hh => ?_⟩
  obtain ⟨R, hR, ht⟩ := hh
  refine thn (h.run pins s σ H R I ht) fun u s1 hu => ?_
  obtain ⟨v, H1, I1, r1, q1⟩ := hu
  exact ⟨v, H1, I1, r1, hR v H1 q1⟩
/-! ### told: the error, or what came back -/
def toldN : List Str := ["look", "caught", "back", "error"]
def toldB (a1 a2 a3 a4 a5 a6 a7 b1 b2 b3 b4 b5 c1 c2 c3 c4 c5 d1 d2 d3 d4 : Pos) : List Stmt :=
  [.Assign [.Tuple [.Name "caught" a1, .Name "back" a2] 0 a3] (.Tuple [.Constant .none 0 a4, .Constant .none 0 a5] 0 a6) a7,
   .Try [.Assign [.Name "back" b1] (.Call (.Name "look" b2) [] [] b3) b4] [.ExceptHandler (some (.Name "DrawError" c1)) (some "error") [.Assign [.Name "caught" c2] (.Name "error" c3) c4] c5] [] [] b5,
   .Return (some (.Tuple [.Name "caught" d1, .Name "back" d2] 0 d3)) d4]
def toldS : Scope := { kind := .function, names := [("look", .local), ("caught", .local), ("back", .local), ("error", .local), ("DrawError", .globalImplicit)], isGenerator := false, isCoroutine := false, more := [] }
/-- what comes of a lambda's reading -/
def TTold (K : PySem.W.Frag) (CS : Addr) : (XK → Hp → VK → Prop) → Hp → VK → Prop := fun tl H Q =>
  ∀ t, H t = none → tl (fun cls d H' => PySem.W.exmOne K cls (.ref CS) = some true ∧ ∀ a, H' a = none → ∀ p, upd H' a (EX a cls d) p = none →
      Q (.ref p) (upd (upd H' a (EX a cls d)) p (.tup [.ref a, .non]))) (upd H t (.tup [.non, .non]))
    fun v H' => ∀ p, H' p = none → Q (.ref p) (upd H' p (.tup [.non, v]))
theorem told_gives2 {q x : Str} {g CS : Addr} {cdg : Value} {a1 a2 a3 a4 a5 a6 a7 b1 b2 b3 b4 b5 c1 c2 c3 c4 c5 d1 d2 d3 d4 : Pos} (hme : X.mg "DrawError" = some (.ref CS))
    (hw : ∀ n : Nat, swappedStores [.Tuple [.Name "caught" a1, .Name "back" a2] 0 a3] (.Tuple [.Constant .none 0 a4, .Constant .none 0 a5] 0 a6) (envOfC x toldS n g cdg) = pure none) :
    Gives X toldN x toldS g cdg (toldB a1 a2 a3 a4 a5 a6 a7 b1 b2 b3 b4 b5 c1 c2 c3 c4 c5 d1 d2 d3 d4) "look" q (TTold X.K CS) := by
  intro f c' s H Q tl act hc h
  have nd : toldN.Nodup := by decide +kernel
  refine ⟨_, pss_cons (ps_asg (pe_tup (pa_cons pe_non (pa_cons pe_non pa_nil))) (pg_tup rfl (pgs_cons (pg_name (i := 1) nd rfl (Or.inl rfl)) (pgs_cons (pg_name (i := 2) nd rfl (Or.inl rfl)) pgs_nil))) (hw := hw _))
    (pss_cons (ps_try_hold (X := (cxOf CX0 X.prog X.w X.K X.mg X.base toldN x toldS g cdg X.A X.stack s H E0).nox) (c := .ref CS) (x := "DrawError") (n := "error") (m := "caught") (i := 3) (j := 1) (Wout := fun _ _ _ _ => False)
      (tb := fun W D σ H => ∃ (Ech : XK) (R : VK), (∀ v H', R v H' → D.nx (σ.set 2 (some v)) H') ∧ (∀ cls d H', Ech cls d H' → W cls d σ H') ∧ σ[0]? = some (some (.ref f)) ∧ H c' = some (CodeO c' q) ∧ tl Ech H R)
      rfl rfl rfl nd rfl rfl rfl rfl ⟨rfl, by decide, .inl hme⟩ takes0 (hb := fun W pn xe tk _ => ?_))
    (pss_one (ps_ret (pe_tup (pa_cons (pv 1) (pa_cons (pv 2) pa_nil)))))), ?_⟩
  · refine ⟨fun pins s' σ H' D I h' => ?_⟩
    obtain ⟨Ech, R, hR, hW, h1, h2, h3⟩ := h'
    have hp := pe_weak (act W pn xe Ech b2 b3 tk)
    have hq := pss_one (ps_set (pos := b4) (i := 2) (pos' := b1) nd rfl (Or.inl rfl) hp)
    exact hq.run pins s' σ H' D I ⟨R, hR, hW, h1, h2, h3⟩
  · refine ⟨(by exact (by decide : 2 ≤ sizeLine)), fun t ht => ⟨t, _, rfl, SqT.of upd_same, rfl, _, _, rfl, _, _, rfl, rfl, ?_⟩⟩
    refine ⟨fun cls d H' => PySem.W.exmOne X.K cls (.ref CS) = some true ∧ ∀ a, H' a = none → ∀ p, upd H' a (EX a cls d) p = none →
      Q (.ref p) (upd (upd H' a (EX a cls d)) p (.tup [.ref a, .non])), fun v H' => ∀ p, H' p = none → Q (.ref p) (upd H' p (.tup [.non, v])), fun v H' z => ⟨_, rfl, _, rfl, (by exact (by decide : 2 ≤ sizeLine)), fun p hp => z p hp⟩, fun cls d H' z => ?_, rfl, same_new ht _ _ hc, h t ht⟩
    obtain ⟨z1, z2⟩ := z
    exact ⟨true, z1, fun _ a ha => ⟨_, rfl, _, rfl, (by exact (by decide : 2 ≤ sizeLine)), fun p hp => z2 a ha p hp⟩, fun z => by cases z⟩
end
end L2.Vx

set_option Elab.async false
set_option linter.all false
set_option maxRecDepth 100000
set_option maxHeartbeats 2000000
namespace L2.Vx
open PySem PySem.Spec PyProof.Rows
/-! ### for n, x in enumerate(list, start) -/
def IteF (K : PySem.W.Frag) (a : Addr) (k : Int) : It :=
  ⟨fun i H => ∃ (xs : List V) (x : V), SqL K H a xs ∧ xs[i]? = some x, fun i H v H' => ∃ T x, v = .ref T ∧ H T = none ∧ H' = upd H T (.tup [.int (k + (i : Nat)), x]) ∧ ∀ xs, SqL K H a xs → xs[i]? = some x, fun i H => ∃ xs : List V, SqL K H a xs ∧ xs.length = i⟩
theorem list_enum_ne {h : Heap} {e it a : Addr} {n : Int} {old : Value} {items : Array Value} (he : IsEnum h e it n old) (hl : h.IsList a items) : e ≠ a := by
  intro z
  subst z
  obtain ⟨o, ho, hc, _⟩ := hl
  rw [Option.some.inj (ho.symm.trans he)] at hc
  injection hc with h
  exact absurd h (by decide)
theorem list_iter_ne {h : Heap} {it a : Addr} {i : Nat} {items : Array Value} (hit : h.IsListIter it a i) (hl : h.IsList a items) : a ≠ it := by
  intro z
  subst z
  obtain ⟨o, ho, hc, _⟩ := hl
  obtain ⟨o2, ho2, hc2, _⟩ := hit
  rw [Option.some.inj (ho2.symm.trans ho), hc] at hc2
  injection hc2 with h
  exact absurd h (by decide)
theorem turn_enumF {P : Program} {w : World} {K : PySem.W.Frag} {elts : List Expr} {kk : Nat} {tpos : Pos} (a e it : Addr) (k : Int) :
    Turn P w K (.Tuple elts kk tpos) (IteF K a k) [e, it] e (fun i h => (∃ old, IsEnum h e it (k + ((i : Nat) : Int)) old) ∧ h.IsListIter it a i ∧ e ≠ it) where
  mem := by simp
  obj := fun i h st b hb => by
    obtain ⟨⟨old, he⟩, ⟨o, ho, hc, hd⟩, _⟩ := st
    have e' : b = e ∨ b = it := by simpa using hb
    rcases e' with z | z
    · rw [z]; exact ⟨_, he, fun v q => nomatch q⟩
    · rw [z]; exact ⟨o, ho, fun v q => by rw [hd] at q; cases q⟩
  keep := fun i h h' st q => let ⟨⟨old, he⟩, hi, hne⟩ := st; ⟨⟨old, q e (by simp) _ he⟩, hi.at fun o r => q it (by simp) o r, hne⟩
  item := by
    intro X hP hw hK hc i pins s σ H E I hf st hg
    subst hP hw hK
    obtain ⟨⟨old, he⟩, hit, hne⟩ := st
    obtain ⟨xs, x, hq, hx⟩ := hg
    obtain ⟨its, rv, p, hz⟩ := I.list hq
    obtain ⟨u, hu, ru⟩ := rv.get hx
    have hel : e < s.heap.objs.size := Heap.lt_size he
    have hil : it < s.heap.objs.size := by obtain ⟨_, q, _⟩ := hit; exact Heap.lt_size q
    have hea := list_enum_ne he p.isList
    have hai := list_iter_ne hit p.isList
    have hlt : i < its.toArray.size := by
      have hl := rv.length
      have := (List.getElem?_eq_some_iff.mp hx).1
      rw [List.size_toArray]
      omega
    refine PySem.wpAny_pyNext_enum_itemC (Draws.list (A := X.A.in1) (I.ok.hd hc) it a hai its.toArray) he ⟨hit, p.isList⟩ hlt hne (by simp [hne, hea]) fun x1 h' tk hx1 ho st' hT hsz hk => ?_
    have hxu : x1 = u := by
      have h1 : its[i]? = some x1 := by simpa using hx1
      exact Option.some.inj (h1.symm.trans hu)
    subst hxu
    refine ⟨_, rfl, wpAny_letOwnedTupleGo_enum (s := { s with heap := h', toks := tk + 1 }) ho fun h'' he' sb => ?_⟩
    have hT2 : h''.get? s.heap.objs.size = some { cls := .type "tuple", data := .seq #[.int (k + (i : Int)) tk, x1] } := (sb.2 _ (Nat.ne_of_gt hel)).trans hT
    have new : ObjOk X.prog X.w (upd H s.heap.objs.size (.tup [.int (k + (i : Nat)), x])) h'' s.heap.objs.size (.tup [.int (k + (i : Nat)), x]) :=
      ⟨by show 2 ≤ sizeLine; decide, [.int (k + (i : Int)) tk, x1], .cons ⟨_, rfl⟩ (.cons ru .nil), ⟨_, hT2, rfl, _, rfl⟩⟩
    have I1 : Inv X pins σ (upd H s.heap.objs.size (.tup [.int (k + (i : Nat)), x])) { s with heap := h'', toks := tk + 1 } :=
      I.turnedNew (ch := [e, it]) (fun b ob hb q => (sb.2 b (fun z => hb (by simp [z]))).trans (hk b ob (fun z => hb (by simp [z])) (fun z => hb (by simp [z])) q)) hf (Nat.le_refl _) new
    refine ⟨.ref s.heap.objs.size, _, I1, rfl, ⟨_, x, rfl, I.hok.fresh (Nat.le_refl _), rfl, fun ys hy => by rw [I.list_inj hy hq]; exact hx⟩, ⟨⟨x1, ?_⟩, st'.1.at fun o q => (sb.2 it (Ne.symm hne)).trans q, hne⟩, fun b hb => ?_⟩
    · have e1 : k + ((i + 1 : Nat) : Int) = k + (i : Int) + 1 := by omega
      rw [e1]; exact he'
    · have hb' : b < s.heap.objs.size := by
        have e' : b = e ∨ b = it := by simpa using hb
        rcases e' with z | z
        · rw [z]; exact hel
        · rw [z]; exact hil
      rw [upd_ne (Nat.ne_of_lt hb')]
      exact (hf b hb).1
  done := by
    intro X hP hw hK hc i pins s σ H E I hf st hg
    subst hP hw hK
    obtain ⟨⟨old, he⟩, hit, hne⟩ := st
    obtain ⟨xs, hq, hx⟩ := hg
    obtain ⟨its, rv, p, hz⟩ := I.list hq
    obtain ⟨f0, f1, f2, f3, f4, f5⟩ := hf it (by simp)
    have hl := rv.length
    have hn : its.toArray.size = i := by
      rw [List.size_toArray]
      omega
    have hst : s.heap.IsListIter it a its.toArray.size := by rw [hn]; exact hit
    exact wpAny_pyNext_enum_endD (Draws.list (A := X.A.in1) (I.ok.hd hc) it a (list_iter_ne hit p.isList) its.toArray) he ⟨hst, p.isList⟩ fun h' eb => ⟨rfl, I.turned (t' := s.toks) (fun b o hb q => eb b o hb q) f0 f1 f3 f4 f5⟩
  self := fun A i s Q E st h => let ⟨⟨_, he⟩, _⟩ := st; wpAny_pyIter_enum he h
def iEnumF (K : PySem.W.Frag) (ta : TA) : TI := fun σ H R => ta σ H fun vs H1 => ∃ a xs k, vs = [.ref a, .int k] ∧ SqL K H1 a xs ∧ 0 ≤ k ∧ k < 2 ^ 62 ∧ R (IteF K a k) H1
theorem pi_enumF {X : Cx} {e e2 : Expr} {ta : TA} {p pos tpos : Pos} {elts : List Expr} {kk : Nat} (hg : Gl X "enumerate") (hm : X.mg "enumerate" = none) (ha : PA X [e, e2] ta)
    (hs : starEach [e, e2] X.env = (false, eval e X.env) :: starEach [e2] X.env := by rfl) (hpl : (backTo pos (starEach [e2] X.env)).any (·.1) = false := by rfl) :
    PI X (.Tuple elts kk tpos) (.Call (.Name "enumerate" p) [e, e2] [] pos) (iEnumF X.K ta) := by
  refine ⟨fun pins s σ H R I h => ?_⟩
  refine Call_ (ld_blt I hg hm boot_enumerate (PyProof.Rows.callWith_type1 (thn (ha.run pos pins s σ H _ I h) fun us s1 ⟨vs, H1, I1, r1, q1⟩ => ?_) hs hpl))
  obtain ⟨a, xs, k, ex, hq, k0, k1, q⟩ := q1
  subst ex
  cases r1 with
  | cons r rr =>
    cases rr with
    | cons r2 rr =>
    cases rr
    cases r
    obtain ⟨t, rfl⟩ := r2
    obtain ⟨its, rv, p', hz⟩ := I1.list hq
    refine enum_begins (begins_list a its.toArray) p'.isList (by omega) (by omega) fun h' he hit hsz hk => wpAny_pyIter_enum he ?_
    have I2 : Inv X pins σ H1 { s1 with heap := h' } := I1.kept (t' := s1.toks) hk
    refine ⟨s1.heap.objs.size + 1, [s1.heap.objs.size + 1, s1.heap.objs.size], _, _, H1, rfl, I2, turn_enumF a (s1.heap.objs.size + 1) s1.heap.objs.size k, ⟨⟨.none, ?_⟩, ⟨_, hit, rfl, rfl⟩, Nat.succ_ne_self _⟩, fun b hb => ?_, q⟩
    · have e1 : k + ((0 : Nat) : Int) = k := by omega
      rw [e1]
      exact he
    have e' : b = s1.heap.objs.size + 1 ∨ b = s1.heap.objs.size := by simpa using hb
    have hle : s1.heap.objs.size ≤ b := by
      rcases e' with z | z
      · rw [z]; exact Nat.le_add_right _ _
      · rw [z]; exact Nat.le_refl _
    exact I1.fpOk hle (I1.hok.fresh hle)
theorem walk_enumF {K : PySem.W.Frag} {a : Addr} {xs : List V} {k : Int} : Walk (IteF K a k) xs.length (fun H => SqL K H a xs) (YPair (fun i => some (.int (k + (i : Nat)))) (fun i => xs[i]?)) := by
  refine ⟨fun i _ hi q => ⟨xs, xs[i], q, by simp [hi]⟩, fun _ q => ⟨xs, q, rfl⟩, fun i H v H' _ q y => ?_⟩
  obtain ⟨T, x, h1, h2, h3, h4⟩ := y
  exact ⟨T, .int (k + (i : Nat)), x, h1, h2, h3, rfl, h4 xs q⟩
end L2.Vx

set_option Elab.async false
set_option linter.all false
set_option maxRecDepth 100000
set_option maxHeartbeats 2000000
namespace L2.Vx
open PySem PySem.Spec PyProof.Rows
open TL (tl spl pre)
/-! ### a text, cut at one sign -/
def cutAt (s : Nat) : List Nat → List Nat → List (List Nat)
  | acc, [] => [acc]
  | acc, c :: r => if c = s then acc :: cutAt s [] r else cutAt s (acc ++ [c]) r
theorem pre_one (s c : Nat) (r : List Nat) : pre [s] (c :: r) = decide (c = s) := by
  unfold TL.pre
  rw [Bool.eq_iff_iff]
  simp
theorem spl_cut (s : Nat) : ∀ (l acc : List Nat), spl [s] 0 acc l = cutAt s acc l
  | [], acc => by
    unfold TL.spl cutAt
    rfl
  | c :: r, acc => by
    unfold TL.spl cutAt
    rw [pre_one]
    by_cases h : c = s
    · rw [if_pos (decide_eq_true h), if_pos h, ← spl_cut s r []]
      rfl
    · rw [if_neg (by rw [decide_eq_false h]; decide), if_neg h, spl_cut s r]
theorem split_cut (z : Str) {s : Nat} (hs : s < 256) : (Txt.split z ⟨#[s]⟩).map tl = cutAt s [] (tl z) := by
  rw [TL.split_spl z ⟨#[s]⟩ (by simp [tl]) (TL.kind_ok (by simpa using hs))]
  exact spl_cut s _ _
/-- put together again -/
def glue (s : Nat) : List (List Nat) → List Nat
  | [] => []
  | [p] => p
  | p :: q :: r => p ++ s :: glue s (q :: r)
theorem cut_ne (s : Nat) : ∀ (l acc : List Nat), cutAt s acc l ≠ []
  | [], acc => by unfold cutAt; simp
  | c :: r, acc => by
    unfold cutAt
    split
    · simp
    · exact cut_ne s r _
theorem glue_cons {s : Nat} {p : List Nat} {q : List (List Nat)} (h : q ≠ []) : glue s (p :: q) = p ++ s :: glue s q := by
  cases q with
  | nil => exact absurd rfl h
  | cons a b => rfl
theorem glue_cut (s : Nat) : ∀ (l acc : List Nat), glue s (cutAt s acc l) = acc ++ l
  | [], acc => by unfold cutAt glue; simp
  | c :: r, acc => by
    unfold cutAt
    split
    · rename_i h
      rw [glue_cons (cut_ne s r []), glue_cut s r [], h]
      rfl
    · rw [glue_cut s r]
      simp
theorem split_ne (z : Str) {s : Nat} (hs : s < 256) : Txt.split z ⟨#[s]⟩ ≠ [] := fun e => by
  have h := split_cut z hs
  rw [e] at h
  exact cut_ne s _ _ h.symm
theorem split_glue (z : Str) {s : Nat} (hs : s < 256) : glue s ((Txt.split z ⟨#[s]⟩).map tl) = tl z := by
  rw [split_cut z hs, glue_cut]
  rfl
theorem split_inj {x y : Str} {s : Nat} (hs : s < 256) (h : Txt.split x ⟨#[s]⟩ = Txt.split y ⟨#[s]⟩) : x = y :=
  TL.ext_tl (by rw [← split_glue x hs, ← split_glue y hs, h])
theorem glue_len (s : Nat) : ∀ (ps : List (List Nat)), ∀ p ∈ ps, p.length ≤ (glue s ps).length
  | [], _, h => by cases h
  | [q], p, h => by
    rw [List.mem_singleton.mp h]
    exact Nat.le_refl _
  | a :: b :: r, p, h => by
    have ih := glue_len s (b :: r)
    show p.length ≤ (a ++ s :: glue s (b :: r)).length
    rw [List.length_append, List.length_cons]
    rcases List.mem_cons.mp h with rfl | h
    · omega
    · have := ih p h
      omega
theorem glue_count (s : Nat) : ∀ (ps : List (List Nat)), ps.length ≤ (glue s ps).length + 1
  | [] => Nat.zero_le _
  | [q] => by show 1 ≤ _; omega
  | a :: b :: r => by
    have ih := glue_count s (b :: r)
    show (b :: r).length + 1 ≤ (a ++ s :: glue s (b :: r)).length + 1
    simp only [List.length_append, List.length_cons] at ih ⊢
    omega
theorem split_len (z : Str) {s : Nat} (hs : s < 256) : (Txt.split z ⟨#[s]⟩).length ≤ z.length + 1 := by
  have h := glue_count s ((Txt.split z ⟨#[s]⟩).map tl)
  rw [split_glue z hs, List.length_map] at h
  rw [TL.len_tl]
  exact h
theorem split_part {z p : Str} {s : Nat} (hs : s < 256) (h : p ∈ Txt.split z ⟨#[s]⟩) : p.length ≤ z.length := by
  have h1 := glue_len s ((Txt.split z ⟨#[s]⟩).map tl) (tl p) (List.mem_map.mpr ⟨p, h, rfl⟩)
  rw [split_glue z hs] at h1
  rw [TL.len_tl, TL.len_tl]
  exact h1
/-! ### a test's answer, turned about -/
theorem nt {p : Prop} [Decidable p] (h : p) : ¬ (!decide p) = true := by rw [decide_eq_true h]; decide
theorem nf {p : Prop} [Decidable p] (h : ¬ p) : (!decide p) = true := by rw [decide_eq_false h]; rfl
theorem rd_nx {D : Ends} {σ : St} {H : Hp} (h : D.nx σ H) : tNext D σ H := h
theorem inV_str (x : Str) (ys : List Str) : inV (.str x) (ys.map V.str) = decide (x ∈ ys) := by
  unfold inV
  rw [Bool.eq_iff_iff, List.any_eq_true, decide_eq_true_iff]
  constructor
  · rintro ⟨v, hv, e⟩
    obtain ⟨y, hy, rfl⟩ := List.mem_map.mp hv
    have : y = x := by simpa [eqV] using e
    exact this ▸ hy
  · intro h
    exact ⟨.str x, List.mem_map.mpr ⟨x, h, rfl⟩, by simp [eqV]⟩
theorem flat_strs (ys : List Str) : (ys.map V.str).all flatV = true := by
  rw [List.all_eq_true]
  intro v hv
  obtain ⟨y, _, rfl⟩ := List.mem_map.mp hv
  rfl
end L2.Vx

set_option Elab.async false
set_option linter.all false
set_option maxRecDepth 100000
set_option maxHeartbeats 2000000
namespace L2.Vx
open PySem PySem.Spec PyProof.Rows
/-! ### data that are newly made -/
/-- what stands in H' and did not in H -/
def nw (H H' : Hp) : Hp := fun a => match H a with
  | none => H' a
  | some _ => none
theorem nw_at {H H' : Hp} {a : Addr} (h : H a = none) : nw H H' a = H' a := by
  unfold nw
  rw [h]
theorem nw_old {H H' : Hp} {a : Addr} {o : HO} (h : H a = some o) : nw H H' a = none := by
  unfold nw
  rw [h]
theorem nw_up {H H1 H2 : Hp} (s : Same H1 H2) : Same (nw H H1) (nw H H2) := fun b o e => by
  cases h : H b with
  | some u => rw [nw_old h] at e; cases e
  | none =>
    rw [nw_at h] at e ⊢
    exact s _ _ e
theorem nw_in {H H1 H2 : Hp} (s : Same H H1) : Same (nw H1 H2) (nw H H2) := fun b o e => by
  cases h : H1 b with
  | some u => rw [nw_old h] at e; cases e
  | none =>
    rw [nw_at h] at e
    rw [nw_at (s.free h)]
    exact e
theorem nw_le {H H' : Hp} : Same (nw H H') H' := fun b o e => by
  cases h : H b with
  | some u => rw [nw_old h] at e; cases e
  | none =>
    rw [nw_at h] at e
    exact e
theorem _root_.L2.Same.tup {K : PySem.W.Frag} {H H' : Hp} {a : Addr} {xs : List V} (k : Same H H') (h : SqT K H a xs) : SqT K H' a xs := by
  rcases h with (h | ⟨o, h⟩) | h
  · exact .inl (.inl (k _ _ h))
  · exact .inl (.inr ⟨o, k _ _ h⟩)
  · exact .inr h
mutual
theorem Dd_keep {K : PySem.W.Frag} {H H' : Hp} (k : Same H H') : ∀ {x : V} {d : PyData}, Dd K H x d → Dd K H' x d
  | _, _, .non => .non
  | _, _, .bl b => .bl b
  | _, _, .int i => .int i
  | _, _, .str x => .str x
  | _, _, .lst h t => .lst (k.seq h) (ddAll_keep k t)
  | _, _, .tup h t => .tup (k.tup h) (ddAll_keep k t)
  | _, _, .dct h t => .dct (k _ _ h) (ddAll_keep k t)
theorem ddAll_keep {K : PySem.W.Frag} {H H' : Hp} (k : Same H H') : ∀ {xs : List V} {ds : List PyData}, DdAll K H xs ds → DdAll K H' xs ds
  | _, _, .nil => .nil
  | _, _, .cons h t => .cons (Dd_keep k h) (ddAll_keep k t)
end
/-- an expression that makes the data d -/
def GD (K : PySem.W.Frag) (te : TE) (d : PyData) : Prop := ∀ (σ : St) (H : Hp) (Q : VK), (∀ v H', Same H H' → Dd K (nw H H') v d → Q v H') → te σ H Q
def GA (K : PySem.W.Frag) (ta : TA) (ds : List PyData) : Prop := ∀ (σ : St) (H : Hp) (Q : List V → Hp → Prop), (∀ vs H', Same H H' → DdAll K (nw H H') vs ds → Q vs H') → ta σ H Q
section
variable {K : PySem.W.Frag} {te : TE} {ta : TA} {d : PyData} {ds : List PyData}
theorem gd_const {v : V} (h : ∀ H, Dd K H v d) : GD K (tC v) d := fun σ H Q q => q v H (Same.refl H) (h _)
theorem ga_nil : GA K tNil [] := fun σ H Q q => q [] H (Same.refl H) .nil
theorem ga_cons (h : GD K te d) (t : GA K ta ds) : GA K (tCons te ta) (d :: ds) := fun σ H Q q =>
  h σ H _ fun v H1 s1 g1 => t σ H1 _ fun vs H2 s2 g2 => q (v :: vs) H2 (s1.trans s2) (.cons (Dd_keep (nw_up s2) g1) (ddAll_keep (nw_in s1) g2))
theorem ddAll_len {H : Hp} : ∀ {vs : List V} {ds : List PyData}, DdAll K H vs ds → vs.length = ds.length
  | _, _, .nil => rfl
  | _, _, .cons _ t => congrArg Nat.succ (ddAll_len t)
theorem gd_lst (h : GA K ta ds) (hl : ds.length ≤ 1000) : GD K (tLst ta) (.list ds) := fun σ H Q q => h σ H _ fun vs H1 s1 g => by
  refine ⟨Nat.le_trans (by rw [ddAll_len g]; exact hl) (by decide), fun p hp => ?_⟩
  refine q (.ref p) _ (s1.trans (same_new hp)) (.lst (SqL.of (by rw [nw_at (s1.free hp)]; exact upd_same)) (ddAll_keep (nw_up (same_new hp)) g))
theorem gd_tup (h : GA K ta ds) (hl : ds.length ≤ 1000) : GD K (tTup ta) (.tuple ds) := fun σ H Q q => h σ H _ fun vs H1 s1 g => by
  refine ⟨Nat.le_trans (by rw [ddAll_len g]; exact hl) (by decide), fun p hp => ?_⟩
  refine q (.ref p) _ (s1.trans (same_new hp)) (.tup (SqT.of (by rw [nw_at (s1.free hp)]; exact upd_same)) (ddAll_keep (nw_up (same_new hp)) g))
theorem gd_dnew : GD K tDNewK (.dict []) := fun σ H Q q p hp => q (.ref p) _ (same_new hp) (.dct (kvs := []) (by rw [nw_at hp]; exact upd_same) .nil)
/-- no text -/
def NoStr (K : PySem.W.Frag) (H : Hp) (v : V) : Prop := ∃ n : String, TyX K H v (.type n) ∧ kitB n "str" = some false
def isS : PyData → Bool
  | .str _ => true
  | _ => false
theorem tyX_list {H : Hp} {a : Addr} {xs : List V} (h : SqL K H a xs) : TyX K H (.ref a) (.type "list") := by
  rcases h with (h | ⟨o, h⟩) | ⟨o, its, n, h1, h2, _⟩
  · exact .base (.lst h)
  · exact .base (.frz h)
  · exact .kList h1 h2
theorem tyX_tup {H : Hp} {a : Addr} {xs : List V} (h : SqT K H a xs) : TyX K H (.ref a) (.type "tuple") := by
  rcases h with (h | ⟨o, h⟩) | ⟨o, its, n, h1, h2, _⟩
  · exact .base (.tup h)
  · exact .fTuple h
  · exact .kTuple h1 h2
theorem noStr_of {H : Hp} {v : V} {d : PyData} (h : Dd K H v d) (hs : isS d = false) : NoStr K H v := by
  cases h with
  | non => exact ⟨_, .base .non, by decide +kernel⟩
  | bl b => exact ⟨_, .base (.bl b), by decide +kernel⟩
  | int i => exact ⟨_, .base (.int i), by decide +kernel⟩
  | str x => cases hs
  | lst h t => exact ⟨_, tyX_list h, by decide +kernel⟩
  | tup h t => exact ⟨_, tyX_tup h, by decide +kernel⟩
  | dct h t => exact ⟨_, .base (.dK h), by decide +kernel⟩
end
end L2.Vx

set_option Elab.async false
set_option linter.all false
set_option maxRecDepth 100000
set_option maxHeartbeats 2000000
namespace L2.Vx
open PySem PySem.Spec PyProof.Rows
open TL (tl joinL)
/-! ### how long lists of texts are, put together -/
def tot (ys : List Str) : Nat := (ys.map fun y => y.length + 1).sum
theorem tot_nil : tot [] = 0 := rfl
theorem tot_cons (y : Str) (ys : List Str) : tot (y :: ys) = y.length + 1 + tot ys := by
  unfold tot
  rw [List.map_cons, List.sum_cons]
theorem tot_append : ∀ (a b : List Str), tot (a ++ b) = tot a + tot b
  | [], b => by rw [List.nil_append, tot_nil, Nat.zero_add]
  | x :: a, b => by rw [List.cons_append, tot_cons, tot_cons, tot_append a b]; omega
theorem tot_take (ys : List Str) (n : Nat) : tot (ys.take n) ≤ tot ys := by
  have := tot_append (ys.take n) (ys.drop n)
  rw [List.take_append_drop] at this
  omega
theorem tot_drop (ys : List Str) (n : Nat) : tot (ys.drop n) ≤ tot ys := by
  have := tot_append (ys.take n) (ys.drop n)
  rw [List.take_append_drop] at this
  omega
theorem tot_cut (ys : List Str) (n : Nat) : tot (ys.take n) + tot (ys.drop n) = tot ys := by
  have := tot_append (ys.take n) (ys.drop n)
  rw [List.take_append_drop] at this
  omega
theorem tot_mem : ∀ {ys : List Str} {y : Str}, y ∈ ys → y.length + 1 ≤ tot ys
  | x :: ys, y, h => by
    rw [tot_cons]
    rcases List.mem_cons.mp h with rfl | h
    · omega
    · have := tot_mem h
      omega
theorem tot_erase : ∀ (ys : List Str) (n : Nat), tot (ys.eraseIdx n) ≤ tot ys
  | [], _ => by simp
  | y :: ys, 0 => by rw [List.eraseIdx_cons_zero, tot_cons]; omega
  | y :: ys, n + 1 => by
    rw [List.eraseIdx_cons_succ, tot_cons, tot_cons]
    have := tot_erase ys n
    omega
theorem tot_erase_at : ∀ (ys : List Str) (n : Nat) (y : Str), ys[n]? = some y → tot (ys.eraseIdx n) + (y.length + 1) = tot ys
  | [], _, _, h => by simp at h
  | x :: ys, 0, y, h => by
    simp at h
    subst h
    rw [List.eraseIdx_cons_zero, tot_cons]; omega
  | x :: ys, n + 1, y, h => by
    rw [List.eraseIdx_cons_succ, tot_cons, tot_cons]
    have := tot_erase_at ys n y (by simpa using h)
    omega
theorem tot_set : ∀ (ys : List Str) (n : Nat) (v : Str), tot (ys.set n v) ≤ tot ys + v.length
  | [], _, _ => by simp [tot_nil]
  | y :: ys, 0, v => by rw [List.set_cons_zero, tot_cons, tot_cons]; omega
  | y :: ys, n + 1, v => by
    rw [List.set_cons_succ, tot_cons, tot_cons]
    have := tot_set ys n v
    omega
theorem tot_len (ys : List Str) : ys.length ≤ tot ys := by
  induction ys with
  | nil => simp
  | cons y ys ih =>
    rw [List.length_cons, tot_cons]
    omega
theorem tot_sum (ys : List Str) {a : Str} (ha : a.length = 1) : (ys.map (·.length)).sum + ys.length * a.length = tot ys := by
  rw [ha, Nat.mul_one]
  induction ys with
  | nil => rfl
  | cons y ys ih =>
    rw [List.map_cons, List.sum_cons, List.length_cons, tot_cons, ← ih]
    omega
theorem joinL_len (s : List Nat) (hs : s.length = 1) : ∀ ys : List Str, (joinL s (ys.map tl)).length ≤ tot ys
  | [] => by simp [joinL]
  | [y] => by
    show (tl y).length ≤ tot [y]
    rw [tot_cons, ← TL.len_tl]
    omega
  | x :: y :: r => by
    show (tl x ++ (s ++ joinL s ((y :: r).map tl))).length ≤ _
    have ih := joinL_len s hs (y :: r)
    rw [List.length_append, List.length_append, hs, tot_cons, ← TL.len_tl]
    omega
theorem join_tot {a : Str} (ha : a.length = 1) (ys : List Str) : (Txt.join a ys).length ≤ tot ys := by
  rw [TL.join_eq, TL.len_tl, TL.tl_join]
  exact joinL_len _ (by rw [← TL.len_tl]; exact ha) ys
theorem glue_tot (s : Nat) : ∀ (ys : List Str), ys ≠ [] → tot ys = (glue s (ys.map tl)).length + 1
  | [], h => absurd rfl h
  | [y], _ => by
    show tot [y] = (tl y).length + 1
    rw [tot_cons, tot_nil, ← TL.len_tl]
  | x :: y :: r, _ => by
    show tot (x :: y :: r) = (tl x ++ s :: glue s ((y :: r).map tl)).length + 1
    rw [tot_cons, glue_tot s (y :: r) (by simp), List.length_append, List.length_cons, ← TL.len_tl]
    omega
theorem split_tot (z : Str) {s : Nat} (hs : s < 256) : tot (Txt.split z ⟨#[s]⟩) = z.length + 1 := by
  rw [glue_tot s _ (split_ne z hs), split_glue z hs, ← TL.len_tl]
theorem nl1 : ("\n" : Str).length = 1 := by decide +kernel
theorem sp1 : (" " : Str).length = 1 := by decide +kernel
end L2.Vx

set_option Elab.async false
set_option linter.all false
set_option maxRecDepth 100000
set_option maxHeartbeats 2000000
namespace L2.Vx
open PySem PySem.Spec PyProof.Rows
open SlX (run_at cmpback)
/-! ### operators by an own def of the class: in, not in, len, o[i], == -/
section
variable {X : Cx} {CX : CXT} {C g : Addr} {n : Nat} {sp : Sp} {E : XK}
theorem ins_at {pins : List (Addr × Obj)} {σ : St} {H : Hp} {s : Shared} {a dx : Addr} {fs : List (Str × V)} (I : Inv X pins σ H s) (e : H a = some (.ins C dx fs)) : ∃ od, PySem.W.InstAt s.heap a (PySem.W.instObj C dx) C (some od) := by
  obtain ⟨mA, O, _⟩ := ins_get I.hok e
  obtain ⟨od, J, _⟩ := O.look
  exact ⟨od, J⟩
/-- x in o, o.__contains__ at g gives a bool -/
def rInOwn (C : Addr) (sp : Sp) (E : XK) : R2 := fun x y H Q => ∃ a dx fs, y = .ref a ∧ H a = some (.ins C dx fs) ∧ sp [.ref a, x] H (fun r H' => ∃ b, r = .bl b ∧ Q (.bl b) H') E
theorem op_inOwn (hs : PySem.W.findIn X.K (.ref C) "__contains__" = some (some (.ref g))) (hf : PySem.W.isFn X.K (.ref g) = true) (F : FnR X.prog X.w X.K X.mg X.base CX n g sp) (hr : Room n X.A) (hx : Passes CX X E) :
    OpR X (compareOp .In) (rInOwn C sp E) := by
  intro pins s σ H x y v u Q I rx ry h
  obtain ⟨a, dx, fs, rfl, ha, q⟩ := h
  cases (show u = Value.ref a from ry)
  obtain ⟨od, J⟩ := ins_at I ha
  obtain ⟨m, hF⟩ := I.fr
  refine PySem.W.in_K hF I.ok.mod.kin J hs hf (wpAny_mono (wpAny_call (run_fnR (us := [.ref a, v]) (vs := [.ref a, x]) F hr hx I (.cons rfl (.cons rx .nil)) q)) (fun w s' z => ?_) fun _ _ e => e)
  obtain ⟨z', H', I', rz, b, eb, qz⟩ := z
  subst eb
  cases (show w = Value.bool b from rz)
  exact wpAny_truthy_bool ⟨.bl b, H', I', rfl, qz⟩
/-- len(o), o.__len__ at g gives an int -/
def rLenOwn (C : Addr) (sp : Sp) (E : XK) : List V → Hp → VK → Prop := fun xs H Q => ∃ a dx fs, xs = [V.ref a] ∧ H a = some (.ins C dx fs) ∧ sp [.ref a] H (fun z H' => ∃ i : Int, z = .int i ∧ 0 ≤ i ∧ i < 2 ^ 63 ∧ Q (.int i) H') E
theorem call_lenOwn (hs : PySem.W.findIn X.K (.ref C) "__len__" = some (some (.ref g))) (hf : PySem.W.isFn X.K (.ref g) = true) (F : FnR X.prog X.w X.K X.mg X.base CX n g sp) (hr : Room (n + 1) X.A) (hx : Passes CX X E) :
    CallR X (.builtin "len") (rLenOwn C sp E) := by
  intro pins s σ H xs us Q I r h
  obtain ⟨a, dx, fs, rfl, ha, q⟩ := h
  obtain ⟨u, rfl, ru⟩ := r.one
  cases (show u = Value.ref a from ru)
  obtain ⟨od, J⟩ := ins_at I ha
  obtain ⟨m, hF⟩ := I.fr
  refine PySem.W.len_K hF I.ok.mod.kin J hs hf (wpAny_mono (wpAny_call (run_at (us := [.ref a]) (ws := [.ref a]) F (Room.in1 hr) I.env0.in1 hx I (.cons rfl .nil) q)) (fun w s' z => ?_) fun _ _ x => x)
  obtain ⟨z', H', I', rz, i, ei, i0, i1, qz⟩ := z
  subst ei
  obtain ⟨t, e⟩ := (show ∃ t, w = Value.int i t from rz)
  subst e
  exact ⟨⟨i0, i1⟩, .int i, H', I'.tok _, ⟨_, rfl⟩, qz⟩
/-- o[i], o.__getitem__ at g (which may raise: E) -/
def tItemOwn (C : Addr) (sp : Sp) (E : XK) (ta tb : TE) : TE := fun σ H Q => ta σ H fun x H1 => tb σ H1 fun y H2 => ∃ a dx fs, x = .ref a ∧ H2 a = some (.ins C dx fs) ∧ sp [.ref a, y] H2 Q E
theorem pe_itemOwn {a b : Expr} {ta tb : TE} {pos : Pos} (hs : PySem.W.findIn X.K (.ref C) "__getitem__" = some (some (.ref g))) (hfn : PySem.W.fnIn X.K g = true) (hf : PySem.W.isFn X.K (.ref g) = true) (F : FnR X.prog X.w X.K X.mg X.base CX n g sp)
    (hr : Room (n + 1) X.A) (hx : Passes CX X E) (ha : PE X a ta) (hb : PE X b tb)
    (hsl : ∀ v u, subscripted b true v u = runValue (.builtin "lifetime.subscript" ⟨[v, u], []⟩) := by intro _ _; with_unfolding_all rfl) : PE X (.Subscript a b pos) (tItemOwn C sp E ta tb) := by
  refine ⟨fun pins s σ H Q I h => ?_⟩
  refine Subscript_ (binT ha hb I h fun v u s2 x y H2 I2 rx ry q => ?_)
  obtain ⟨a0, dx, fs, rfl, hins, q⟩ := q
  cases (show v = Value.ref a0 from rx)
  obtain ⟨od, J⟩ := ins_at I2 hins
  obtain ⟨m, hF⟩ := I2.fr
  exact PySem.W.sub_K hF I2.ok.mod.kin J hs hfn hf (wpAny_mono (wpAny_call (run_at (us := [.ref a0, u]) (ws := [.ref a0, y]) F (Room.in1 hr) I2.env0.in1 hx I2 (.cons rfl (.cons ry .nil)) q)) (fun w s' z => z) fun _ _ x => x) (hsl _ _)
/-- what stands right of ==: None, a text, an instance of an own class -/
def RightOf (K : PySem.W.Frag) (C : Addr) (H : Hp) (y : V) : Prop := (y = .non ∧ PySem.W.notFirst K C (.type "NoneType") = true) ∨ ((∃ z, y = .str z) ∧ PySem.W.notFirst K C (.type "str") = true) ∨
  ∃ b C' dy gs, y = .ref b ∧ H b = some (.ins C' dy gs) ∧ PySem.W.notFirst K C (.ref C') = true
def rEqOwn (K : PySem.W.Frag) (C : Addr) (sp : Sp) (E : XK) : R2 := fun x y H Q => ∃ a dx fs, x = .ref a ∧ H a = some (.ins C dx fs) ∧ RightOf K C H y ∧ sp [x, y] H Q E
theorem op_eqOwn (hs : PySem.W.findIn X.K (.ref C) (cmpInfo .Eq).2.1 = some (some (.ref g))) (hf : PySem.W.isFn X.K (.ref g) = true) (F : FnR X.prog X.w X.K X.mg X.base CX n g sp)
    (hr : Room n X.A) (hx : Passes CX X E) : OpR X (compareOp .Eq) (rEqOwn X.K C sp E) := by
  intro pins s σ H x y v u Q I rx ry h
  obtain ⟨a, dx, fs, rfl, ha, hy, q⟩ := h
  cases (show v = Value.ref a from rx)
  obtain ⟨od, J⟩ := ins_at I ha
  obtain ⟨m, hF⟩ := I.fr
  have tb : ∃ t, PySem.W.Looks (model X.prog X.w) s.heap (typeOf u) t ∧ PySem.W.notFirst X.K C t = true := by
    rcases hy with ⟨rfl, h⟩ | ⟨⟨z, rfl⟩, h⟩ | ⟨b, C', dy, gs, rfl, hb, h⟩
    · cases (show u = Value.none from ry)
      exact ⟨_, PySem.W.Looks.of_pure rfl, h⟩
    · obtain ⟨t, rfl⟩ := ry
      exact ⟨_, PySem.W.Looks.of_pure rfl, h⟩
    · cases (show u = Value.ref b from ry)
      obtain ⟨od', J'⟩ := ins_at I hb
      exact ⟨_, J'.type, h⟩
  obtain ⟨t, ht, hn⟩ := tb
  show wpAny _ _ (richCompare .Eq (.ref a) u) _ _ _
  refine PySem.W.cmp_K (op := .Eq) (tb := t) hr.units0 hF I.ok.mod.kin J ht hn hs hf ?_
  refine wpAny_mono (wpAny_call (run_fnR (us := [.ref a, u]) (vs := [.ref a, y]) F hr hx I (.cons rfl (.cons ry .nil)) q)) (fun w s' z => ?_) fun _ _ x => x
  obtain ⟨z', H', I', rz, qz⟩ := z
  exact cmpback rz ⟨z', H', I', rz, qz⟩
end
end L2.Vx

set_option Elab.async false
set_option linter.all false
set_option maxRecDepth 100000
set_option maxHeartbeats 2000000
namespace L2.Vx
open PySem PySem.Spec PyProof.Rows PySem.SeqAt
open AutoSeq1 (wpAny_loadPart')
open MeetsSeq
/-! ### a dict == a text: False -/
theorem dict_declines_str (l : Addr) (es : Array DictEntry) (ep : Nat) (dd : Option Addr) (sl : Array (Option Value)) (b : Str) (u : Tok) :
    Meets (Builtin.«dict.__eq__» ⟨[.ref l, .str b u], []⟩) (fun _ R s => s.heap.get? l = some { cls := .type "dict", dict := dd, data := .dict es ep, slots := sl } ∧ R (.ok (.ret .notImplemented)) s) :=
  .of_wp fun prog w A R s h => by
    obtain ⟨hp, g, d, tk, os⟩ := s
    obtain ⟨hl, h⟩ := h
    have f1 := F.sub_str_dict
    wp_walk using wpAny_loadPart' hl, wpAny_load hl
    exact ⟨_, rfl, h⟩
theorem str_declines_dict (b : Str) (u : Tok) (l : Addr) (es : Array DictEntry) (ep : Nat) (dd : Option Addr) (sl : Array (Option Value)) :
    Meets (Builtin.«str.__eq__» ⟨[.str b u, .ref l], []⟩) (fun _ R s => s.heap.get? l = some { cls := .type "dict", dict := dd, data := .dict es ep, slots := sl } ∧ R (.ok (.ret .notImplemented)) s) :=
  .of_wp fun prog w A R s h => by
    obtain ⟨hp, g, d, tk, os⟩ := s
    obtain ⟨hl, h⟩ := h
    wp_walk using wpAny_loadPart' hl, wpAny_load hl
    exact ⟨_, rfl, h⟩
def rEqDictStr : R2 := fun x y H Q => ∃ a kvs z, x = .ref a ∧ y = .str z ∧ H a = some (.dK kvs) ∧ Q (.bl false) H
theorem op_eqDictStr {X : Cx} (hu : X.A.units < cLine) : OpR X (compareOp .Eq) rEqDictStr := by
  intro pins s σ H x y v u Q I rx ry h
  obtain ⟨a, kvs, z, rfl, rfl, ha, q⟩ := h
  cases (show v = Value.ref a from rx)
  obtain ⟨t, rfl⟩ := ry
  obtain ⟨_, _, vs, _, p⟩ := (show ObjOk X.prog X.w H s.heap a (.dK kvs) from I.hok a _ ha)
  obtain ⟨⟨cls, dd, data, sl⟩, es, ep, ho, hx, hd, _⟩ := p
  have hc : cls = .type "dict" := hx.1
  have hd2 : data = .dict es ep := hd
  subst hc hd2
  show wpAny _ _ (richCompare .Eq (.ref a) (.str z t)) _ _ _
  exact rc_eq_decline_or (k := false) ⟨_, ho, rfl⟩ (typeIs_str s z t) (by decide) F.sub_str_dict F.slot_dict_eq F.slot_str_eq_refl
    (fun _ hq => call_meets F.slot_dict_eq ⟨_, ho, rfl⟩ F.entry_dict_eq (F.args_dict_eq_2 _ _) (dict_declines_str a es ep dd sl z t) ⟨ho, hq⟩)
    (fun _ hq => call_meets F.slot_str_eq_refl (typeIs_str s z t) F.entry_str_eq (F.args_str_eq_2 _ _) (str_declines_dict z t a es ep dd sl) ⟨ho, hq⟩)
    (fun _ hq => wpAny_of_eq (rfl : isSame (.ref a) (.str z t) = pure false) hq) (.inr hu) ⟨.bl false, H, I, rfl, q⟩
end L2.Vx

set_option Elab.async false
set_option linter.all false
set_option maxRecDepth 100000
set_option maxHeartbeats 2000000
namespace L2.Vx
open PySem PySem.Spec PyProof.Rows
open LamX (TabB)
/-- the end of a law whose def is told the guards, with one table of code objects, at PT, of the code object c -/
theorem law_callTG {P : Program} {w : World} {K : PySem.W.Frag} {mg mb : Str → Option Value} {CX : CXT} {k : Nat} {fa a c PT : Addr} {fd : FuncData} {x : Str} {sp : Sp}
    {s₁ : Shared} {vs : List Value} {ns : List Int}
    (KX : K.In s₁.heap) (hns : s₁.heap.Ns mainGlobals mg) (hb : s₁.heap.Ns builtinsNs mb) (hbb : ∀ x : Str, x ≠ "__name__" → mb x = bootBuiltins x)
    (hlim : s₁.heap.NoLimit) (hg : s₁.gens = #[]) (hT : s₁.heap.get? PT = some { cls := .none, data := .fields #[] }) (nT : K.lookup PT = none) (CH : PySem.W.CodeHd s₁.heap c PT)
    (hbm : ∃ (bm : Addr) (ob : Obj), mg "__builtins__" = some (.ref bm) ∧ bm ≠ builtinsNs ∧ s₁.heap.get? bm = some ob ∧ ob.cls = .type "module" ∧ ob.dict = some builtinsNs ∧ ob.data = .plain)
    (ha : s₁.heap.get? a = some { cls := .type "list", data := .seq vs.toArray }) (hi : IntsAre vs ns)
    (hl : ns.length ≤ sizeLine) (hr : Room k callerA)
    (F : ∀ base : Heap, K.In base → base.Ns mainGlobals mg → TabB base mg c PT → FnG P w K mg base CX k fa fd [x] sp)
    (hbind : ∀ (s : Shared) (u : Value), BindsTo s fd ⟨[u], []⟩ [(x, u)])
    (hsp : ∀ H : Hp, H PT = some (.tbl #[]) → SqL K H a (ns.map V.int) → sp [.ref a] H (fun v _ => v = .bl true) fun _ _ _ => False)
    (hCX : ∀ H e s', CX [] H s₁ (fun _ _ _ => False) e s' → False) :
    codeAny (model P w) callerA (.call (.ref fa) ⟨[.ref a], []⟩)
      (fun r s' => r = .ok (.ret (.bool true)) ∧ OldK s₁.heap s'.heap ∧ s'.os = s₁.os ∧ AllBare s'.gens) s₁ := by
  have lenV := hi.length
  have rv := vals_ints hi
  have aPT : a ≠ PT := fun z => by
    rw [z, hT] at ha
    cases ha
  have any : ∀ H : Hp, H PT = some (.tbl #[]) → SqL K H a (ns.map V.int) → HOk P w H s₁.heap → (∀ b u, H b = some u → b = PT ∨ (b = a ∧ ∃ o xs, u = .frz o (.lst xs))) → (∀ u, H a = some u → K.lookup a = none) →
      codeAny (model P w) callerA (.call (.ref fa) ⟨[.ref a], []⟩)
        (fun r s' => r = .ok (.ret (.bool true)) ∧ OldK s₁.heap s'.heap ∧ s'.os = s₁.os ∧ AllBare s'.gens) s₁ := by
    intro H hP hS hok only free
    have stays : ∀ {b : Addr} {o : Obj}, s₁.heap.get? b = some o → (∀ u, H b = some u → False) → (hidT s₁.heap H).get? b = some o := by
      intro b o e n
      refine hidT_get e ?_
      cases q : H b with
      | none => rfl
      | some u => exact (n u q).elim
    have other : ∀ {b : Addr} {o : Obj}, s₁.heap.get? b = some o → (∀ vs n, o.data ≠ .seq vs n) → o.data ≠ .fields #[] → (hidT s₁.heap H).get? b = some o := by
      intro b o e n1 n2
      refine stays e fun u q => ?_
      rcases only b u q with eb | ⟨eb, _⟩
      · rw [eb, hT] at e
        cases e
        exact n2 rfl
      · rw [eb, ha] at e
        cases e
        exact n1 _ _ rfl
    have ns' : ∀ {b : Addr} {m : Str → Option Value}, s₁.heap.Ns b m → (hidT s₁.heap H).Ns b m := by
      intro b m h
      obtain ⟨o, es, ep, e, d, r⟩ := h
      exact ⟨o, es, ep, other e (fun _ _ z => by rw [d] at z; cases z) (fun z => by rw [d] at z; cases z), d, r⟩
    have KB : K.In (hidT s₁.heap H) := by
      intro b o e
      refine stays (KX b o e) fun u q => ?_
      rcases only b u q with eb | ⟨eb, _⟩
      · rw [eb, nT] at e
        cases e
      · rw [eb] at q e
        rw [free u q] at e
        cases e
    have M : Mod K mg (hidT s₁.heap H) := by
      obtain ⟨mc, h1, h2⟩ := hlim
      exact ⟨KB, ns' hns, ⟨mb, ns' hb, hbb⟩, ⟨mc, ns' h1, h2⟩⟩
    have TB : TabB (hidT s₁.heap H) mg c PT := by
      refine ⟨?_, ?_, fun z => ?_⟩
      · obtain ⟨o, us, file, tf, flags, tg, inF, text, tt, q1, qc, q2, q3, rest⟩ := CH
        refine ⟨o, us, file, tf, flags, tg, inF, text, tt, other q1 (fun _ _ z => by rw [q2] at z; cases z) (fun z => ?_), qc, q2, q3, rest⟩
        rw [q2] at z
        cases z
        simp at q3
      · obtain ⟨bm, ob, b1, b2, b3, b4, b5, b6⟩ := hbm
        refine ⟨bm, ob, b1, b2, fun q => ?_, fun q => ?_, other b3 (fun _ _ z => by rw [b6] at z; cases z) (fun z => by rw [b6] at z; cases z), b4, b5, b6⟩
        · obtain ⟨o, es, ep, e, d, _⟩ := hns
          rw [q, e] at b3
          cases b3
          rw [d] at b6
          cases b6
        · rw [q, hT] at b3
          cases b3
          cases b6
      · obtain ⟨o, es, ep, e, d, _⟩ := hns
        rw [z, hT] at e
        cases e
        cases d
    have e0 : Env0 P w K mg (hidT s₁.heap H) callerA [] s₁ H :=
      { frames := rfl, mod := M, bs := fun b o e => of_hidT e, bsz := Nat.le_of_eq (hidT_size _ _), funs := trivial, frf := fun b z => (by cases z), hok := hok, bare := .of_eq hg }
    have run := (F _ KB (ns' hns) TB).run callerA [] s₁ H ⟨[.ref a], []⟩ [.ref a] [.ref a] _ _ rfl hr e0 (hbind s₁ (.ref a)) (.cons rfl .nil) (hsp H hP hS)
    refine codeAny_mono run fun r s' h => ?_
    match r, h with
    | .error e, h => exact (hCX H e s' h).elim
    | .ok .next, h => exact h.elim
    | .ok .brk, h => exact h.elim
    | .ok .cont, h => exact h.elim
    | .ok (.ret u), ⟨v, H', os, bare, un, hok', r', q⟩ =>
      obtain rfl : v = .bl true := q
      obtain rfl : u = Value.bool true := r'
      have kept : ∀ b o, b ≠ PT → s₁.heap.get? b = some o → s'.heap.get? b = some o := fun b o nb e => by
        cases z : H b with
        | none => exact un.keep b o e z (fun z => by cases z) (fun z => by cases z)
        | some u =>
          rcases only b u z with eb | ⟨_, ob, xs, eu⟩
          · exact absurd eb nb
          · subst eu
            obtain ⟨e1, _⟩ := hok b _ z
            obtain ⟨e2, _⟩ := hok' b _ (un.frzs b ob _ z)
            rw [e] at e1
            cases e1
            exact e2
      obtain ⟨more, hm⟩ : ∃ more : Array Value, s'.heap.get? PT = some { cls := .none, data := .fields more } := by
        obtain ⟨more, z⟩ := un.tbls PT #[] hP
        exact ⟨_, hok' PT _ z⟩
      refine ⟨rfl, ⟨fun b o e => ?_, fun b o e => ?_⟩, os, bare⟩
      · by_cases hbP : b = PT
        · subst hbP
          rw [hT] at e
          cases e
          exact .inr (.inl ⟨(CH.tab hT).isCodeTable, rfl, #[], more, rfl, by rw [Array.empty_append]; exact hm⟩)
        · exact .inl (kept b o hbP e)
      · by_cases hbP : b = PT
        · subst hbP
          exact ⟨_, hm⟩
        · exact ⟨o, kept b o hbP e⟩
  have tblOk : ∀ {H : Hp}, ObjOk P w H s₁.heap PT (.tbl #[]) := fun {H} => hT
  cases hk : K.lookup a with
  | some o =>
    have e := KX a o hk
    rw [ha] at e
    cases e
    refine any (fun b => if b = PT then some (.tbl #[]) else none) (if_pos rfl) (.inr ⟨_, vs.toArray, _, hk, rfl, rfl, rfl, ?_, by simpa using rv⟩) (fun b u z => ?_) (fun b u z => ?_) (fun u z => ?_)
    · rw [List.size_toArray, lenV]
      exact hl
    · by_cases q : b = PT
      · subst q
        have z := (if_pos rfl).symm.trans z
        cases z
        exact tblOk
      · have z := (if_neg q).symm.trans z
        cases z
    · by_cases q : b = PT
      · exact .inl q
      · have z := (if_neg q).symm.trans z
        cases z
    · have z := (if_neg aPT).symm.trans z
      cases z
  | none =>
    refine any (fun b => if b = PT then some (.tbl #[]) else if b = a then some (.frz { cls := .type "list", data := .seq vs.toArray } (.lst (ns.map V.int))) else none) (if_pos rfl)
      (.inl (.inr ⟨{ cls := .type "list", data := .seq vs.toArray }, (if_neg aPT).trans (if_pos rfl)⟩)) (fun b u z => ?_) (fun b u z => ?_) (fun _ _ => hk)
    · by_cases q : b = PT
      · subst q
        have z := (if_pos rfl).symm.trans z
        cases z
        exact tblOk
      · have z := (if_neg q).symm.trans z
        by_cases q2 : b = a
        · subst q2
          have z := (if_pos rfl).symm.trans z
          cases z
          exact ⟨ha, by rw [List.length_map]; exact hl, vs, _, rv, ha⟩
        · have z := (if_neg q2).symm.trans z
          cases z
    · by_cases q : b = PT
      · exact .inl q
      · have z := (if_neg q).symm.trans z
        by_cases q2 : b = a
        · subst q2
          have z := (if_pos rfl).symm.trans z
          cases z
          exact .inr ⟨rfl, _, _, rfl⟩
        · have z := (if_neg q2).symm.trans z
          cases z
theorem walk_ofTEG {l : PySem.W.OpenLaw} {n k : Nat} {q : Program} {loose : List Str} {XP : (Str → Option Value) → Heap → Prop} {YP : World → Heap → Prop} {d : DefRec} {CX : CXT} {x : Str}
    (hn : l.most = some n) (hn2 : n ≤ sizeLine) (hdf : d.params.defaults = []) (hr : Room k callerA)
    (F : ∀ (w : World) (mg : Str → Option Value) (fa : Addr) (h : Heap), YP w h → h.Ns mainGlobals mg → mg d.name = some (.ref fa) →
      ∃ (K : PySem.W.Frag) (c PT : Addr) (fd : FuncData) (sp : Sp), K.In h ∧ h.get? PT = some { cls := .none, data := .fields #[] } ∧ K.lookup PT = none ∧ PySem.W.CodeHd h c PT ∧
        (∀ (s : Shared) (u : Value), BindsTo s fd ⟨[u], []⟩ [(x, u)]) ∧
        (∀ (H : Hp) (a : Addr) (ns : List Int), ns.length ≤ n → H PT = some (.tbl #[]) → SqL K H a (ns.map V.int) → sp [.ref a] H (fun v _ => v = .bl true) fun _ _ _ => False) ∧
        ∀ base : Heap, K.In base → base.Ns mainGlobals mg → TabB base mg c PT → FnG l.prog w K mg base CX k fa fd [x] sp)
    (hCX : ∀ (H : Hp) (s : Shared) (e : Value) (s' : Shared), CX [] H s (fun _ _ _ => False) e s' → False) :
    PySem.W.WalkO q loose XP YP l.row.toRowW d [] (fun f vs => PySem.call f vs) := by
  refine Att.attach_callB hn hdf fun w s₀ s₁ mg mb fa o pm cd doc a vs ns G Y ho hd hcd hmg hobj hints hlen hbits hg => ?_
  obtain ⟨K, c, PT, fd, sp, KX, hT, nT, CH, hb, hsp, hF⟩ := F w mg fa _ Y G.T.g hmg
  exact law_callTG KX G.T.g G.T.b G.T.builtins G.T.nolimit hg hT nT CH G.T.bmain hobj hints (Nat.le_trans hlen hn2) hr hF hb (fun H hH hS => hsp H a ns hlen hH hS) fun H e s' => hCX H s₁ e s'
section
variable {P : Program} {w : World} {K : PySem.W.Frag} {mg : Str → Option Value} {base : Heap}
/-- a def that is told the guards, its code object known -/
theorem okGC {x qual : Str} {st : Stmt} {f c : Addr} {fd : FuncData} {N ps : List Str} {k : Nat} {sp : Sp} (F : Fun K x qual st f fd) (hc : fd.code = .ref c)
    (S : FnScope N ps (defScope st)) (len : ∀ vs H Q E, sp vs H Q E → vs.length = ps.length)
    (hbody : ∀ (A : Around) (outer : List Env) (s : Shared) (H : Hp) (vs : List V) (Q : VK) (E : XK), A.guards = some [] →
      Room k (A.deeper (envOfC qual (defScope st) s.heap.objs.size f (.ref c))) → sp vs H Q E →
      ∃ t, PSs (cxOf CX0 P w K mg base N qual (defScope st) f (.ref c) A outer s H E) (defBody st) t ∧
        t { nx := fun _ H' => Q .non H', rt := Q } (start N vs) H) : FnG P w K mg base CX0 (k + 1) f fd ps sp := by
  obtain ⟨oc, od, kV, doc, pm, an, cdv, ct, osl, rfl, lk, hcd⟩ := F.ex
  obtain rfl : cdv = .ref c := hc
  refine ⟨len, fun A outer s H args us vs Q E gd hr e0 hb r hsp => ?_⟩
  have old : ∀ b o, base.get? b = some o → s.heap.get? b = some o := fun b o e => (e0.bs b o e).1
  have KX : K.In s.heap := e0.mod.kin.keeps old
  have par : ∀ y ∈ ps.zip us, (defScope st).names.lookup y.1 = some .local ∨
      ((defScope st).names.lookup y.1 = some .cell ∧ ((cellsFrom (s.heap.objs.size + 1) (defScope st).names []).lookup y.1).isSome = true) := by
    intro y hy
    obtain ⟨n, v⟩ := y
    rcases S.par n (List.of_mem_zip hy).1 with q | q
    · exact .inl q
    · exact .inr ⟨q, PySem.W.cellsFrom_some _ _ _ (.inl q)⟩
  refine codeAny_call_function hr.depth (KX _ _ lk) rfl S.co S.gen rfl (PySem.W.codeRec_of KX hcd) (hb _ _ _ _ ?_)
  refine wpAny_newFunctionEnv_cells S.kind par fun env he s1 ic => ?_
  subst he
  refine ⟨(e0.mod.nolimit.keeps old).keeps ic.toInCall.keep, codeAny_func ?_⟩
  obtain ⟨t, ht, hq⟩ := hbody A outer s H vs Q E gd (hr.deeper _) hsp
  have I := inv_start (CX := CX0) (E := E) S hr.hd e0 (len _ _ _ _ hsp) r ic
  refine wpAny_mono (ht.run [] s1 _ H _ I hq) (fun fl s' hs => ?_) fun _ _ z => z
  match fl, hs with
  | .ret u, ⟨v, σ', H', J, rv, q⟩ => exact ⟨v, H', J.os, J.bare, J.base, J.hok, rv, q⟩
  | .next, ⟨σ', H', J, q⟩ => exact ⟨V.non, H', J.os, J.bare, J.base, J.hok, rfl, q⟩
  | .brk, ⟨_, _, _, q⟩ => exact q.elim
  | .cont, ⟨_, _, _, q⟩ => exact q.elim
end
end L2.Vx

set_option Elab.async false
set_option linter.all false
set_option maxRecDepth 100000
set_option maxHeartbeats 0
namespace L2.K05
open PySem PySem.Spec PyProof.Rows L2.Vx
open PySem.W (Frag)
def top (i : Nat) : Stmt := PySem.Challenge.pw_wobblesnap_k05_books_as_told.main.body.getD i (.Pass ⟨0, 0, 0, 0⟩)
abbrev sDErr : Stmt := inClass (top 1) 0
abbrev sCons : Stmt := top 7
abbrev sNum : Stmt := top 8
abbrev sBook : Stmt := inClass (top 12) 0
abbrev sBEq : Stmt := inClass (top 12) 1
abbrev sBLen : Stmt := inClass (top 12) 2
abbrev sBHas : Stmt := inClass (top 12) 3
abbrev sBGet : Stmt := inClass (top 12) 4
abbrev sAmong : Stmt := top 13
abbrev sRules : Stmt := top 14
abbrev sRule : Stmt := top 15
abbrev sPot : Stmt := top 17
abbrev sTake : Stmt := top 18
abbrev sOf : Stmt := top 19
abbrev sSome : Stmt := top 20
abbrev sCells : Stmt := top 21
abbrev sTold : Stmt := top 22
abbrev sOdd : Stmt := top 23
abbrev sSomeB : Stmt := top 24
abbrev sText : Stmt := top 25
abbrev sFive : Stmt := top 26
abbrev sRight : Stmt := top 27
abbrev sLaw : Stmt := top 28
end L2.K05

set_option Elab.async false
set_option linter.all false
set_option maxRecDepth 100000
set_option maxHeartbeats 4000000
namespace L2.K05
open PySem PySem.Spec PyProof.Rows L2.Vx
open PySem.W (Frag)
/-! ### heaps in which one list may change -/
/-- all but what stands at p is as it was -/
def But (p : Addr) (H H' : Hp) : Prop := ∀ b o, b ≠ p → H b = some o → H' b = some o
theorem But.refl (p : Addr) (H : Hp) : But p H H := fun _ _ _ e => e
theorem But.trans {p : Addr} {H H1 H2 : Hp} (a : But p H H1) (b : But p H1 H2) : But p H H2 := fun c o n e => b c o n (a c o n e)
theorem But.of {p : Addr} {H H' : Hp} (s : Same H H') : But p H H' := fun b o _ e => s b o e
theorem But.upd {p : Addr} {H : Hp} {o : HO} : But p H (upd H p o) := fun b u n e => by
  rw [upd_ne n]
  exact e
theorem But.seq {p a : Addr} {K : Frag} {H H' : Hp} {xs : List V} (k : But p H H') (n : a ≠ p) (h : SqL K H a xs) : SqL K H' a xs := by
  rcases h with (h | ⟨o, h⟩) | h
  · exact .inl (.inl (k _ _ n h))
  · exact .inl (.inr ⟨o, k _ _ n h⟩)
  · exact .inr h
theorem But.tup {p a : Addr} {K : Frag} {H H' : Hp} {xs : List V} (k : But p H H') (n : a ≠ p) (h : SqT K H a xs) : SqT K H' a xs := by
  rcases h with (h | ⟨o, h⟩) | h
  · exact .inl (.inl (k _ _ n h))
  · exact .inl (.inr ⟨o, k _ _ n h⟩)
  · exact .inr h
theorem But.free {p b : Addr} {H H' : Hp} {o : HO} (k : But p H H') (h : H' b = none) (hp : H' p = some o) : H b = none := by
  cases e : H b with
  | none => rfl
  | some u =>
    have n : b ≠ p := fun z => by rw [z, hp] at h; cases h
    rw [k b u n e] at h
    cases h
/-- a pot of draws, of which not more than k mixed numbers have come -/
def Pot (H : Hp) (p : Addr) (k : Int) : Prop := ∃ own b c : Int, H p = some (.lst [.int own, .int b, .int c]) ∧ 0 ≤ own ∧ 0 ≤ b ∧ b < 2305843009213693921 ∧ 0 ≤ c ∧ c ≤ k
theorem Pot.same {H H' : Hp} {p : Addr} {k : Int} (h : Pot H p k) (s : Same H H') : Pot H' p k := by
  obtain ⟨o, b, c, e, r⟩ := h
  exact ⟨o, b, c, s _ _ e, r⟩
theorem Pot.mono {H : Hp} {p : Addr} {k j : Int} (h : Pot H p k) (l : k ≤ j) : Pot H p j := by
  obtain ⟨o, b, c, e, r1, r2, r3, r4, r5⟩ := h
  exact ⟨o, b, c, e, r1, r2, r3, r4, by omega⟩
theorem Pot.ne {H : Hp} {p a : Addr} {k : Int} (h : Pot H p k) (e : H a = none) : a ≠ p := by
  obtain ⟨o, b, c, e', _⟩ := h
  exact fun z => by rw [z, e'] at e; cases e
theorem Pot.some {H : Hp} {p : Addr} {k : Int} (h : Pot H p k) : ∃ o, H p = some o := by
  obtain ⟨o, b, c, e', _⟩ := h
  exact ⟨_, e'⟩
theorem op_powW {X : Cx} : OpR X (binaryOp .Pow) (rI (fun i j => 0 ≤ j ∧ (Builtin.Int.intBits i : Int) * j ≤ 2 ^ 27) fun i j => .int (i ^ j.toNat)) :=
  opI fun _ _ _ _ _ _ _ hc q => pow_int hc.1 hc.2 q
/-- the built-in names that the draws call -/
structure Dx (mg : Str → Option Value) : Prop where
  len : mg "len" = none
  abs : mg "abs" = none
  int : mg "int" = none
  max : mg "max" = none
  min : mg "min" = none
  range : mg "range" = none
  list : mg "list" = none
abbrev FD (K : Frag) (x : Str) (st : Stmt) (f : Addr) (fd : FuncData) : Prop := Fun K x x st f fd
def spPot (K : Frag) : Sp := fun vs H Q _ => ∃ (a : Addr) (ns : List Int) (i : Int), vs = [.ref a, .int i] ∧ SqL K H a (ns.map V.int) ∧ ns.length ≤ 63 ∧ 0 ≤ i ∧ i ≤ 63 ∧
  ∀ H' p, Same H H' → H p = none → Pot H' p 0 → Q (.ref p) H'
def spTake : Sp := fun vs H Q _ => ∃ (p : Addr) (n k : Int), vs = [.ref p, .int n] ∧ 0 < n ∧ n ≤ 1000 ∧ k < 1000000 ∧ Pot H p k ∧
  ∀ H' i, But p H H' → Pot H' p (k + 1) → 0 ≤ i → i < n → Q (.int i) H'
def spOf (K : Frag) : Sp := fun vs H Q _ => ∃ (p l : Addr) (xs : List V) (k : Int), vs = [.ref p, .ref l] ∧ l ≠ p ∧ SqL K H l xs ∧ 0 < xs.length ∧ xs.length ≤ 1000 ∧ k < 1000000 ∧ Pot H p k ∧
  ∀ H' v, But p H H' → Pot H' p (k + 1) → v ∈ xs → Q v H'
theorem pow_pos1 : (0 : Int) < (10 ^ Int.toNat 60) ^ Int.toNat 5 := by decide +kernel
theorem bit_small (b : Bool) : -(2 ^ 64 : Int) < (if b = true then (1 : Int) else 0) ∧ (if b = true then (1 : Int) else 0) < 2 ^ 64 := by cases b <;> decide
theorem sq_small {c : Int} (h0 : 0 ≤ c) (h : c ≤ 1000000) : 100069 * c * c ≤ 100069000000000000 ∧ 0 ≤ 100069 * c * c := by
  have h1 : c * c ≤ 1000000 * 1000000 := Int.mul_le_mul h h h0 (by decide)
  have h2 : 0 ≤ c * c := Int.mul_nonneg h0 h0
  rw [Int.mul_assoc]
  omega
/-- the primes -/
abbrev primes : List V := [.int 2147483647, .int 2147483629, .int 2147483587, .int 2147483579, .int 2147483563]
theorem prime_at {i : Int} (h0 : 0 ≤ i) (h1 : i < 5) : ∃ q, atI primes i = some (.int q) ∧ 0 < q ∧ q < 2147483648 := by
  have h : i = 0 ∨ i = 1 ∨ i = 2 ∨ i = 3 ∨ i = 4 := by omega
  rcases h with rfl | rfl | rfl | rfl | rfl
  · exact ⟨_, rfl, by decide, by decide⟩
  · exact ⟨_, rfl, by decide, by decide⟩
  · exact ⟨_, rfl, by decide, by decide⟩
  · exact ⟨_, rfl, by decide, by decide⟩
  · exact ⟨_, rfl, by decide, by decide⟩
theorem own_nn (m : Int) (b : Bool) : 0 ≤ (if m < 0 then -m else m) % (10 ^ Int.toNat 60) ^ Int.toNat 5 * (if b = true then 1 else 0) :=
  Int.mul_nonneg (Int.emod_nonneg _ (Int.ne_of_gt pow_pos1)) (by split <;> decide)
section
variable {P : Program} {w : World} {K : Frag} {mg : Str → Option Value} {bs : Heap}
theorem scPot : FnScope ["script", "place", "cell", "own", "small"] ["script", "place"] (defScope sPot) := ⟨rfl, rfl, rfl, by decide +kernel, rfl, by decide +kernel, by decide +kernel⟩
theorem ok_pot {f : Addr} {fd : FuncData} (FP : FD K "_law_pot" sPot f fd) (F : Dx mg) : FnOk P w K mg bs CX0 1 f fd ["script", "place"] (spPot K) := by
  have sc := scPot
  refine FP.ok scPot (fun vs H Q E h => ?_) (fun cdv A outer s H vs Q E hr h => ?_)
  · obtain ⟨a, ns, i, rfl, _⟩ := h
    rfl
  · obtain ⟨a, ns, i, rfl, hS, hl, hi0, hi1, k⟩ := h
    obtain ⟨j, rfl⟩ : ∃ j : Nat, i = (j : Int) := ⟨i.toNat, by omega⟩
    refine ⟨_, pss_cons (ps_set (i := 2) sc.nd rfl (Or.inl rfl) (pe_ifExp (pt_cmpR op_lt (pv 1) (pe_callB call_len_seq (by rfl) F.len boot_len (pa_cons (pv 0) pa_nil)) (nomark _))
          (pe_ix ix_list (pv 0) (pv 1) (fun _ _ => rfl)) (pe_op op_add (pe_op op_mul pe_int (pv 1)) pe_int)))
      (pss_cons (ps_set (i := 3) sc.nd rfl (Or.inl rfl) (pe_op op_mul (pe_op op_mod (pe_callTy call_int1 (by rfl) F.int boot_int (pa_cons (pe_callB call_abs (by rfl) F.abs boot_abs (pa_cons (pv 2) pa_nil)) pa_nil))
            (pe_op op_powW (pe_op op_pow pe_int pe_int) pe_int))
          (pe_callTy call_int1 (by rfl) F.int boot_int (pa_cons (pe_cmpR op_ge (pe_callB call_abs (by rfl) F.abs boot_abs (pa_cons (pv 2) pa_nil)) (pe_op op_pow pe_int pe_int) (nomark _)) pa_nil))))
      (pss_cons (ps_set (i := 4) sc.nd rfl (Or.inl rfl) (pe_op op_mod (pe_callTy call_int1 (by rfl) F.int boot_int (pa_cons (pv 2) pa_nil)) pe_int))
      (pss_one (ps_ret (pe_lst (pa_cons (pv 3) (pa_cons (pe_op op_mod (pe_callTy call_int1 (by rfl) F.int boot_int (pa_cons
          (pe_op op_add (pe_op op_add (pe_op op_mul (pv 4) pe_int) (pe_op op_mul (pe_op op_mul pe_int (pv 1)) (pv 1))) pe_int) pa_nil)) pe_int) (pa_cons pe_int pa_nil)))))))), ?_⟩
    refine rd_seq (rd_set ?_)
    refine ⟨_, rfl, _, rfl, a, _, rfl, .inl hS, _, _, rfl, rfl, _, rfl, ?_⟩
    by_cases c : ((j : Nat) : Int) < ((ns.map V.int).length : Int)
    case' pos =>
      have hlt : j < ns.length := by
        rw [List.length_map] at c
        omega
      refine Eq.mpr (if_pos (decide_eq_true c)) ?_
      refine ⟨_, rfl, _, rfl, a, _, (j : Int), .int ns[j], rfl, rfl, hS, atI_nat (by rw [List.getElem?_map, List.getElem?_eq_getElem hlt]; rfl), ?_⟩
      generalize ns[j] = m
    case' neg =>
      refine Eq.mpr (if_neg (by rw [decide_eq_false c]; exact Bool.false_ne_true)) ?_
      refine ⟨_, rfl, _, _, rfl, rfl, .inl ⟨by decide, by decide⟩, _, _, rfl, rfl, ?_⟩
      generalize 41 * ((j : Nat) : Int) + 23 = m
    all_goals
      dsimp only
      refine rd_seq (rd_set ?_)
      refine ⟨_, rfl, _, rfl, .inl ⟨_, rfl, _, _, rfl, rfl, ⟨by decide, by decide, by decide⟩, _, _, rfl, rfl, ⟨by decide, by decide +kernel⟩, _, _, rfl, rfl, (by exact pow_pos1), _, rfl, _, rfl, _, _, rfl, rfl, ⟨by decide, by decide, by decide⟩, _, _, rfl, rfl,
        .inr ⟨_, rfl, _, _, rfl, rfl, .inr (bit_small _), ?_⟩⟩⟩
      dsimp only
      refine rd_seq (rd_set ?_)
      refine ⟨_, rfl, .inl ⟨_, rfl, _, _, rfl, rfl, (by exact (by decide : (0 : Int) < 2305843009213693951)), ?_⟩⟩
      refine ⟨_, rfl, _, rfl, _, _, rfl, rfl, .inr ⟨by decide, by decide⟩, _, rfl, _, _, rfl, rfl, .inl ⟨by decide, by decide⟩, _, rfl, _, _, rfl, rfl, .inr ⟨by omega, by omega⟩, _, _, rfl, rfl, _, _, rfl, rfl,
        .inl ⟨_, rfl, _, _, rfl, rfl, (by exact (by decide : (0 : Int) < 2305843009213693921)), (by exact (by decide : 3 ≤ sizeLine)), fun p hp => ?_⟩⟩
      refine k _ p (same_new hp) hp ⟨_, _, _, upd_same, own_nn _ _, Int.emod_nonneg _ (by decide), Int.emod_lt_of_pos _ (by decide), Int.le_refl _, Int.le_refl _⟩
theorem scTake : FnScope ["pot", "upto", "digit", "prime", "mixed"] ["pot", "upto"] (defScope sTake) := ⟨rfl, rfl, rfl, by decide +kernel, rfl, by decide +kernel, by decide +kernel⟩
theorem ok_take {f : Addr} {fd : FuncData} (FP : FD K "_law_take" sTake f fd) (F : Dx mg) : FnOk P w K mg bs CX0 1 f fd ["pot", "upto"] spTake := by
  have sc := scTake
  refine FP.ok scTake (fun vs H Q E h => ?_) (fun cdv A outer s H vs Q E hr h => ?_)
  · obtain ⟨p, n, i, rfl, _⟩ := h
    rfl
  · obtain ⟨p, n, t, rfl, hn0, hn1, ht, ⟨own, b, c, hp, ho, hb0, hb1, hc0, hc1⟩, k⟩ := h
    refine ⟨_, pss_cons (ps_if (pt_cmpR op_gt (pe_ix ix_list (pv 0) pe_int (fun _ _ => rfl)) pe_int (nomark _))
        (pss_cons (ps_set (i := 2) sc.nd rfl (Or.inl rfl) (pe_op op_mod (pe_callTy call_int1 (by rfl) F.int boot_int (pa_cons (pe_ix ix_list (pv 0) pe_int (fun _ _ => rfl)) pa_nil)) (pv 1)))
        (pss_cons (ps_asg (pe_op op_fdiv (pe_ix ix_list (pv 0) pe_int (fun _ _ => rfl)) (pv 1)) (pg_sub (pv 0) pe_int set_list))
        (pss_one (ps_ret (pv 2))))) pss_nil)
      (pss_cons (ps_asg (pe_op op_add (pe_ix ix_list (pv 0) pe_int (fun _ _ => rfl)) pe_int) (pg_sub (pv 0) pe_int set_list))
      (pss_cons (ps_set (i := 3) sc.nd rfl (Or.inl rfl) (pe_ix ix_list (pe_lst (pa_cons pe_int (pa_cons pe_int (pa_cons pe_int (pa_cons pe_int (pa_cons pe_int pa_nil))))))
          (pe_op op_mod (pe_callTy call_int1 (by rfl) F.int boot_int (pa_cons (pe_ix ix_list (pv 0) pe_int (fun _ _ => rfl)) pa_nil)) pe_int) (fun _ _ => rfl)))
      (pss_cons (ps_set (i := 4) sc.nd rfl (Or.inl rfl) (pe_op op_mod (pe_callTy call_int1 (by rfl) F.int boot_int (pa_cons (pe_op op_pow (pe_callTy call_int1 (by rfl) F.int boot_int (pa_cons
          (pe_op op_add (pe_op op_add (pe_ix ix_list (pv 0) pe_int (fun _ _ => rfl)) (pe_op op_mul (pe_op op_mul pe_int (pe_ix ix_list (pv 0) pe_int (fun _ _ => rfl))) (pe_ix ix_list (pv 0) pe_int (fun _ _ => rfl)))) pe_int) pa_nil)) pe_int) pa_nil)) (pv 3)))
      (pss_cons (ps_set (i := 4) sc.nd rfl (Or.inl rfl) (pe_op op_mod (pe_callTy call_int1 (by rfl) F.int boot_int (pa_cons
          (pe_op op_mul (pv 4) (pe_op op_add (pe_op op_mod (pe_callTy call_int1 (by rfl) F.int boot_int (pa_cons (pv 4) pa_nil)) pe_int) (pe_op op_mul pe_int (pe_ix ix_list (pv 0) pe_int (fun _ _ => rfl))))) pa_nil)) pe_int))
      (pss_one (ps_ret (pe_op op_mod (pe_callTy call_int1 (by rfl) F.int boot_int (pa_cons (pe_op op_fdiv (pv 4) pe_int) pa_nil)) (pv 1)))))))), ?_⟩
    have hS : SqL K H p [.int own, .int b, .int c] := SqL.of hp
    refine rd_seq (rd_if ?_)
    refine ⟨_, rfl, p, _, 0, .int own, rfl, rfl, hS, rfl, _, _, rfl, rfl, _, rfl, ?_⟩
    by_cases q : 0 < own
    · refine Eq.mpr (if_pos (decide_eq_true q)) ?_
      refine rd_seq (rd_set ?_)
      refine ⟨_, rfl, p, _, 0, .int own, rfl, rfl, hS, rfl, .inl ⟨_, rfl, _, rfl, _, _, rfl, rfl, hn0, ?_⟩⟩
      dsimp only
      refine ⟨_, rfl, p, _, 0, .int own, rfl, rfl, hS, rfl, _, rfl, _, _, rfl, rfl, ⟨hn0, by omega⟩, _, rfl, p, _, 0, 0, rfl, rfl, hp, rfl, ?_⟩
      refine ⟨_, rfl, k _ _ But.upd ⟨own / n, b, c, upd_same, Int.ediv_nonneg ho (by omega), hb0, hb1, hc0, by omega⟩ (Int.emod_nonneg _ (by omega)) (Int.emod_lt_of_pos _ hn0)⟩
    · refine Eq.mpr (if_neg (by rw [decide_eq_false q]; exact Bool.false_ne_true)) ?_
      dsimp only
      refine ⟨_, rfl, p, _, 2, .int c, rfl, rfl, hS, rfl, _, _, rfl, rfl, _, rfl, p, _, 2, 2, rfl, rfl, hp, rfl, ?_⟩
      have hp1 : upd H p (.lst [.int own, .int b, .int (c + 1)]) p = some (.lst [.int own, .int b, .int (c + 1)]) := upd_same
      have k1 : But p H (upd H p (.lst [.int own, .int b, .int (c + 1)])) := But.upd
      dsimp only
      have eL : ([V.int own, V.int b, V.int c] : List V).set 2 (V.int (c + 1)) = [V.int own, V.int b, V.int (c + 1)] := rfl
      rw [eL]
      generalize upd H p (.lst [.int own, .int b, .int (c + 1)]) = H1 at hp1 k1 ⊢
      refine rd_seq (rd_set ?_)
      refine ⟨(by exact (by decide : 5 ≤ sizeLine)), fun l hl => ?_⟩
      have hp2 := same_new (o := .lst primes) hl _ _ hp1
      have k2 := k1.trans (But.of (same_new (o := .lst primes) hl))
      have hl2 : upd H1 l (.lst primes) l = some (.lst primes) := upd_same
      generalize upd H1 l (.lst primes) = H2 at hp2 k2 hl2 ⊢
      obtain ⟨q5, hq5, hq0, hq1⟩ := prime_at (Int.emod_nonneg (c + 1) (by decide : (5 : Int) ≠ 0)) (Int.emod_lt_of_pos (c + 1) (by decide : (0 : Int) < 5))
      have hS2 : SqL K H2 p [.int own, .int b, .int (c + 1)] := SqL.of hp2
      refine ⟨_, rfl, p, _, 2, .int (c + 1), rfl, rfl, hS2, rfl, .inl ⟨_, rfl, _, _, rfl, rfl, (by exact (by decide : (0 : Int) < 5)), l, _, _, _, rfl, rfl, SqL.of hl2, hq5, ?_⟩⟩
      dsimp only
      obtain ⟨sq1, sq2⟩ := sq_small (c := c + 1) (by omega) (by omega)
      refine rd_seq (rd_set ?_)
      refine ⟨_, rfl, p, _, 1, .int b, rfl, rfl, hS2, rfl, _, rfl, p, _, 2, .int (c + 1), rfl, rfl, hS2, rfl, _, _, rfl, rfl, .inl ⟨by decide, by decide⟩, _, rfl, p, _, 2, .int (c + 1), rfl, rfl, hS2, rfl, _, _, rfl, rfl, .inr ⟨by omega, by omega⟩, _, _, rfl, rfl, _, _, rfl, rfl,
        .inl ⟨_, rfl, _, _, rfl, rfl, ⟨by decide, by decide, ?cp⟩, .inl ⟨_, rfl, _, rfl, _, _, rfl, rfl, hq0, ?_⟩⟩⟩
      case cp =>
        generalize 100069 * (c + 1) * (c + 1) = S at sq1 sq2 ⊢
        omega
      generalize (b + 100069 * (c + 1) * (c + 1) + 37) ^ Int.toNat 3 = S
      have hm0 := Int.emod_nonneg S (Int.ne_of_gt hq0)
      have hm1 := Int.emod_lt_of_pos S hq0
      dsimp only
      generalize S % q5 = m at hm0 hm1 ⊢
      refine rd_seq (rd_set ?_)
      refine ⟨_, rfl, _, rfl, .inl ⟨_, rfl, _, _, rfl, rfl, (by exact (by decide : (0 : Int) < 10009)), _, rfl, p, _, 2, .int (c + 1), rfl, rfl, hS2, rfl, _, _, rfl, rfl, .inl ⟨by decide, by decide⟩, _, _, rfl, rfl, _, _, rfl, rfl, .inl ⟨by omega, by omega⟩,
        .inl ⟨_, rfl, _, _, rfl, rfl, (by exact (by decide : (0 : Int) < 2305843009213693907)), ?_⟩⟩⟩
      dsimp only
      refine ⟨_, rfl, _, _, rfl, rfl, ⟨by decide, by decide⟩, .inl ⟨_, rfl, _, rfl, _, _, rfl, rfl, hn0, ?_⟩⟩
      exact k _ _ k2 ⟨own, b, c + 1, hp2, ho, hb0, hb1, by omega, by omega⟩ (Int.emod_nonneg _ (by omega)) (Int.emod_lt_of_pos _ hn0)
theorem But.mut {p a : Addr} {H H' : Hp} {o : HO} (k : But p H H') (h : H a = none) : But p H (L2.upd H' a o) := fun b u n e => by
  rw [upd_ne (ne_of_none e h)]
  exact k b u n e
theorem perm_pop {α : Type} : ∀ (xs : List α) (k : Nat) (y : α), xs[k]? = some y → (y :: xs.eraseIdx k).Perm xs
  | [], _, _, e => by simp at e
  | x :: xs, 0, y, e => by
    simp at e
    subst e
    exact List.Perm.refl _
  | x :: xs, k + 1, y, e => by
    have ih := perm_pop xs k y (by simpa using e)
    exact (List.Perm.swap x y _).trans (ih.cons x)
theorem scOf : FnScope ["pot", "some"] ["pot", "some"] (defScope sOf) := ⟨rfl, rfl, rfl, by decide +kernel, rfl, by decide +kernel, by decide +kernel⟩
theorem ok_of {f fT : Addr} {fd fdT : FuncData} (FP : FD K "_law_of" sOf f fd) (F : Dx mg) (FT : FD K "_law_take" sTake fT fdT) (gT : mg "_law_take" = some (.ref fT)) (bT : Binds K fdT ["pot", "upto"] []) :
    FnOk P w K mg bs CX0 2 f fd ["pot", "some"] (spOf K) := by
  have sc := scOf
  have GT : FnOk P w K mg bs CX0 1 fT fdT ["pot", "upto"] spTake := ok_take FT F
  refine FP.ok scOf (fun vs H Q E h => ?_) (fun cdv A outer s H vs Q E hr h => ?_)
  · obtain ⟨p, l, xs, k, rfl, _⟩ := h
    rfl
  · obtain ⟨p, l, xs, t, rfl, hne, hS, h0, h1, ht, hP, k⟩ := h
    refine ⟨_, pss_one (ps_ret (pe_ix ix_list (pv 1) (pe_call GT hr (by rfl) gT FT.kp bT .nil pass0 (pa_cons (pv 0) (pa_cons (pe_callB call_len_seq (by rfl) F.len boot_len (pa_cons (pv 1) pa_nil)) pa_nil))) (fun _ _ => rfl))), ?_⟩
    refine ⟨_, rfl, _, rfl, _, rfl, l, xs, rfl, .inl hS, p, _, t, rfl, by omega, by omega, ht, hP, fun H' i k1 hP' i0 i1 => ?_⟩
    obtain ⟨j, rfl⟩ : ∃ j : Nat, i = (j : Int) := ⟨i.toNat, by omega⟩
    have hj : j < xs.length := by omega
    refine ⟨l, xs, _, xs[j], rfl, rfl, k1.seq hne hS, atI_nat (List.getElem?_eq_getElem hj), ?_⟩
    exact k _ _ k1 hP' (List.getElem_mem hj)
def spSome (K : Frag) : Sp := fun vs H Q _ => ∃ (p l : Addr) (xs : List V) (m : Nat) (k : Int), vs = [.ref p, .ref l, .int m] ∧ l ≠ p ∧ SqL K H l xs ∧ xs.length ≤ 1000 ∧ m ≤ xs.length ∧
  0 ≤ k ∧ k + m < 1000000 ∧ Pot H p k ∧ ∀ H' q ys rest, But p H H' → H q = none → H' q = some (.lst ys) → (ys ++ rest).Perm xs → ys.length = m → Pot H' p (k + m) → Q (.ref q) H'
theorem scSome : FnScope ["pot", "pool", "many", "left", "found", "lap"] ["pot", "pool", "many"] (defScope sSome) := ⟨rfl, rfl, rfl, by decide +kernel, rfl, by decide +kernel, by decide +kernel⟩
theorem ok_some {f fT : Addr} {fd fdT : FuncData} (FP : FD K "_law_some" sSome f fd) (F : Dx mg) (FT : FD K "_law_take" sTake fT fdT) (gT : mg "_law_take" = some (.ref fT)) (bT : Binds K fdT ["pot", "upto"] []) :
    FnOk P w K mg bs CX0 2 f fd ["pot", "pool", "many"] (spSome K) := by
  have sc := scSome
  have GT : FnOk P w K mg bs CX0 1 fT fdT ["pot", "upto"] spTake := ok_take FT F
  refine FP.ok scSome (fun vs H Q E h => ?_) (fun cdv A outer s H vs Q E hr h => ?_)
  · obtain ⟨p, l, xs, m, k, rfl, _⟩ := h
    rfl
  · obtain ⟨p, l, xs, m, t, rfl, hne, hS, h1, hm, ht0, ht, hP, k⟩ := h
    refine ⟨_, pss_cons (ps_par (i := 3) (j := 4) rfl sc.nd rfl rfl (by decide) rfl rfl (pa_cons (pe_callTy call_list_of (by rfl) F.list boot_list (pa_cons (pv 1) pa_nil)) (pa_cons (pe_lst pa_nil) pa_nil)) rfl)
      (pss_cons (ps_for PassesOwn.never rfl (pi_range1 (by rfl) F.range (pa_cons (pv 2) pa_nil)) (pg_name (i := 5) sc.nd rfl (Or.inl rfl))
        (pss_one (ps_expr (pe_bm PySem.F.plainAttrs_list PySem.F.slot_list_append PySem.F.type_list_append mt_append (pv 4) (pa_cons
          (pe_bm PySem.F.plainAttrs_list PySem.F.slot_list_pop PySem.F.type_list_pop mt_popAt (pv 3) (pa_cons
            (pe_call GT hr (by rfl) gT FT.kp bT .nil pass0 (pa_cons (pv 0) (pa_cons (pe_callB call_len_seq (by rfl) F.len boot_len (pa_cons (pv 3) pa_nil)) pa_nil))) pa_nil)) pa_nil)))))
      (pss_one (ps_ret (pv 4)))), ?_⟩
    refine rd_seq ?_
    refine ⟨_, rfl, l, xs, rfl, .inl hS, fun L hL => ⟨Nat.zero_le _, fun G hG => ⟨_, _, rfl, ?_⟩⟩⟩
    dsimp only
    have nLp : L ≠ p := hP.ne hL
    have sL := same_new (o := .lst xs) hL
    have sG := same_new (o := .lst []) hG
    have hG0 : H G = none := sL.free hG
    have nGp : G ≠ p := hP.ne hG0
    have fL := sG _ _ (upd_same (H := H) (a := L) (o := .lst xs))
    have fG : upd (upd H L (.lst xs)) G (.lst []) G = some (.lst []) := upd_same
    have nLG : L ≠ G := ne_of_none upd_same hG
    have hP1 := (hP.same sL).same sG
    have k1 : But p H (upd (upd H L (.lst xs)) G (.lst [])) := But.of (sL.trans sG)
    generalize upd (upd H L (.lst xs)) G (.lst []) = H1 at fL fG hP1 k1 ⊢
    refine rd_seq ?_
    refine ⟨_, rfl, (m : Int), rfl, by omega, by omega, for_range (lo := 0) (n := ((m : Nat) : Int).toNat) (fun i σ H' => ∃ (v : Option V) (ys rest : List V), σ = [some (.ref p), some (.ref l), some (.int m), some (.ref L), some (.ref G), v] ∧
      But p H H' ∧ H' L = some (.lst rest) ∧ H' G = some (.lst ys) ∧ (ys ++ rest).Perm xs ∧ ys.length = i ∧ Pot H' p (t + i)) ⟨none, [], xs, rfl, k1, fL, fG, List.Perm.refl _, rfl, hP1.mono (by omega)⟩ ?_ ?_⟩
    · rintro i σ H2 hi ⟨v, ys, rest, rfl, k2, eL, eG, pm, ly, hP2⟩
      have hi' : i < m := by omega
      have lr : rest.length = xs.length - i := by
        have := pm.length_eq
        rw [List.length_append] at this
        omega
      refine ⟨_, rfl, .inl ⟨rfl, _, SqL.of eG⟩, _, rfl, .inl ⟨rfl, _, SqL.of eL⟩, _, rfl, _, rfl, L, rest, rfl, .inl (SqL.of eL), p, _, t + i, rfl, by omega, by omega, by omega, hP2, fun H3 j k3 hP3 j0 j1 => ?_⟩
      have hj : j.toNat < rest.length := by omega
      have eL3 := k3 _ _ nLp eL
      have eG3 := k3 _ _ nGp eG
      refine ⟨L, rest, j, j.toNat, rest[j.toNat], rfl, rfl, eL3, by omega, by omega, seqIndex_of j0 (by omega), List.getElem?_eq_getElem hj, ?_⟩
      have eG4 : upd H3 L (.lst (rest.eraseIdx j.toNat)) G = some (.lst ys) := (upd_ne (Ne.symm nLG)).trans eG3
      refine ⟨G, ys, rest[j.toNat], rfl, rfl, eG4, Nat.lt_of_le_of_lt (show ys.length ≤ 1000 by omega) (by decide), ?_⟩
      refine ⟨_, ys ++ [rest[j.toNat]], rest.eraseIdx j.toNat, rfl, ((k2.trans k3).mut hL).mut hG0, (upd_ne nLG).trans upd_same, upd_same, ?_, by rw [List.length_append, List.length_singleton, ly], ?_⟩
      · refine List.Perm.trans ?_ pm
        rw [List.append_assoc, List.singleton_append]
        exact List.Perm.append_left ys (perm_pop rest j.toNat _ (List.getElem?_eq_getElem hj))
      · obtain ⟨o, b, c, e, r1, r2, r3, r4, r5⟩ := hP3
        exact ⟨o, b, c, (upd_ne (Ne.symm nGp)).trans ((upd_ne (Ne.symm nLp)).trans e), r1, r2, r3, r4, by omega⟩
    · rintro σ H2 ⟨v, ys, rest, rfl, k2, eL, eG, pm, ly, hP2⟩
      exact ⟨_, rfl, k _ _ _ _ k2 hG0 eG pm (by omega) (hP2.mono (by omega))⟩
def spCells (K : Frag) : Sp := fun vs H Q _ => ∃ (a : Addr) (ns : List Int) (m : Nat), vs = [.ref a, .int m] ∧ SqL K H a (ns.map V.int) ∧ ns.length ≤ 63 ∧ m ≤ 63 ∧
  ∀ H' q n, Same H H' → H q = none → n ≤ 63 → H' q = some (.lst ((List.range n).map fun i : Nat => V.int (i : Int))) → Q (.ref q) H'
theorem scCells : FnScope ["script", "most"] ["script", "most"] (defScope sCells) := ⟨rfl, rfl, rfl, by decide +kernel, rfl, by decide +kernel, by decide +kernel⟩
theorem ok_cells {f : Addr} {fd : FuncData} (FP : FD K "_law_cells" sCells f fd) (F : Dx mg) : FnOk P w K mg bs CX0 1 f fd ["script", "most"] (spCells K) := by
  have sc := scCells
  refine FP.ok scCells (fun vs H Q E h => ?_) (fun cdv A outer s H vs Q E hr h => ?_)
  · obtain ⟨a, ns, m, rfl, _⟩ := h
    rfl
  · obtain ⟨a, ns, m, rfl, hS, hl, hm, k⟩ := h
    refine ⟨_, pss_one (ps_ret (pe_listRg rfl (by rfl) F.list (prg_1 (by rfl) F.range (pe_callB (call_max2 rfl) (by rfl) F.max (by decide +kernel) (pa_cons pe_int (pa_cons
      (pe_callB (call_min2 rfl) (by rfl) F.min (by decide +kernel) (pa_cons (pv 1) (pa_cons (pe_callB call_len_seq (by rfl) F.len boot_len (pa_cons (pv 0) pa_nil)) pa_nil))) pa_nil)))))), ?_⟩
    refine ⟨_, rfl, _, rfl, a, _, rfl, .inl hS, _, _, rfl, _, _, rfl, _, rfl, ?_⟩
    have hx : ∀ u : Int, 0 ≤ u → u ≤ 63 → (0 : Int) ≤ u ∧ u ≤ 63 := fun u a b => ⟨a, b⟩
    generalize hu : (if (if (((ns.map V.int).length : Nat) : Int) < (m : Int) then (((ns.map V.int).length : Nat) : Int) else (m : Int)) > 1 then (if (((ns.map V.int).length : Nat) : Int) < (m : Int) then (((ns.map V.int).length : Nat) : Int) else (m : Int)) else 1) = u
    have hu2 : 0 ≤ u ∧ u ≤ 63 := by
      rw [List.length_map] at hu
      omega
    refine ⟨.of_le (by omega) (by omega) (by omega) (by omega), fun q hq => k _ q u.toNat (same_new hq) hq (by omega) ?_⟩
    rw [upd_same]
    unfold rgV
    rw [Int.sub_zero]
    simp only [Int.zero_add]
end
end L2.K05

set_option Elab.async false
set_option linter.all false
set_option maxRecDepth 100000
set_option maxHeartbeats 4000000
namespace L2.K05
open PySem PySem.Spec PyProof.Rows L2.Vx
open PySem.W (Frag)
/-! ### a value of any kind -/
def odd1 : List PyData := [.none, .bool true, .bool false, .int 0, .int 1, .int (-1), .int (10 ^ 8), .str "", .str "a", .str "x", .str "fine", .tuple [], .list [], .dict [], .tuple [.int 0], .tuple [.tuple []], .list [.int 0], .tuple [.int 0, .int 0]]
def odd2 : List PyData := [.tuple [.tuple [.int 0, .int 0]], .tuple [.str "a", .str "b"], .tuple [.str "same", .str "a", .str "b"], .tuple [.tuple [.int 0, .bool true]], .tuple [.str "fine"], .tuple [.tuple [.str "fine"]], .str "0", .str "a!"]
section
variable {P : Program} {w : World} {K : Frag} {mg : Str → Option Value} {bs : Heap}
/-- what is away from p -/
def awy (p : Addr) (H : Hp) : Hp := fun a => if a = p then none else H a
theorem awy_le {p : Addr} {H : Hp} : Same (awy p H) H := fun b o e => by
  unfold awy at e
  by_cases h : b = p
  · rw [if_pos h] at e; cases e
  · rw [if_neg h] at e; exact e
theorem awy_but {p : Addr} {H H' : Hp} (k : But p H H') : Same (awy p H) (awy p H') := fun b o e => by
  unfold awy at e ⊢
  by_cases h : b = p
  · rw [if_pos h] at e; cases e
  · rw [if_neg h] at e ⊢; exact k _ _ h e
theorem nw_awy {p : Addr} {H H' : Hp} {o : HO} (h : H p = some o) : Same (nw H H') (awy p H') := fun b u e => by
  have n : b ≠ p := fun z => by rw [z, nw_old h] at e; cases e
  unfold awy
  rw [if_neg n]
  exact nw_le _ _ e
def spOdd (K : Frag) : Sp := fun vs H Q _ => ∃ (p : Addr) (k : Int), vs = [.ref p] ∧ k < 1000000 ∧ Pot H p k ∧ ∀ H' v d, But p H H' → Pot H' p (k + 1) → d ∈ odd1 ++ odd2 → Dd K (awy p H') v d → Q v H'
theorem scOdd : FnScope ["pot", "some"] ["pot"] (defScope sOdd) := ⟨rfl, rfl, rfl, by decide +kernel, rfl, by decide +kernel, by decide +kernel⟩
theorem gd_neg1 : GD K (tUn (rU fun i => .int (-i)) (tC (.int 1))) (.int (-1)) := fun σ H Q q => ⟨1, rfl, q (.int (-1)) H (Same.refl H) (.int _)⟩
theorem gd_op {r : R2} {i j n : Int} (h : ∀ (H : Hp) (Q : VK), Q (.int n) H → r (.int i) (.int j) H Q) : GD K (tOp r (tC (.int i)) (tC (.int j))) (.int n) := fun σ H Q q => h H Q (q (.int n) H (Same.refl H) (.int _))
theorem ddAll_app {H : Hp} : ∀ {xs ys : List V} {ds es : List PyData}, DdAll K H xs ds → DdAll K H ys es → DdAll K H (xs ++ ys) (ds ++ es)
  | _, _, _, _, .nil, h => h
  | _, _, _, _, .cons a t, h => .cons a (ddAll_app t h)
theorem ddAll_mem {H : Hp} {v : V} : ∀ {xs : List V} {ds : List PyData}, DdAll K H xs ds → v ∈ xs → ∃ d, d ∈ ds ∧ Dd K H v d
  | _, _, .nil, h => by cases h
  | _, _, .cons a t, h => by
    rcases List.mem_cons.mp h with rfl | h
    · exact ⟨_, by simp, a⟩
    · obtain ⟨d, h1, h2⟩ := ddAll_mem t h
      exact ⟨d, List.mem_cons_of_mem _ h1, h2⟩
theorem ok_odd {f fT fO : Addr} {fd fdT fdO : FuncData} (FP : FD K "_law_odd" sOdd f fd) (F : Dx mg) (FT : FD K "_law_take" sTake fT fdT) (gT : mg "_law_take" = some (.ref fT)) (bT : Binds K fdT ["pot", "upto"] [])
    (FO : FD K "_law_of" sOf fO fdO) (gO : mg "_law_of" = some (.ref fO)) (bO : Binds K fdO ["pot", "some"] []) : FnOk P w K mg bs CX0 3 f fd ["pot"] (spOdd K) := by
  have sc := scOdd
  have GO : FnOk P w K mg bs CX0 2 fO fdO ["pot", "some"] (spOf K) := ok_of FO F FT gT bT
  refine FP.ok scOdd (fun vs H Q E h => ?_) (fun cdv A outer s H vs Q E hr h => ?_)
  · obtain ⟨p, k, rfl, _⟩ := h
    rfl
  · obtain ⟨p, t, rfl, ht, hP, k⟩ := h
    refine ⟨_, pss_cons (ps_set (i := 1) sc.nd rfl (Or.inl rfl) (pe_lst (pa_cons pe_non (pa_cons pe_bl (pa_cons pe_bl (pa_cons pe_int (pa_cons pe_int (pa_cons (pe_un un_neg pe_int) (pa_cons (pe_op op_pow pe_int pe_int)
          (pa_cons pe_str (pa_cons pe_str (pa_cons pe_str (pa_cons pe_str (pa_cons (pe_tup pa_nil) (pa_cons (pe_lst pa_nil) (pa_cons pe_dnewK (pa_cons (pe_tup (pa_cons pe_int pa_nil)) (pa_cons (pe_tup (pa_cons (pe_tup pa_nil) pa_nil))
          (pa_cons (pe_lst (pa_cons pe_int pa_nil)) (pa_cons (pe_tup (pa_cons pe_int (pa_cons pe_int pa_nil))) pa_nil))))))))))))))))))))
      (pss_cons (ps_set (i := 1) sc.nd rfl (Or.inl rfl) (pe_op op_cat (pv 1) (pe_lst (pa_cons (pe_tup (pa_cons (pe_tup (pa_cons pe_int (pa_cons pe_int pa_nil))) pa_nil)) (pa_cons (pe_tup (pa_cons pe_str (pa_cons pe_str pa_nil)))
          (pa_cons (pe_tup (pa_cons pe_str (pa_cons pe_str (pa_cons pe_str pa_nil)))) (pa_cons (pe_tup (pa_cons (pe_tup (pa_cons pe_int (pa_cons pe_bl pa_nil))) pa_nil)) (pa_cons (pe_tup (pa_cons pe_str pa_nil)) (pa_cons (pe_tup (pa_cons (pe_tup (pa_cons pe_str pa_nil)) pa_nil))
          (pa_cons pe_str (pa_cons pe_str pa_nil)))))))))))
      (pss_one (ps_ret (pe_call GO hr (by rfl) gO FO.kp bO .nil pass0 (pa_cons (pv 0) (pa_cons (pv 1) pa_nil)))))), ?_⟩
    refine rd_seq (rd_set (rd_lst ?_))
    refine (ga_cons (gd_const fun _ => .non) (ga_cons (gd_const fun _ => .bl _) (ga_cons (gd_const fun _ => .bl _) (ga_cons (gd_const fun _ => .int _) (ga_cons (gd_const fun _ => .int _) (ga_cons gd_neg1
      (ga_cons (gd_op fun H Q q => ⟨_, _, rfl, rfl, ⟨by decide, by decide, by decide⟩, q⟩) (ga_cons (gd_const fun _ => .str _) (ga_cons (gd_const fun _ => .str _) (ga_cons (gd_const fun _ => .str _) (ga_cons (gd_const fun _ => .str _)
      (ga_cons (gd_tup ga_nil (by decide)) (ga_cons (gd_lst ga_nil (by decide)) (ga_cons gd_dnew (ga_cons (gd_tup (ga_cons (gd_const fun _ => .int _) ga_nil) (by decide)) (ga_cons (gd_tup (ga_cons (gd_tup ga_nil (by decide)) ga_nil) (by decide))
      (ga_cons (gd_lst (ga_cons (gd_const fun _ => .int _) ga_nil) (by decide)) (ga_cons (gd_tup (ga_cons (gd_const fun _ => .int _) (ga_cons (gd_const fun _ => .int _) ga_nil)) (by decide)) ga_nil)))))))))))))))))
      : GA K _ odd1) _ _ _ fun vs H1 s1 g1 => ?_
    have l1 : vs.length = 18 := ddAll_len g1
    refine ⟨Nat.le_trans (Nat.le_of_eq l1) (by decide), fun a ha => ?_⟩
    have s2 : Same H1 (upd H1 a (.lst vs)) := same_new ha
    have f2 : upd H1 a (.lst vs) a = some (.lst vs) := upd_same
    have g2 := ddAll_keep (nw_up s2) g1
    have sH2 := s1.trans s2
    have ha0 := s1.free ha
    generalize upd H1 a (.lst vs) = H2 at s2 f2 g2 sH2 ⊢
    dsimp only
    refine rd_seq (rd_set ?_)
    refine ⟨_, rfl, rd_lst ?_⟩
    refine (ga_cons (gd_tup (ga_cons (gd_tup (ga_cons (gd_const fun _ => .int _) (ga_cons (gd_const fun _ => .int _) ga_nil)) (by decide)) ga_nil) (by decide))
      (ga_cons (gd_tup (ga_cons (gd_const fun _ => .str _) (ga_cons (gd_const fun _ => .str _) ga_nil)) (by decide))
      (ga_cons (gd_tup (ga_cons (gd_const fun _ => .str _) (ga_cons (gd_const fun _ => .str _) (ga_cons (gd_const fun _ => .str _) ga_nil))) (by decide))
      (ga_cons (gd_tup (ga_cons (gd_tup (ga_cons (gd_const fun _ => .int _) (ga_cons (gd_const fun _ => .bl _) ga_nil)) (by decide)) ga_nil) (by decide))
      (ga_cons (gd_tup (ga_cons (gd_const fun _ => .str _) ga_nil) (by decide))
      (ga_cons (gd_tup (ga_cons (gd_tup (ga_cons (gd_const fun _ => .str _) ga_nil) (by decide)) ga_nil) (by decide))
      (ga_cons (gd_const fun _ => .str _) (ga_cons (gd_const fun _ => .str _) ga_nil))))))) : GA K _ odd2) _ _ _ fun ws H3 s3 g3 => ?_
    have l3 : ws.length = 8 := ddAll_len g3
    refine ⟨Nat.le_trans (Nat.le_of_eq l3) (by decide), fun b hb => ?_⟩
    have s4 : Same H3 (upd H3 b (.lst ws)) := same_new hb
    have f4 : upd H3 b (.lst ws) b = some (.lst ws) := upd_same
    have f5 := s4 _ _ (s3 _ _ f2)
    have g4 := ddAll_keep (nw_up s4) (ddAll_keep (nw_in sH2) g3)
    have g5 := ddAll_keep (nw_up s4) (ddAll_keep (nw_up s3) g2)
    have sH4 := (sH2.trans s3).trans s4
    generalize upd H3 b (.lst ws) = H4 at s4 f4 f5 g4 g5 sH4 ⊢
    refine ⟨a, b, vs, ws, rfl, rfl, f5, f4, by rw [l1, l3]; exact (by decide), fun c hc => ?_⟩
    have s6 : Same H4 (upd H4 c (.lst (vs ++ ws))) := same_new hc
    have f6 : upd H4 c (.lst (vs ++ ws)) c = some (.lst (vs ++ ws)) := upd_same
    have g6 := ddAll_keep (nw_up s6) (ddAll_app g5 g4)
    have sH6 := sH4.trans s6
    have hc0 := sH4.free hc
    generalize upd H4 c (.lst (vs ++ ws)) = H6 at s6 f6 g6 sH6 ⊢
    dsimp only
    obtain ⟨o, hpo⟩ := hP.some
    have nc : c ≠ p := hP.ne hc0
    refine ⟨_, rfl, _, rfl, p, c, _, t, rfl, nc, SqL.of f6, by rw [List.length_append]; omega, by rw [List.length_append]; omega, ht, hP.same sH6, fun H7 v k7 hP7 hv => ?_⟩
    obtain ⟨d, hd, hdv⟩ := ddAll_mem (ddAll_keep (nw_awy hpo) g6) hv
    exact k H7 v d ((But.of sH6).trans k7) hP7 hd (Dd_keep (awy_but k7) hdv)
end
end L2.K05

set_option Elab.async false
set_option linter.all false
set_option maxRecDepth 100000
set_option maxHeartbeats 4000000
namespace L2.K05
open PySem PySem.Spec PyProof.Rows L2.Vx
open PySem.W (Frag)
/-! ### a number in a text -/
def allIn (z g : Str) : Bool := z.cps.toList.all fun c => decide (c ∈ g.cps.toList)
def digitsS : Str := "0123456789"
def numText (n : Nat) : Str := Str.ofString (toString ((n : Nat) : Int))
def valOf (z : Str) : Nat := NumText.digitsVal z.cps.toList
def numIn (z : Str) (lo hi : Int) : Option Int :=
  if (1 ≤ z.length ∧ z.length ≤ 9) ∧ allIn z digitsS = true then
    if numText (valOf z) = z ∧ lo ≤ (valOf z : Int) ∧ (valOf z : Int) ≤ hi then some (valOf z : Int) else none
  else none
def optV : Option Int → V
  | none => .non
  | some n => .int n
theorem allIn_digits {z : Str} : allIn z digitsS = true ↔ NumText.AllDigits z.cps.toList := by
  unfold allIn NumText.AllDigits
  rw [List.all_eq_true]
  have e : digitsS.cps.toList = [48, 49, 50, 51, 52, 53, 54, 55, 56, 57] := by decide +kernel
  rw [e]
  constructor
  · intro h c hc
    have h1 := of_decide_eq_true (h c hc)
    simp at h1
    omega
  · intro h c hc
    have h1 := h c hc
    refine decide_eq_true ?_
    have : c = 48 ∨ c = 49 ∨ c = 50 ∨ c = 51 ∨ c = 52 ∨ c = 53 ∨ c = 54 ∨ c = 55 ∨ c = 56 ∨ c = 57 := by omega
    simpa using this
theorem val_lt : ∀ (l : List Nat), NumText.AllDigits l → NumText.digitsVal l < 10 ^ l.length := by
  intro l
  have h : ∀ (l : List Nat) (a : Nat), NumText.AllDigits l → l.foldl (fun acc c => acc * 10 + (c - 48)) a < (a + 1) * 10 ^ l.length := by
    intro l
    induction l with
    | nil => intro a _; simp
    | cons c r ih =>
      intro a hd
      rw [List.foldl_cons, List.length_cons, Nat.pow_succ]
      have h1 := ih (a * 10 + (c - 48)) hd.tail
      have h2 := hd.head
      have h3 : (a * 10 + (c - 48) + 1) * 10 ^ r.length ≤ ((a + 1) * 10) * 10 ^ r.length := Nat.mul_le_mul_right _ (by omega)
      have h4 : (a + 1) * 10 * 10 ^ r.length = (a + 1) * (10 ^ r.length * 10) := by rw [Nat.mul_assoc, Nat.mul_comm 10]
      omega
  intro hd
  have := h l 0 hd
  simpa [NumText.digitsVal] using this
theorem val_small {z : Str} (h : NumText.AllDigits z.cps.toList) (hl : z.length ≤ 9) : valOf z < 10 ^ 9 :=
  Nat.lt_of_lt_of_le (val_lt _ h) (Nat.pow_le_pow_right (by decide) (by simpa [Str.length] using hl))
theorem small_log {n : Nat} (h : n < 10 ^ 9) : (Int.natAbs ((n : Nat) : Int)).log2 < 1920 := by
  rw [Int.natAbs_natCast]
  by_cases e : n = 0
  · rw [e]; decide
  · exact (Nat.log2_lt e).mpr (Nat.lt_trans h (by decide +kernel))
section
variable {P : Program} {w : World} {K : Frag} {mg : Str → Option Value} {bs : Heap}
def spCons : Sp := fun vs H Q _ => ∃ (z g : Str), vs = [.str z, .str g] ∧ z.length ≤ 900000 ∧ ∀ H', Same H H' → Q (.bl (allIn z g)) H'
theorem scCons : FnScope ["text", "signs", "sign"] ["text", "signs"] (defScope sCons) := ⟨rfl, rfl, rfl, by decide +kernel, rfl, by decide +kernel, by decide +kernel⟩
/-- the list of a walk's tests -/
theorem ok_cons {f : Addr} {fd : FuncData} (FP : FD K "consists_of" sCons f fd) (gA : mg "all" = none) : FnOk P w K mg bs CX0 1 f fd ["text", "signs"] spCons := by
  have sc := scCons
  refine FP.ok scCons (fun vs H Q E h => ?_) (fun cdv A outer s H vs Q E hr h => ?_)
  · obtain ⟨z, g, rfl, _⟩ := h
    rfl
  · obtain ⟨z, g, rfl, hz, k⟩ := h
    refine ⟨_, pss_one (ps_ret (pe_callB (cr_all rfl) (by rfl) gA boot_all (pa_cons
          (pe_lc (own := [("sign", 2)]) (g := gName 2) (by rfl) sc.nd (pi_str (pv 0)) (blkOk_by (N := ["text", "signs", "sign"]) (sc := defScope sCons) (by decide +kernel))
            (fun _ _ _ _ _ => pg_name (i := 2) sc.nd rfl (Or.inl rfl)) (fun _ _ _ _ _ => pts_nil)
            (fun _ _ _ _ _ => pe_cmpR op_in_sign (pv 2) (pv 1) rfl)) pa_nil))), ?_⟩
    refine ⟨_, rfl, z, rfl, fun D hD => lc_it walk_str (fun i H' => Same H H' ∧ H' D = some (.lst (((z.cps.toList.take i).map fun c => decide (c ∈ g.cps.toList)).map V.bl))) ⟨same_new hD, by rw [upd_same]; rfl⟩ (fun _ _ _ _ => trivial) ?_ ?_⟩
    · rintro i v H5 H6 hi ⟨s5, d5⟩ ⟨rfl, c, hc, rfl⟩
      refine ⟨rfl, rd_yes rfl ?_⟩
      refine ⟨_, rfl, _, rfl, c, g, rfl, rfl, _, d5, ?_, s5.mut hD, ?_⟩
      · rw [List.length_map, List.length_map, List.length_take]
        exact Nat.lt_of_le_of_lt (Nat.le_trans (Nat.min_le_right _ _) (by simpa [Str.length] using hz)) (by decide)
      · have hc' : z.cps.toList[i]? = some c := by simpa using hc
        rw [upd_same, List.take_succ, hc', List.map_append, List.map_append]
        rfl
    · rintro H5 ⟨s5, d5⟩
      refine ⟨D, _, rfl, SqL.of d5, ?_⟩
      have e : z.cps.toList.take z.cps.size = z.cps.toList := List.take_of_length_le (by simp)
      rw [e, List.all_map]
      exact k _ s5
def spNum : Sp := fun vs H Q _ => ∃ (z : Str) (lo hi : Int), vs = [.str z, .int lo, .int hi] ∧ z.length ≤ 900000 ∧ ∀ H', Same H H' → Q (optV (numIn z lo hi)) H'
theorem scNum : FnScope ["word", "low", "high", "number"] ["word", "low", "high"] (defScope sNum) := ⟨rfl, rfl, rfl, by decide +kernel, rfl, by decide +kernel, by decide +kernel⟩
structure FxNum (mg : Str → Option Value) : Prop where
  len : mg "len" = none
  int : mg "int" = none
  str : mg "str" = none
  all : mg "all" = none
  most : ∃ t, mg "LONGEST_NUMBER" = some (.int 9 t)
  dig : ∃ t, mg "DIGITS" = some (.str "0123456789" t)
theorem ok_num {f fC : Addr} {fd fdC : FuncData} (FP : FD K "number_in" sNum f fd) (F : FxNum mg) (FC : FD K "consists_of" sCons fC fdC) (gC : mg "consists_of" = some (.ref fC)) (bC : Binds K fdC ["text", "signs"] []) :
    FnOk P w K mg bs CX0 2 f fd ["word", "low", "high"] spNum := by
  have sc := scNum
  have GC : FnOk P w K mg bs CX0 1 fC fdC ["text", "signs"] spCons := ok_cons FC F.all
  obtain ⟨t1, e1⟩ := F.most
  obtain ⟨t2, e2⟩ := F.dig
  refine FP.ok scNum (fun vs H Q E h => ?_) (fun cdv A outer s H vs Q E hr h => ?_)
  · obtain ⟨z, lo, hi, rfl, _⟩ := h
    rfl
  · obtain ⟨z, lo, hi, rfl, hz, k⟩ := h
    have hz2 : z.length ≤ sizeLine := Nat.le_trans hz (by decide)
    refine ⟨_, pss_cons (ps_if (PW.pt (pw_or (pt_not (pt_chain op_le op_le pe_int (pe_callB call_len_str (by rfl) F.len boot_len (pa_cons (pv 0) pa_nil)) (pe_glob (v := .int 9) rfl e1 ⟨_, rfl⟩)))
          (pw_or1 (pt_not (pt_val (pe_call GC hr (by rfl) gC FC.kp bC .nil pass0 (pa_cons (pv 0) (pa_cons (pe_glob (v := .str "0123456789") rfl e2 ⟨_, rfl⟩) pa_nil))))))))
        (pss_one (ps_ret pe_non)) pss_nil)
      (pss_cons (ps_set (i := 3) sc.nd rfl (Or.inl rfl) (pe_callTy call_int_str (by rfl) F.int boot_int (pa_cons (pv 0) pa_nil)))
      (pss_cons (ps_if (PW.pt (pw_or (pt_cmpR op_ne (pe_callTy call_str_int (by rfl) F.str boot_str (pa_cons (pv 3) pa_nil)) (pv 0) (nomark _))
          (pw_or1 (pt_not (pt_chain op_le op_le (pv 1) (pv 3) (pv 2))))))
        (pss_one (ps_ret pe_non)) pss_nil)
      (pss_one (ps_ret (pv 3))))), ?_⟩
    refine rd_seq (rd_if ?_)
    have cut : ¬ ((1 ≤ z.length ∧ z.length ≤ 9) ∧ allIn z digitsS = true) → numIn z lo hi = none := fun q => if_neg q
    have fin : ∀ H', Same H H' → numIn z lo hi = none → Q .non H' := fun H' s e => by
      have q := k H' s
      rw [e] at q
      exact q
    refine ⟨_, rfl, z, rfl, hz2, _, _, rfl, rfl, _, rfl, ?_⟩
    by_cases h1 : 1 ≤ z.length
    · refine Eq.mpr (if_pos (decide_eq_true (by omega))) ?_
      refine ⟨_, _, rfl, rfl, _, rfl, ?_⟩
      by_cases h2 : z.length ≤ 9
      · refine Eq.mpr (if_neg (by rw [decide_eq_true (by omega : ((z.length : Nat) : Int) ≤ 9)]; decide)) ?_
        refine ⟨_, rfl, z, _, rfl, hz, fun H1 s1 => ⟨_, rfl, ?_⟩⟩
        cases hA : allIn z digitsS with
        | false =>
          refine Eq.mpr (if_pos (by show (!allIn z digitsS) = true; rw [hA]; rfl)) ?_
          exact fin H1 s1 (cut fun q => by rw [hA] at q; cases q.2)
        | true =>
          refine Eq.mpr (if_neg (by show ¬ (!allIn z digitsS) = true; rw [hA]; decide)) ?_
          have hd := allIn_digits.mp hA
          have hv := val_small hd h2
          dsimp only [tNext]
          refine rd_seq (rd_set ?_)
          refine ⟨_, rfl, z, ((valOf z : Nat) : Int), rfl, intText_digits hd (fun q => ?_) (by omega), by omega, ?_⟩
          · have := congrArg List.length q
            rw [Array.length_toList, List.length_nil] at this
            have h1' : 1 ≤ z.cps.size := h1
            omega
          have e0 : numIn z lo hi = if numText (valOf z) = z ∧ lo ≤ (valOf z : Int) ∧ (valOf z : Int) ≤ hi then some (valOf z : Int) else none := if_pos ⟨⟨h1, h2⟩, hA⟩
          dsimp only
          refine rd_seq (rd_if ?_)
          refine ⟨_, rfl, ((valOf z : Nat) : Int), rfl, small_log hv, _, rfl, rfl, _, rfl, ?_⟩
          by_cases h3 : numText (valOf z) = z
          · refine Eq.mpr (if_neg (nt (congrArg V.str h3))) ?_
            refine ⟨_, rfl, _, rfl, _, _, rfl, rfl, _, rfl, ?_⟩
            by_cases h4 : lo ≤ ((valOf z : Nat) : Int)
            · refine Eq.mpr (if_pos (decide_eq_true h4)) ?_
              refine ⟨_, rfl, _, _, rfl, rfl, _, rfl, ?_⟩
              by_cases h5 : ((valOf z : Nat) : Int) ≤ hi
              · refine Eq.mpr (if_neg (by rw [decide_eq_true h5]; decide)) ?_
                dsimp only
                refine ⟨_, rfl, ?_⟩
                have q := k H1 s1
                rw [e0, if_pos ⟨h3, h4, h5⟩] at q
                exact q
              · refine Eq.mpr (if_pos (by rw [decide_eq_false h5]; rfl)) ?_
                exact fin H1 s1 (e0.trans (if_neg fun q => h5 q.2.2))
            · refine Eq.mpr (if_neg (by rw [decide_eq_false h4]; decide)) ?_
              exact ⟨_, rfl, fin H1 s1 (e0.trans (if_neg fun q => h4 q.2.1))⟩
          · refine Eq.mpr (if_pos (nf (fun q => h3 (V.str.inj q)))) ?_
            exact fin H1 s1 (e0.trans (if_neg fun q => h3 q.1))
      · refine Eq.mpr (if_pos (by rw [decide_eq_false (by omega : ¬ ((z.length : Nat) : Int) ≤ 9)]; rfl)) ?_
        exact fin H (Same.refl H) (cut fun q => h2 q.1.2)
    · refine Eq.mpr (if_neg (by rw [decide_eq_false (by omega : ¬ (1 : Int) ≤ ((z.length : Nat) : Int))]; decide)) ?_
      exact ⟨_, rfl, fin H (Same.refl H) (cut fun q => h1 q.1.1)⟩
end
end L2.K05

set_option Elab.async false
set_option linter.all false
set_option maxRecDepth 100000
set_option maxHeartbeats 4000000
namespace L2.K05
open PySem PySem.Spec PyProof.Rows L2.Vx
open PySem.W (Frag)
/-! ### a book's text -/
theorem sp_eq : (" " : Str) = ⟨#[32]⟩ := by decide +kernel
theorem nl_eq : ("\n" : Str) = ⟨#[10]⟩ := by decide +kernel
def amongW : List Str → Option Str
  | [a, b] => if a = "among" ∧ (b = "eldest" ∨ b = "latest") then some b else none
  | _ => none
def amongIn (z : Str) : Option Str := amongW (Txt.split z " ")
def ruleWords : List Str := ["corner", "wall", "level", "straight", "grid"]
def leastOf (w : Str) : Int := if w = "grid" then 2 else 0
def ruleW : List Str → Option (Str × Int)
  | [a, b] => if a ∈ ruleWords then (numIn b (leastOf a) 99).map fun n => (a, n) else none
  | _ => none
def ruleIn (z : Str) : Option (Str × Int) := ruleW (Txt.split z " ")
def rulesIn : List Str → Nat → List (Str × Int) → Nat ⊕ List (Str × Int)
  | [], _, acc => .inr acc
  | z :: r, n, acc => match ruleIn z with
    | none => .inl n
    | some p => if p.1 ∈ acc.map Prod.fst then .inl n else rulesIn r (n + 1) (acc ++ [p])
def optS : Option Str → V
  | none => .non
  | some z => .str z
section
variable {P : Program} {w : World} {K : Frag} {mg : Str → Option Value} {bs : Heap}
def spAmong : Sp := fun vs H Q _ => ∃ z : Str, vs = [.str z] ∧ z.length ≤ 900000 ∧ ∀ H', Same H H' → Q (optS (amongIn z)) H'
theorem scAmong : FnScope ["line", "words"] ["line"] (defScope sAmong) := ⟨rfl, rfl, rfl, by decide +kernel, rfl, by decide +kernel, by decide +kernel⟩
theorem ok_among {f : Addr} {fd : FuncData} (FP : FD K "read_among" sAmong f fd) (gL : mg "len" = none) : FnOk P w K mg bs CX0 1 f fd ["line"] spAmong := by
  have sc := scAmong
  refine FP.ok scAmong (fun vs H Q E h => ?_) (fun cdv A outer s H vs Q E hr h => ?_)
  · obtain ⟨z, rfl, _⟩ := h
    rfl
  · obtain ⟨z, rfl, hz, k⟩ := h
    refine ⟨_, pss_cons (ps_set (i := 1) sc.nd rfl (Or.inl rfl) (pe_split (pv 0) pe_str))
      (pss_cons (ps_if (PW.pt (pw_or (pt_cmpR op_ne (pe_callB call_len_seq (by rfl) gL boot_len (pa_cons (pv 1) pa_nil)) pe_int (nomark _))
          (pw_or (pt_cmpR op_ne (pe_ix ix_list (pv 1) pe_int (fun _ _ => rfl)) pe_str (nomark _))
          (pw_or1 (pt_cmpR op_notIn_seq (pe_ix ix_list (pv 1) pe_int (fun _ _ => rfl)) (pe_tup (pa_cons pe_str (pa_cons pe_str pa_nil))) rfl)))))
        (pss_one (ps_ret pe_non)) pss_nil)
      (pss_one (ps_ret (pe_ix ix_list (pv 1) pe_int (fun _ _ => rfl))))), ?_⟩
    refine rd_seq (rd_set ?_)
    have hz2 : z.length + 2 ≤ sizeLine := Nat.le_trans (by omega : z.length + 2 ≤ 1000000) (by decide)
    refine ⟨_, rfl, ⟨_, rfl⟩, z, _, rfl, rfl, rfl, hz2, fun p hp => ?_⟩
    have s1 : Same H (upd H p (.lst ((Txt.split z " ").map V.str))) := same_new hp
    have f1 : upd H p (.lst ((Txt.split z " ").map V.str)) p = some (.lst ((Txt.split z " ").map V.str)) := upd_same
    generalize upd H p (.lst ((Txt.split z " ").map V.str)) = H1 at s1 f1 ⊢
    have bad : ∀ H', Same H1 H' → amongIn z = none → Q .non H' := fun H' s e => by
      have q := k H' (s1.trans s)
      rw [e] at q
      exact q
    dsimp only
    refine rd_seq (rd_if ?_)
    refine ⟨_, rfl, p, _, rfl, .inl (SqL.of f1), rfl, _, rfl, ?_⟩
    generalize hW : Txt.split z " " = W at f1
    have e0 : amongIn z = amongW W := congrArg amongW hW
    clear hW
    rcases W with _ | ⟨a, _ | ⟨b, _ | ⟨c, r⟩⟩⟩
    · exact Eq.mpr (if_pos rfl) (bad H1 (Same.refl _) e0)
    · exact Eq.mpr (if_pos rfl) (bad H1 (Same.refl _) e0)
    rotate_left
    · refine Eq.mpr (if_pos (nf (fun q => ?_))) (bad H1 (Same.refl _) e0)
      have h := V.int.inj q
      simp only [List.length_map, List.length_cons] at h
      omega
    ·
      refine Eq.mpr (if_neg (nt (by rfl))) ?_
      refine ⟨_, rfl, p, _, 0, .str a, rfl, rfl, SqL.of f1, rfl, rfl, _, rfl, ?_⟩
      by_cases h1 : a = "among"
      · refine Eq.mpr (if_neg (nt (by rw [h1]))) ?_
        refine ⟨_, rfl, p, _, 1, .str b, rfl, rfl, SqL.of f1, rfl, (by exact (by decide : 2 ≤ sizeLine)), fun q hq => ⟨q, _, rfl, .inr (SqT.of upd_same), rfl, rfl, _, rfl, ?_⟩⟩
        have ei : inV (.str b) [.str "eldest", .str "latest"] = decide (b ∈ (["eldest", "latest"] : List Str)) := inV_str b ["eldest", "latest"]
        have s2 : Same H1 (upd H1 q (.tup [.str "eldest", .str "latest"])) := same_new hq
        have f2 := s2 _ _ f1
        generalize upd H1 q (.tup [.str "eldest", .str "latest"]) = H2 at s2 f2 ⊢
        by_cases h2 : b = "eldest" ∨ b = "latest"
        · refine Eq.mpr (if_neg (by show ¬ (!inV (V.str b) [.str "eldest", .str "latest"]) = true; rw [ei]; exact nt (by simpa using h2))) ?_
          dsimp only [tNext]
          refine ⟨_, rfl, p, _, 1, .str b, rfl, rfl, SqL.of f2, rfl, ?_⟩
          have q := k H2 (s1.trans s2)
          rw [e0.trans (if_pos ⟨h1, h2⟩)] at q
          exact q
        · refine Eq.mpr (if_pos (by show (!inV (V.str b) [.str "eldest", .str "latest"]) = true; rw [ei]; exact nf (by simpa using h2))) ?_
          exact bad H2 s2 (e0.trans (if_neg fun q => h2 q.2))
      · refine Eq.mpr (if_pos (nf (fun q => h1 (V.str.inj q)))) ?_
        exact bad H1 (Same.refl _) (e0.trans (if_neg fun q => h1 q.1))
def FxLeast (K : Frag) (w : World) (mg : Str → Option Value) : Prop := ∃ (d : Addr) (es : Array DictEntry) (n : Nat), mg "LEAST" = some (.ref d) ∧ KDict K w d es n ∧
  ∀ z : Str, ∃ r, PySem.W.nsIn K d z = some r ∧ (z ∈ ruleWords → ∃ t, r = some (.int (leastOf z) t)) ∧ (z ∉ ruleWords → r = none)
structure FxRule (K : Frag) (w : World) (mg : Str → Option Value) : Prop where
  num : FxNum mg
  least : FxLeast K w mg
  most : ∃ t, mg "MOST" = some (.int 99 t)
def spRule : Sp := fun vs H Q _ => ∃ z : Str, vs = [.str z] ∧ z.length ≤ 900000 ∧ (ruleIn z = none → ∀ H', Same H H' → Q .non H') ∧
  ∀ a n, ruleIn z = some (a, n) → ∀ H' p, Same H H' → H p = none → H' p = some (.tup [.str a, .int n]) → Q (.ref p) H'
theorem scRule : FnScope ["line", "words", "number"] ["line"] (defScope sRule) := ⟨rfl, rfl, rfl, by decide +kernel, rfl, by decide +kernel, by decide +kernel⟩
theorem ok_rule {f fN fC : Addr} {fd fdN fdC : FuncData} (FP : FD K "read_rule" sRule f fd) (F : FxRule K w mg)
    (FN : FD K "number_in" sNum fN fdN) (gN : mg "number_in" = some (.ref fN)) (bN : Binds K fdN ["word", "low", "high"] [])
    (FC : FD K "consists_of" sCons fC fdC) (gC : mg "consists_of" = some (.ref fC)) (bC : Binds K fdC ["text", "signs"] []) : FnOk P w K mg bs CX0 3 f fd ["line"] spRule := by
  have sc := scRule
  have GN : FnOk P w K mg bs CX0 2 fN fdN ["word", "low", "high"] spNum := ok_num FN F.num FC gC bC
  obtain ⟨d, es, n0, gD, KD, look⟩ := F.least
  obtain ⟨t1, e1⟩ := F.most
  refine FP.ok scRule (fun vs H Q E h => ?_) (fun cdv A outer s H vs Q E hr h => ?_)
  · obtain ⟨z, rfl, _⟩ := h
    rfl
  · obtain ⟨z, rfl, hz, kn, ks⟩ := h
    refine ⟨_, pss_cons (ps_set (i := 1) sc.nd rfl (Or.inl rfl) (pe_split (pv 0) pe_str))
      (pss_cons (ps_if (PW.pt (pw_or (pt_cmpR op_ne (pe_callB call_len_seq (by rfl) F.num.len boot_len (pa_cons (pv 1) pa_nil)) pe_int (nomark _))
          (pw_or1 (pt_cmpR (op_notIn_kd KD) (pe_ix ix_list (pv 1) pe_int (fun _ _ => rfl)) (pe_glob (v := .ref d) rfl gD rfl) rfl))))
        (pss_one (ps_ret pe_non)) pss_nil)
      (pss_cons (ps_set (i := 2) sc.nd rfl (Or.inl rfl) (pe_call GN hr (by rfl) gN FN.kp bN .nil pass0 (pa_cons (pe_ix ix_list (pv 1) pe_int (fun _ _ => rfl))
          (pa_cons (pe_ix ix_kdict (pe_glob (v := .ref d) rfl gD rfl) (pe_ix ix_list (pv 1) pe_int (fun _ _ => rfl)) (fun _ _ => rfl)) (pa_cons (pe_glob (v := .int 99) rfl e1 ⟨_, rfl⟩) pa_nil)))))
      (pss_cons (ps_if (pt_cmpR op_isN (pv 2) pe_non (nomark _)) (pss_one (ps_ret pe_non)) pss_nil)
      (pss_one (ps_ret (pe_tup (pa_cons (pe_ix ix_list (pv 1) pe_int (fun _ _ => rfl)) (pa_cons (pv 2) pa_nil)))))))), ?_⟩
    refine rd_seq (rd_set ?_)
    have hz2 : z.length + 2 ≤ sizeLine := Nat.le_trans (by omega : z.length + 2 ≤ 1000000) (by decide)
    refine ⟨_, rfl, ⟨_, rfl⟩, z, _, rfl, rfl, rfl, hz2, fun p hp => ?_⟩
    have s1 : Same H (upd H p (.lst ((Txt.split z " ").map V.str))) := same_new hp
    have f1 : upd H p (.lst ((Txt.split z " ").map V.str)) p = some (.lst ((Txt.split z " ").map V.str)) := upd_same
    generalize upd H p (.lst ((Txt.split z " ").map V.str)) = H1 at s1 f1 ⊢
    have bad : ∀ H', Same H1 H' → ruleIn z = none → Q .non H' := fun H' s e => kn e H' (s1.trans s)
    dsimp only
    refine rd_seq (rd_if ?_)
    refine ⟨_, rfl, p, _, rfl, .inl (SqL.of f1), rfl, _, rfl, ?_⟩
    have part : ∀ x ∈ Txt.split z " ", x.length ≤ z.length := fun x hx => split_part (s := 32) (by decide) (by rw [← sp_eq]; exact hx)
    have e0 : ruleIn z = ruleW (Txt.split z " ") := rfl
    generalize Txt.split z " " = W at f1 part e0
    rcases W with _ | ⟨a, _ | ⟨b, _ | ⟨c, r⟩⟩⟩
    · exact Eq.mpr (if_pos rfl) (bad H1 (Same.refl _) e0)
    · exact Eq.mpr (if_pos rfl) (bad H1 (Same.refl _) e0)
    rotate_left
    · refine Eq.mpr (if_pos (nf (fun q => ?_))) (bad H1 (Same.refl _) e0)
      have h := V.int.inj q
      simp only [List.length_map, List.length_cons] at h
      omega
    · refine Eq.mpr (if_neg (nt (by rfl))) ?_
      obtain ⟨r, hr1, hr2, hr3⟩ := look a
      refine ⟨_, rfl, p, _, 0, .str a, rfl, rfl, SqL.of f1, rfl, a, r, rfl, rfl, hr1, _, rfl, ?_⟩
      by_cases h1 : a ∈ ruleWords
      · obtain ⟨t, rfl⟩ := hr2 h1
        dsimp only [Option.isSome, Bool.not_true]
        refine Eq.mpr (if_neg Bool.false_ne_true) ?_
        dsimp only [tNext]
        refine rd_seq (rd_set ?_)
        refine ⟨_, rfl, p, _, 1, .str b, rfl, rfl, SqL.of f1, rfl, ?_⟩
        refine ⟨_, rfl, p, _, 0, .str a, rfl, rfl, SqL.of f1, rfl, d, a, .int (leastOf a), rfl, rfl, ⟨es, n0, _, KD.at_, KD.lit, hr1, ⟨_, rfl⟩⟩, ?_⟩
        refine ⟨b, leastOf a, 99, rfl, Nat.le_trans (part b (by simp)) hz, fun H2 s2 => ?_⟩
        dsimp only
        have e1 : ruleIn z = (numIn b (leastOf a) 99).map fun n => (a, n) := e0.trans (if_pos h1)
        have f2 := s2 _ _ f1
        refine rd_seq (rd_if ?_)
        refine ⟨_, rfl, rfl, _, rfl, ?_⟩
        cases hn : numIn b (leastOf a) 99 with
        | none =>
          refine Eq.mpr (if_pos rfl) ?_
          exact bad H2 s2 (e1.trans (by rw [hn]; rfl))
        | some n =>
          refine Eq.mpr (if_neg (fun q => by cases of_decide_eq_true q)) ?_
          dsimp only [tNext]
          refine ⟨_, rfl, p, _, 0, .str a, rfl, rfl, SqL.of f2, rfl, ?_⟩
          refine ⟨_, rfl, (by exact (by decide : 2 ≤ sizeLine)), fun q hq => ?_⟩
          have hq0 : H q = none := (s1.trans s2).free hq
          exact ks a n (e1.trans (by rw [hn]; rfl)) _ q ((s1.trans s2).trans (same_new hq)) hq0 upd_same
      · rw [hr3 h1]
        dsimp only [Option.isSome, Bool.not_false]
        refine Eq.mpr (if_pos rfl) ?_
        exact bad H1 (Same.refl _) (e0.trans (if_neg h1))
/-- pairs of a word and a number -/
def Pr (H : Hp) (ps : List Addr) (rs : List (Str × Int)) : Prop := ps.length = rs.length ∧ ∀ (i : Nat) (p : Addr) (r : Str × Int), ps[i]? = some p → rs[i]? = some r → H p = some (.tup [.str r.1, .int r.2])
theorem Pr.same {H H' : Hp} {ps : List Addr} {rs : List (Str × Int)} (h : Pr H ps rs) (s : Same H H') : Pr H' ps rs := ⟨h.1, fun i p r a b => s _ _ (h.2 i p r a b)⟩
theorem Pr.snoc {H : Hp} {ps : List Addr} {rs : List (Str × Int)} {p : Addr} {r : Str × Int} (h : Pr H ps rs) (e : H p = some (.tup [.str r.1, .int r.2])) : Pr H (ps ++ [p]) (rs ++ [r]) := by
  refine ⟨by rw [List.length_append, List.length_append, h.1]; rfl, fun i q u a b => ?_⟩
  by_cases hi : i < ps.length
  · rw [List.getElem?_append_left hi] at a
    rw [List.getElem?_append_left (by rw [← h.1]; exact hi)] at b
    exact h.2 i q u a b
  · rw [List.getElem?_append_right (by omega)] at a
    rw [List.getElem?_append_right (by rw [← h.1]; omega), ← h.1] at b
    cases hk : i - ps.length with
    | zero =>
      rw [hk] at a b
      cases a
      cases b
      exact e
    | succ n =>
      rw [hk] at a
      simp at a
def spRules (K : Frag) (C : Addr) : Sp := fun vs H Q E => ∃ (a : Addr) (zs : List Str) (first : Nat), vs = [.ref a, .int first] ∧ SqL K H a (zs.map V.str) ∧ zs.length ≤ 900000 ∧ (∀ z ∈ zs, z.length ≤ 900000) ∧ first ≤ 10 ∧
  (∀ n, rulesIn zs first [] = .inl n → ∀ H' d, Same H H' → H' d = some (xv (.int (n : Nat))) → E (.ref C) (some d) H') ∧
  ∀ rs, rulesIn zs first [] = .inr rs → ∀ H' q ps, Same H H' → H q = none → H' q = some (.lst (ps.map V.ref)) → Pr H' ps rs → rs.length ≤ zs.length → Q (.ref q) H'
theorem scRules : FnScope ["lines", "first", "rules", "number", "line", "rule", "elder"] ["lines", "first"] (defScope sRules) := ⟨rfl, rfl, rfl, by decide +kernel, rfl, by decide +kernel, by decide +kernel⟩
theorem ok_rules {f fR fN fC C fI : Addr} {fd fdR fdN fdC : FuncData} (FP : FD K "read_rules" sRules f fd) (F : FxRule K w mg) (gE : mg "enumerate" = none) (T : ErrT K C fI) (gB : mg "BadBook" = some (.ref C))
    (FR : FD K "read_rule" sRule fR fdR) (gR : mg "read_rule" = some (.ref fR)) (bR : Binds K fdR ["line"] [])
    (FN : FD K "number_in" sNum fN fdN) (gN : mg "number_in" = some (.ref fN)) (bN : Binds K fdN ["word", "low", "high"] [])
    (FC : FD K "consists_of" sCons fC fdC) (gC : mg "consists_of" = some (.ref fC)) (bC : Binds K fdC ["text", "signs"] []) : FnOk P w K mg bs (L2.CX P w) 4 f fd ["lines", "first"] (spRules K C) := by
  have sc := scRules
  have GR : FnOk P w K mg bs CX0 3 fR fdR ["line"] spRule := ok_rule FR F FN gN bN FC gC bC
  refine FP.okX scRules (fun vs H Q E h => ?_) (fun cdv A outer s H vs Q E hr h => ?_)
  · obtain ⟨a, zs, n, rfl, _⟩ := h
    rfl
  · obtain ⟨a, zs, first, rfl, hS, hl, hz, hf, ke, kq⟩ := h
    refine ⟨_, pss_cons (ps_set (i := 2) sc.nd rfl (Or.inl rfl) (pe_lst pa_nil))
      (pss_cons (ps_for (passes_of rfl) rfl (pi_enumF (by rfl) gE (pa_cons (pv 0) (pa_cons (pv 1) pa_nil))) (pg_tup rfl (pgs_cons (pg_name (i := 3) sc.nd rfl (Or.inl rfl)) (pgs_cons (pg_name (i := 4) sc.nd rfl (Or.inl rfl)) pgs_nil)))
        (pss_cons (ps_set (i := 5) sc.nd rfl (Or.inl rfl) (pe_call GR hr (by rfl) gR FR.kp bR .nil pass0 (pa_cons (pv 4) pa_nil)))
        (pss_cons (ps_if (PW.pt (pw_or (pt_cmpR op_isN (pv 5) pe_non (nomark _)) (pw_or1 (pt_cmpR op_in_seq (pe_ix ix_tup (pv 5) pe_int (fun _ _ => rfl))
              (pe_lc (own := [("elder", 6)]) (g := gName 6) (by rfl) sc.nd (pi_list (pv 2)) (blkOk_by (N := ["lines", "first", "rules", "number", "line", "rule", "elder"]) (sc := defScope sRules) (by decide +kernel))
                (fun _ _ _ _ _ => pg_name (i := 6) sc.nd rfl (Or.inl rfl)) (fun _ _ _ _ _ => pts_nil)
                (fun _ _ _ _ _ => pe_ix (r := rIxT K) ix_tup (pv 6) pe_int (fun _ _ => rfl))) rfl))))
            (pss_one (ps_err rfl T gB hr (takes_of rfl rfl rfl rfl) (pa_cons (pv 3) pa_nil))) pss_nil)
        (pss_one (ps_expr (pe_bm PySem.F.plainAttrs_list PySem.F.slot_list_append PySem.F.type_list_append mt_append (pv 2) (pa_cons (pv 5) pa_nil)))))))
      (pss_one (ps_ret (pv 2)))), ?_⟩
    refine rd_seq (rd_set ?_)
    refine ⟨Nat.zero_le _, fun q hq => ?_⟩
    have hq0 : H q = none := hq
    have s1 : Same H (upd H q (.lst [])) := same_new hq
    have f1 : upd H q (.lst []) q = some (.lst []) := upd_same
    generalize upd H q (.lst []) = H1 at s1 f1 ⊢
    dsimp only
    refine rd_seq ?_
    refine ⟨_, rfl, _, rfl, a, _, _, rfl, s1.seq hS, by omega, by omega, for_it (walk_enumF (K := K) (xs := zs.map V.str)) (fun i σ H' => ∃ (v3 v4 v5 : Option V) (ps : List Addr) (rs : List (Str × Int)),
      σ = [some (.ref a), some (.int first), some (.ref q), v3, v4, v5, none] ∧ Same H H' ∧ H' q = some (.lst (ps.map V.ref)) ∧ Pr H' ps rs ∧ rulesIn (zs.drop i) (first + i) rs = rulesIn zs first [] ∧ rs.length ≤ i)
      ⟨none, none, none, [], [], rfl, s1, f1, ⟨rfl, fun i p r e => by simp at e⟩, rfl, Nat.le_refl _⟩ (fun i σ H' _ p => ?_) ?_ ?_⟩
    · obtain ⟨_, _, _, _, _, _, s2, _⟩ := p
      exact s2.seq hS
    · rintro i x σ H2 H3 hi ⟨v3, v4, v5, ps, rs, rfl, s2, e2, pr, eq, hle⟩ ⟨T0, x1, y1, rfl, hT, rfl, hx1, hy1⟩
      cases hx1
      have hi' : i < zs.length := by simpa using hi
      have hy2 : y1 = .str zs[i] := by
        dsimp only at hy1
        rw [List.getElem?_map, List.getElem?_eq_getElem hi'] at hy1
        exact (Option.some.inj hy1).symm
      subst hy2
      have hdrop : zs.drop i = zs[i] :: zs.drop (i + 1) := List.drop_eq_getElem_cons hi'
      have hzi : zs[i].length ≤ 900000 := hz _ (List.getElem_mem hi')
      generalize zs[i] = z at hdrop hzi ⊢
      rw [hdrop] at eq
      refine ⟨T0, _, rfl, SqT.of upd_same, rfl, _, _, rfl, _, _, rfl, rfl, ?_⟩
      have s3 : Same H2 (upd H2 T0 (.tup [.int (first + (i : Nat)), .str z])) := same_new hT
      generalize upd H2 T0 (.tup [.int (first + (i : Nat)), .str z]) = H3 at s3 ⊢
      dsimp only
      refine rd_seq (rd_set ?_)
      refine ⟨_, rfl, z, rfl, hzi, fun hn H4 s4 => ?_, fun wd n hs H4 p s4 hp0 hp => ?_⟩
      · dsimp only
        refine rd_seq (rd_if ?_)
        refine ⟨_, rfl, rfl, _, rfl, ?_⟩
        refine Eq.mpr (if_pos rfl) ?_
        refine Eq.mpr (if_pos rfl) ?_
        refine ⟨_, rfl, _, rfl, fun d hd => ?_⟩
        have e9 : rulesIn zs first [] = .inl (first + i) := by
          rw [← eq]
          unfold rulesIn
          rw [hn]
        have e8 : ((first : Nat) : Int) + ((i : Nat) : Int) = ((first + i : Nat) : Int) := by omega
        exact ke (first + i) e9 _ d (((s2.trans s3).trans s4).trans (same_new hd)) (by rw [upd_same, e8])
      · dsimp only
        have e4 := s4 _ _ (s3 _ _ e2)
        have pr4 := (pr.same s3).same s4
        refine rd_seq (rd_if ?_)
        refine ⟨_, rfl, rfl, _, rfl, ?_⟩
        refine Eq.mpr (if_neg (fun z => by cases of_decide_eq_true z)) ?_
        refine ⟨_, rfl, p, _, 0, .str wd, rfl, rfl, SqT.of hp, rfl, _, rfl, q, rfl, ⟨_, SqL.of e4⟩, fun D hD => lc_it walk_list (fun j H' => Same H4 H' ∧ H' D = some (.lst (((rs.take j).map Prod.fst).map V.str))) ⟨same_new hD, upd_same⟩ (fun _ _ _ u => SqL.of (u.1 _ _ e4)) ?_ ?_⟩
        · rintro j v H5 H6 hj ⟨s5, d5⟩ ⟨rfl, hv⟩
          have hj' : j < ps.length := by simpa using hj
          have hj2 : j < rs.length := by rw [← pr4.1]; exact hj'
          rw [List.getElem?_map, List.getElem?_eq_getElem hj'] at hv
          cases hv
          have hpj := (pr4.same s5).2 j _ _ (List.getElem?_eq_getElem hj') (List.getElem?_eq_getElem hj2)
          refine ⟨rfl, rd_yes rfl ?_⟩
          refine ⟨_, rfl, _, _, 0, .str rs[j].1, rfl, rfl, SqT.of hpj, rfl, _, d5, ?_, s5.mut hD, ?_⟩
          · rw [List.length_map, List.length_map, List.length_take]
            exact Nat.lt_of_le_of_lt (by omega : min j rs.length ≤ 900000) (by decide)
          · rw [upd_same, List.take_succ, List.getElem?_eq_getElem hj2, List.map_append, List.map_append]
            rfl
        · rintro H5 ⟨s5, d5⟩
          have hlen : (ps.map V.ref).length = rs.length := by rw [List.length_map]; exact pr4.1
          rw [hlen, List.take_length] at d5
          refine ⟨D, _, rfl, .inl (SqL.of d5), rfl, flat_strs _, _, rfl, ?_⟩
          have ei : inV (.str wd) ((rs.map Prod.fst).map V.str) = decide (wd ∈ rs.map Prod.fst) := inV_str wd _
          by_cases hm : wd ∈ rs.map Prod.fst
          · refine Eq.mpr (if_pos (by show inV _ _ = true; rw [ei]; exact decide_eq_true hm)) ?_
            refine ⟨_, rfl, _, rfl, fun d hd => ?_⟩
            have e9 : rulesIn zs first [] = .inl (first + i) := by
              rw [← eq]
              unfold rulesIn
              rw [hs]
              exact if_pos hm
            have e8 : ((first : Nat) : Int) + ((i : Nat) : Int) = ((first + i : Nat) : Int) := by omega
            exact ke (first + i) e9 _ d ((((s2.trans s3).trans s4).trans s5).trans (same_new hd)) (by rw [upd_same, e8])
          · refine Eq.mpr (if_neg (by show ¬ inV _ _ = true; rw [ei]; exact fun z => hm (of_decide_eq_true z))) ?_
            dsimp only [tNext]
            have e5 := s5 _ _ e4
            refine ⟨_, rfl, .inl ⟨rfl, _, SqL.of e5⟩, _, rfl, q, _, _, rfl, rfl, e5, Nat.lt_of_le_of_lt (by rw [List.length_map, pr4.1]; omega : (ps.map V.ref).length ≤ 900000) (by decide), ?_⟩
            refine ⟨_, _, _, ps ++ [p], rs ++ [(wd, n)], rfl, ((((s2.trans s3).trans s4).trans s5)).mut hq0, by rw [upd_same, List.map_append]; rfl, ?_, ?_, ?_⟩
            · have pr5 := (pr4.same s5).snoc (r := (wd, n)) (s5 _ _ hp)
              refine ⟨pr5.1, fun i2 p2 r2 a2 b2 => ?_⟩
              have h2 := pr5.2 i2 p2 r2 a2 b2
              rw [upd_ne (fun z => by rw [z, e5] at h2; cases h2)]
              exact h2
            · rw [← eq]
              conv => rhs; unfold rulesIn
              rw [hs]
              exact (if_neg hm).symm
            · rw [List.length_append]
              show rs.length + 1 ≤ i + 1
              omega
    · rintro σ H2 ⟨v3, v4, v5, ps, rs, rfl, s2, e2, pr, eq, hle⟩
      have hn : (zs.map V.str).length = zs.length := List.length_map ..
      rw [hn] at eq hle
      rw [List.drop_length] at eq
      exact ⟨_, rfl, kq rs eq.symm H2 q ps s2 hq e2 pr hle⟩
def bookW : List Str → Nat ⊕ (Str × List (Str × Int))
  | [] => .inl 1
  | l :: r => match amongIn l with
    | none => .inl 1
    | some a => match rulesIn r 2 [] with
      | .inl n => .inl n
      | .inr [] => .inl 2
      | .inr (x :: xs) => .inr (a, x :: xs)
def bookIn (z : Str) : Nat ⊕ (Str × List (Str × Int)) := bookW (Txt.split z "\n")
theorem bookW0 {l : Str} {r : List Str} (h : amongIn l = none) : bookW (l :: r) = .inl 1 := by simp [bookW, h]
theorem bookW1 {l a : Str} {r : List Str} {n : Nat} (h : amongIn l = some a) (e : rulesIn r 2 [] = .inl n) : bookW (l :: r) = .inl n := by simp [bookW, h, e]
theorem bookW2 {l a : Str} {r : List Str} (h : amongIn l = some a) (e : rulesIn r 2 [] = .inr []) : bookW (l :: r) = .inl 2 := by simp [bookW, h, e]
theorem bookW3 {l a : Str} {r : List Str} {x : Str × Int} {xs : List (Str × Int)} (h : amongIn l = some a) (e : rulesIn r 2 [] = .inr (x :: xs)) : bookW (l :: r) = .inr (a, x :: xs) := by simp [bookW, h, e]
theorem putF_len (f : Str) (y : V) : ∀ fs : List (Str × V), (putF f y fs).length ≤ fs.length + 1 := by
  intro fs
  induction fs with
  | nil => simp [putF]
  | cons a r ih =>
    unfold putF
    split
    · simp
    · simp only [List.length_cons]
      omega
/-- the book's own fields -/
def bookF (v a : V) (r : Addr) : List (Str × V) := putF "rules" (.ref r) (putF "among" a (putF "text" v []))
def spInit (K : Frag) (B C : Addr) : Sp := fun vs H Q E => ∃ (x dx : Addr) (v : V), vs = [.ref x, v] ∧ H x = some (.ins B dx []) ∧
  ((NoStr K H v ∧ ∀ H' d, Same H H' → H' d = some (xv (.int 0)) → E (.ref C) (some d) H') ∨
   ∃ z : Str, v = .str z ∧ z.length ≤ 800000 ∧
    (∀ n, bookIn z = .inl n → ∀ H' d, Same H H' → H' d = some (xv (.int (n : Nat))) → E (.ref C) (some d) H') ∧
    ∀ a rs, bookIn z = .inr (a, rs) → ∀ H' t ps, But x H H' → H t = none → H' x = some (.ins B dx (bookF v (.str a) t)) → H' t = some (.tup (ps.map V.ref)) → Pr H' ps rs → Q .non H')
theorem scInit : FnScope ["self", "text", "lines", "among", "rules"] ["self", "text"] (defScope sBook) := ⟨rfl, rfl, rfl, by decide +kernel, rfl, by decide +kernel, by decide +kernel⟩
structure FxInit (K : Frag) (mg : Str → Option Value) (B : Addr) : Prop where
  cls : Cls K B
  nT : NoAttr K B "text"
  nA : NoAttr K B "among"
  nR : NoAttr K B "rules"
  isi : mg "isinstance" = none
  tup : mg "tuple" = none
theorem ok_init {f fA fR1 fR fN fC B C fI : Addr} {fd fdA fdR1 fdR fdN fdC : FuncData} (FP : Fun K "__init__" "Book.__init__" sBook f fd) (FB : FxInit K mg B) (F : FxRule K w mg) (gE : mg "enumerate" = none) (T : ErrT K C fI) (gB : mg "BadBook" = some (.ref C))
    (FA : FD K "read_among" sAmong fA fdA) (gA : mg "read_among" = some (.ref fA)) (bA : Binds K fdA ["line"] [])
    (FS : FD K "read_rules" sRules fR1 fdR1) (gS : mg "read_rules" = some (.ref fR1)) (bS : Binds K fdR1 ["lines", "first"] [])
    (FR : FD K "read_rule" sRule fR fdR) (gR : mg "read_rule" = some (.ref fR)) (bR : Binds K fdR ["line"] [])
    (FN : FD K "number_in" sNum fN fdN) (gN : mg "number_in" = some (.ref fN)) (bN : Binds K fdN ["word", "low", "high"] [])
    (FC : FD K "consists_of" sCons fC fdC) (gC : mg "consists_of" = some (.ref fC)) (bC : Binds K fdC ["text", "signs"] []) : FnOk P w K mg bs (L2.CX P w) 5 f fd ["self", "text"] (spInit K B C) := by
  have sc := scInit
  have GA : FnOk P w K mg bs CX0 1 fA fdA ["line"] spAmong := ok_among FA F.num.len
  have GS : FnOk P w K mg bs (L2.CX P w) 4 fR1 fdR1 ["lines", "first"] (spRules K C) := ok_rules FS F gE T gB FR gR bR FN gN bN FC gC bC
  refine FP.okX scInit (fun vs H Q E h => ?_) (fun cdv A outer s H vs Q E hr h => ?_)
  · obtain ⟨x, dx, v, rfl, _⟩ := h
    rfl
  · obtain ⟨x, dx, v, rfl, hx, h⟩ := h
    have hr1 : Room 1 (A.deeper (envOfC "Book.__init__" (defScope sBook) s.heap.objs.size f cdv)) := hr.mono (by decide)
    refine ⟨_, pss_cons (ps_if (pt_not (pt_val (pe_callB call_isi (by rfl) FB.isi boot_isinstance (pa_cons (pv 1) (pa_cons (pe_bltn (v := .ty "str") (by rfl) F.num.str boot_str rfl) pa_nil)))))
        (pss_one (ps_err rfl T gB hr (takes_of rfl rfl rfl rfl) (pa_cons pe_int pa_nil))) pss_nil)
      (pss_cons (ps_set (i := 2) sc.nd rfl (Or.inl rfl) (pe_split (pv 1) pe_str))
      (pss_cons (ps_set (i := 3) sc.nd rfl (Or.inl rfl) (pe_call GA hr1 (by rfl) gA FA.kp bA .nil pass0 (pa_cons (pe_ix ix_list (pv 2) pe_int (fun _ _ => rfl)) pa_nil)))
      (pss_cons (ps_if (pt_cmpR op_isN (pv 3) pe_non (nomark _)) (pss_one (ps_err rfl T gB hr (takes_of rfl rfl rfl rfl) (pa_cons pe_int pa_nil))) pss_nil)
      (pss_cons (ps_set (i := 4) sc.nd rfl (Or.inl rfl) (pe_callS GS hr (by rfl) gS FS.kp bS (fun σ => passAt (takes_of rfl rfl rfl rfl) σ) (pa_cons (pe_slice sl_list (pv 2) (po_some pe_int) po_none) (pa_cons pe_int pa_nil))))
      (pss_cons (ps_if (pt_not (pt_truth (pv 4) (fun _ => rfl))) (pss_one (ps_err rfl T gB hr (takes_of rfl rfl rfl rfl) (pa_cons pe_int pa_nil))) pss_nil)
      (pss_cons (ps_fld (pv 0) (pv 1) rfl)
      (pss_cons (ps_fld (pv 0) (pv 3) rfl)
      (pss_one (ps_fld (pv 0) (pe_callTy call_tuple_of (by rfl) FB.tup boot_tuple (pa_cons (pv 4) pa_nil)) rfl))))))))), ?_⟩
    refine rd_seq (rd_if ?_)
    rcases h with ⟨⟨n, hT, hk⟩, ke⟩ | ⟨z, rfl, hz, ke, kq⟩
    · refine ⟨_, rfl, v, .ty "str", _, _, false, rfl, .ty "str", hT, kit_ty hk, _, rfl, ?_⟩
      refine Eq.mpr (if_pos rfl) ?_
      exact ⟨_, rfl, fun d hd => ke _ d (same_new hd) upd_same⟩
    · refine ⟨_, rfl, .str z, .ty "str", .type "str", _, true, rfl, .ty "str", .base (.str z), kit_ty (by decide +kernel), _, rfl, ?_⟩
      refine Eq.mpr (if_neg (by decide)) ?_
      dsimp only [tNext]
      refine rd_seq (rd_set ?_)
      have hz2 : z.length + 2 ≤ sizeLine := Nat.le_trans (by omega : z.length + 2 ≤ 1000000) (by decide)
      refine ⟨_, rfl, ⟨_, rfl⟩, z, _, rfl, rfl, rfl, hz2, fun p hp => ?_⟩
      have s1 : Same H (upd H p (.lst ((Txt.split z "\n").map V.str))) := same_new hp
      have f1 : upd H p (.lst ((Txt.split z "\n").map V.str)) p = some (.lst ((Txt.split z "\n").map V.str)) := upd_same
      generalize upd H p (.lst ((Txt.split z "\n").map V.str)) = H1 at s1 f1 ⊢
      dsimp only
      have part : ∀ y ∈ Txt.split z "\n", y.length ≤ z.length := fun y hy => split_part (s := 10) (by decide) (by rw [← nl_eq]; exact hy)
      have cnt : (Txt.split z "\n").length ≤ z.length + 1 := by
        have := split_len z (s := 10) (by decide)
        rw [← nl_eq] at this
        exact this
      have hne : Txt.split z "\n" ≠ [] := by
        have := split_ne z (s := 10) (by decide)
        rw [← nl_eq] at this
        exact this
      have e0 : bookIn z = bookW (Txt.split z "\n") := rfl
      generalize Txt.split z "\n" = W at f1 part cnt hne e0
      cases W with
      | nil => exact absurd rfl hne
      | cons l r =>
      refine rd_seq (rd_set ?_)
      refine ⟨_, rfl, p, _, 0, .str l, rfl, rfl, SqL.of f1, atI_nat (j := 0) (v := V.str l) rfl, l, rfl, Nat.le_trans (part l (by simp)) (by omega), fun H2 s2 => ?_⟩
      dsimp only
      refine rd_seq (rd_if ?_)
      refine ⟨_, rfl, rfl, _, rfl, ?_⟩
      cases ha : amongIn l with
      | none =>
        refine Eq.mpr (if_pos rfl) ?_
        refine ⟨_, rfl, fun d hd => ke 1 (e0.trans (bookW0 ha)) _ d ((s1.trans s2).trans (same_new hd)) upd_same⟩
      | some a =>
        refine Eq.mpr (if_neg (fun z => by cases of_decide_eq_true z)) ?_
        dsimp only [tNext]
        refine rd_seq (rd_set ?_)
        have f2 := s2 _ _ f1
        refine ⟨_, rfl, _, rfl, p, _, rfl, SqL.of f2, fun p2 hp2 => ?_⟩
        have ec : cutV ((l :: r).map V.str) (some 1) none = r.map V.str := by
          show ((((l :: r).map V.str).drop 1).take (((l :: r).map V.str).length - 1)) = r.map V.str
          rw [List.map_cons, List.drop_succ_cons, List.drop_zero, List.length_cons, Nat.add_sub_cancel, List.take_length]
        rw [ec]
        have s3 : Same H2 (upd H2 p2 (.lst (r.map V.str))) := same_new hp2
        have f3 : upd H2 p2 (.lst (r.map V.str)) p2 = some (.lst (r.map V.str)) := upd_same
        generalize upd H2 p2 (.lst (r.map V.str)) = H3 at s3 f3 ⊢
        refine ⟨p2, r, 2, rfl, SqL.of f3, ?_, fun y hy => Nat.le_trans (part y (List.mem_cons_of_mem _ hy)) (by omega), by omega, fun n hn H' d s d' => ?_, fun rs hn H4 q ps s4 hq e4 pr hl => ?_⟩
        · have := cnt
          rw [List.length_cons] at this
          omega
        · exact ke n (e0.trans (bookW1 ha hn)) H' d (((s1.trans s2).trans s3).trans s) d'
        · dsimp only
          refine rd_seq (rd_if ?_)
          refine ⟨_, rfl, _, .inl ⟨_, SqL.of e4, rfl⟩, ?_⟩
          cases rs with
          | nil =>
            have hps : ps = [] := List.length_eq_zero_iff.mp pr.1
            subst hps
            refine Eq.mpr (if_pos rfl) ?_
            refine ⟨_, rfl, fun d hd => ke 2 (e0.trans (bookW2 ha hn)) _ d ((((s1.trans s2).trans s3).trans s4).trans (same_new hd)) upd_same⟩
          | cons r0 rs =>
            cases ps with
            | nil => exact absurd pr.1 (by simp)
            | cons p0 ps =>
            refine Eq.mpr (if_neg (by simp)) ?_
            dsimp only [tNext]
            have hx4 := s4 _ _ (s3 _ _ (s2 _ _ (s1 _ _ hx)))
            have sA := ((s1.trans s2).trans s3).trans s4
            have eB : bookIn z = .inr (a, r0 :: rs) := e0.trans (bookW3 ha hn)
            refine rd_seq ?_
            refine ⟨_, rfl, _, rfl, x, B, dx, [], rfl, hx4, FB.cls, FB.nT, by simp, ?_⟩
            dsimp only
            refine rd_seq ?_
            refine ⟨_, rfl, _, rfl, x, B, dx, _, rfl, upd_same, FB.cls, FB.nA, Nat.lt_of_le_of_lt (putF_len _ _ _) (by simp), ?_⟩
            dsimp only
            rw [show optS (some a) = V.str a from rfl]
            have fx5 : upd (upd H4 x (.ins B dx (putF "text" (.str z) []))) x (.ins B dx (putF "among" (.str a) (putF "text" (.str z) []))) x = some (.ins B dx (putF "among" (.str a) (putF "text" (.str z) []))) := upd_same
            have k5 : But x H4 (upd (upd H4 x (.ins B dx (putF "text" (.str z) []))) x (.ins B dx (putF "among" (.str a) (putF "text" (.str z) [])))) := But.upd.trans But.upd
            generalize upd (upd H4 x (.ins B dx (putF "text" (.str z) []))) x (.ins B dx (putF "among" (.str a) (putF "text" (.str z) []))) = H5 at fx5 k5 ⊢
            have nqx : q ≠ x := Ne.symm (ne_of_none (s3 _ _ (s2 _ _ (s1 _ _ hx))) hq)
            have e5 := k5 _ _ nqx e4
            refine ⟨_, rfl, q, _, rfl, .inl ⟨SqL.of e5, fun t ht => ?_⟩⟩
            have s6 : Same H5 (upd H5 t (.tup ((p0 :: ps).map V.ref))) := same_new ht
            have ft : upd H5 t (.tup ((p0 :: ps).map V.ref)) t = some (.tup ((p0 :: ps).map V.ref)) := upd_same
            have fx6 := s6 _ _ fx5
            have ntx : t ≠ x := Ne.symm (ne_of_none fx5 ht)
            generalize upd H5 t (.tup ((p0 :: ps).map V.ref)) = H6 at s6 ft fx6 ⊢
            refine ⟨_, rfl, x, B, dx, _, rfl, fx6, FB.cls, FB.nR, Nat.lt_of_le_of_lt (putF_len _ _ _) (Nat.lt_of_le_of_lt (Nat.add_le_add_right (putF_len _ _ _) 1) (by simp)), ?_⟩
            have kk : But x H (upd H6 x (.ins B dx (putF "rules" (.ref t) (putF "among" (.str a) (putF "text" (.str z) []))))) := (((But.of sA).trans k5).trans (But.of s6)).trans But.upd
            refine kq a (r0 :: rs) eB _ t (p0 :: ps) kk ?_ upd_same ((upd_ne ntx).trans ft) ⟨pr.1, fun i p1 r1 h1 h2 => ?_⟩
            · exact sA.free (k5.free ht fx5)
            · have h3 := pr.2 i p1 r1 h1 h2
              have n3 : p1 ≠ x := fun e => by rw [e, hx4] at h3; cases h3
              exact (upd_ne n3).trans (s6 _ _ (k5 _ _ n3 h3))
end
end L2.K05

set_option Elab.async false
set_option linter.all false
set_option maxRecDepth 100000
set_option maxHeartbeats 4000000
namespace L2.K05
open PySem PySem.Spec PyProof.Rows L2.Vx
open PySem.W (Frag)
/-! ### a drawn book -/
theorem Pr.but {p : Addr} {H H' : Hp} {ps : List Addr} {rs : List (Str × Int)} {k : Int} (h : Pr H ps rs) (hP : Pot H p k) (b : But p H H') : Pr H' ps rs := by
  refine ⟨h.1, fun i a r x y => ?_⟩
  have e := h.2 i a r x y
  obtain ⟨o, c, d, ep, _⟩ := hP
  exact b _ _ (fun z => by rw [z, ep] at e; cases e) e
def BkOk (rs : List (Str × Int)) : Prop := 1 ≤ rs.length ∧ (∃ rest, (rs.map Prod.fst ++ rest).Perm ruleWords) ∧ ∀ r ∈ rs, 0 ≤ r.2 ∧ r.2 ≤ 99 ∧ (r.1 = "grid" → 2 ≤ r.2)
def ams : List Str := ["eldest", "latest"]
def bkD (am : Str) (R : Addr) : List (Key × V) := [(.inr "among", .str am), (.inr "rules", .ref R)]
theorem strs_list {ys : List V} (h : ∀ v ∈ ys, ∃ u : Str, v = .str u) : ∃ us : List Str, ys = us.map V.str := by
  induction ys with
  | nil => exact ⟨[], rfl⟩
  | cons y ys ih =>
    obtain ⟨u, rfl⟩ := h y (by simp)
    obtain ⟨us, rfl⟩ := ih fun v hv => h v (List.mem_cons_of_mem _ hv)
    exact ⟨u :: us, rfl⟩
theorem perm_strs {a b : List Str} (h : (a.map V.str).Perm (b.map V.str)) : a.Perm b := by
  have := h.map (fun v => match v with | V.str s => s | _ => Str.empty)
  rw [List.map_map, List.map_map] at this
  have e : ∀ l : List Str, l.map ((fun v => match v with | V.str s => s | _ => Str.empty) ∘ V.str) = l := fun l => (List.map_congr_left fun _ _ => rfl).trans (List.map_id l)
  rw [e, e] at this
  exact this
/-- a list of ints, newly made -/
theorem viaL {te : TE} {σ : St} {H : Hp} {Q : VK} (p : Addr) (hp : ∃ o, H p = some o) (ns : List Int) (key : ∀ L H', Same H H' → L ≠ p → H' L = some (.lst (ns.map V.int)) → Q (.ref L) H') (ev : ∀ R : VK, (∀ L, H L = none → R (.ref L) (upd H L (.lst (ns.map V.int)))) → te σ H R) : te σ H Q :=
  ev Q fun L hL => key L _ (same_new hL) (fun z => by obtain ⟨o, ho⟩ := hp; rw [z, ho] at hL; cases hL) upd_same
section
variable {P : Program} {w : World} {K : Frag} {mg : Str → Option Value} {bs : Heap}
def spSomeB (K : Frag) : Sp := fun vs H Q _ => ∃ (p l : Addr) (m k : Int), vs = [.ref p, .ref l, .int m] ∧ H l = some (.lst (ruleWords.map V.str)) ∧ l ≠ p ∧ 1 ≤ m ∧ m ≤ 5 ∧ 0 ≤ k ∧ k < 990000 ∧ Pot H p k ∧
  ∀ H' D R ps rs am, But p H H' → Pot H' p (k + 12) → H D = none → H R = none → H' D = some (.dK (bkD am R)) → H' R = some (.lst (ps.map V.ref)) → Pr H' ps rs → am ∈ ams → BkOk rs → Q (.ref D) H'
theorem scSomeB : FnScope ["pot", "words", "most", "rules", "word"] ["pot", "words", "most"] (defScope sSomeB) := ⟨rfl, rfl, rfl, by decide +kernel, rfl, by decide +kernel, by decide +kernel⟩
theorem ok_someB {f fT fO fS : Addr} {fd fdT fdO fdS : FuncData} (FP : FD K "_law_some_book" sSomeB f fd) (F : Dx mg) (FT : FD K "_law_take" sTake fT fdT) (gT : mg "_law_take" = some (.ref fT)) (bT : Binds K fdT ["pot", "upto"] [])
    (FO : FD K "_law_of" sOf fO fdO) (gO : mg "_law_of" = some (.ref fO)) (bO : Binds K fdO ["pot", "some"] [])
    (FS : FD K "_law_some" sSome fS fdS) (gS : mg "_law_some" = some (.ref fS)) (bS : Binds K fdS ["pot", "pool", "many"] []) : FnOk P w K mg bs CX0 3 f fd ["pot", "words", "most"] (spSomeB K) := by
  have sc := scSomeB
  have GT : FnOk P w K mg bs CX0 1 fT fdT ["pot", "upto"] spTake := ok_take FT F
  have GO : FnOk P w K mg bs CX0 2 fO fdO ["pot", "some"] (spOf K) := ok_of FO F FT gT bT
  have GS : FnOk P w K mg bs CX0 2 fS fdS ["pot", "pool", "many"] (spSome K) := ok_some FS F FT gT bT
  refine FP.ok scSomeB (fun vs H Q E h => ?_) (fun cdv A outer s H vs Q E hr h => ?_)
  · obtain ⟨p, l, m, k, rfl, _⟩ := h
    rfl
  · obtain ⟨p, l, m, t, rfl, hl, nlp, hm1, hm5, ht0, ht, hP, k⟩ := h
    have hr1 : Room 1 (A.deeper (envOfC "_law_some_book" (defScope sSomeB) s.heap.objs.size f cdv)) := hr.mono (by decide)
    refine ⟨_, pss_cons (ps_set (i := 3) sc.nd rfl (Or.inl rfl) (pe_lst pa_nil))
      (pss_cons (ps_for PassesOwn.never rfl (pi_list (pe_call GS hr (by rfl) gS FS.kp bS .nil pass0 (pa_cons (pv 0) (pa_cons (pv 1) (pa_cons
            (pe_callB (call_min2 rfl) (by rfl) F.min (by decide +kernel) (pa_cons (pe_callB call_len_seq (by rfl) F.len boot_len (pa_cons (pv 1) pa_nil))
              (pa_cons (pe_op op_add pe_int (pe_call GT hr1 (by rfl) gT FT.kp bT .nil pass0 (pa_cons (pv 0) (pa_cons (pv 2) pa_nil)))) pa_nil))) pa_nil)))))
          (pg_name (i := 4) sc.nd rfl (Or.inl rfl))
        (pss_one (ps_expr (pe_bm PySem.F.plainAttrs_list PySem.F.slot_list_append PySem.F.type_list_append mt_append (pv 3) (pa_cons (pe_tup (pa_cons (pv 4) (pa_cons
          (pe_call GO hr (by rfl) gO FO.kp bO .nil pass0 (pa_cons (pv 0) (pa_cons (pe_ifExp (pt_cmpR op_eq (pv 4) pe_str (nomark _))
            (pe_lst (pa_cons pe_int (pa_cons pe_int (pa_cons pe_int (pa_cons pe_int (pa_cons pe_int pa_nil)))))) (pe_lst (pa_cons pe_int (pa_cons pe_int (pa_cons pe_int (pa_cons pe_int (pa_cons pe_int pa_nil))))))) pa_nil))) pa_nil))) pa_nil)))))
      (pss_one (ps_ret (pe_disp (pps_cons pe_str (pe_call GO hr (by rfl) gO FO.kp bO .nil pass0 (pa_cons (pv 0) (pa_cons (pe_lst (pa_cons pe_str (pa_cons pe_str pa_nil))) pa_nil))) (pps_cons pe_str (pv 3) pps_nil)) (by rfl) (by rfl) (fun z => by cases z) (by decide))))), ?_⟩
    refine rd_seq (rd_set ?_)
    refine ⟨Nat.zero_le _, fun R hR => ?_⟩
    have s1 : Same H (upd H R (.lst [])) := same_new hR
    have f1 : upd H R (.lst []) R = some (.lst []) := upd_same
    generalize upd H R (.lst []) = H1 at s1 f1 ⊢
    have nRp : R ≠ p := hP.ne hR
    dsimp only
    refine rd_seq ?_
    have hl1 := s1 _ _ hl
    refine ⟨_, rfl, _, rfl, _, rfl, l, _, rfl, .inl (SqL.of hl1), _, rfl, _, rfl, p, m, t, rfl, by omega, by omega, by omega, hP.same s1, fun H2 i k2 hP2 i0 i1 => ?_⟩
    have hl2 := k2 _ _ nlp hl1
    have f2 := k2 _ _ nRp f1
    refine ⟨_, _, rfl, rfl, _, _, rfl, ?_⟩
    obtain ⟨c, hc, hc1, hc5⟩ : ∃ c : Nat, (if 1 + i < (((ruleWords.map V.str).length : Nat) : Int) then 1 + i else (((ruleWords.map V.str).length : Nat) : Int)) = (c : Int) ∧ 1 ≤ c ∧ c ≤ 5 := by
      have e : (((ruleWords.map V.str).length : Nat) : Int) = 5 := rfl
      rw [e]
      refine ⟨(1 + i).toNat, ?_, by omega, by omega⟩
      split <;> omega
    rw [hc]
    refine ⟨p, l, _, c, t + 1, rfl, nlp, SqL.of hl2, by decide, hc5, by omega, by omega, hP2, fun H3 q ys rest k3 hq0 hq pm ly hP3 => ?_⟩
    obtain ⟨us, rfl⟩ : ∃ us : List Str, ys = us.map V.str := strs_list fun v hv => by
      have := pm.mem_iff.mp (List.mem_append_left rest hv)
      obtain ⟨u, _, rfl⟩ := List.mem_map.mp this
      exact ⟨u, rfl⟩
    obtain ⟨re, rfl⟩ : ∃ re : List Str, rest = re.map V.str := strs_list fun v hv => by
      have := pm.mem_iff.mp (List.mem_append_right _ hv)
      obtain ⟨u, _, rfl⟩ := List.mem_map.mp this
      exact ⟨u, rfl⟩
    rw [← List.map_append] at pm
    have pm2 : (us ++ re).Perm ruleWords := perm_strs pm
    have lu : us.length = c := by rw [List.length_map] at ly; exact ly
    have kA := (But.of s1).trans (k2.trans k3)
    have f3 := k3 _ _ nRp f2
    have nqp : q ≠ p := hP2.ne hq0
    have nqR : q ≠ R := Ne.symm (ne_of_none f2 hq0)
    refine ⟨q, rfl, ⟨_, SqL.of hq⟩, for_it (walk_list (K := K) (a := q) (xs := us.map V.str)) (fun j σ H' => ∃ (v : Option V) (ps : List Addr) (rs : List (Str × Int)), σ = [some (.ref p), some (.ref l), some (.int m), some (.ref R), v] ∧ But p H H' ∧ H' q = some (.lst (us.map V.str)) ∧
      H' R = some (.lst (ps.map V.ref)) ∧ Pr H' ps rs ∧ rs.map Prod.fst = us.take j ∧ (∀ r ∈ rs, 0 ≤ r.2 ∧ r.2 ≤ 7 ∧ (r.1 = "grid" → 2 ≤ r.2)) ∧ Pot H' p (t + 1 + c + j))
      ⟨none, [], [], rfl, kA, hq, f3, ⟨rfl, fun i p r e => by simp at e⟩, rfl, fun r hr => (by cases hr), hP3.mono (by omega)⟩ (fun i σ H' _ u => ?_) ?_ ?_⟩
    · obtain ⟨_, _, _, _, _, u, _⟩ := u
      exact SqL.of u
    · rintro j x σ H4 H5 hj ⟨v, ps, rs, rfl, k4, q4, r4, pr4, e4, b4, hP4⟩ ⟨rfl, hx⟩
      have hj' : j < us.length := by simpa using hj
      have hx2 : x = .str us[j] := by
        rw [List.getElem?_map, List.getElem?_eq_getElem hj'] at hx
        exact (Option.some.inj hx).symm
      subst hx2
      have hR0 : H R = none := hR
      have htake : us.take (j + 1) = us.take j ++ [us[j]] := by rw [List.take_succ, List.getElem?_eq_getElem hj']; rfl
      generalize us[j] = u at htake ⊢
      have lenps : ps.length = j := by
        rw [pr4.1, ← List.length_map (f := Prod.fst), e4, List.length_take]
        omega
      refine ⟨_, rfl, .inl ⟨rfl, _, SqL.of r4⟩, _, rfl, _, rfl, ?_⟩
      -- the numbers that may be drawn
      refine viaL p (by obtain ⟨o, ho⟩ := hP4.some; exact ⟨o, ho⟩) (if u = "grid" then [2, 3, 4, 5, 7] else [2, 1, 3, 0, 4]) (fun L H6 s6 hL0 hL => ?_) (fun R2 hR2 => ?_)
      · have hns : ∀ n ∈ (if u = "grid" then [2, 3, 4, 5, 7] else [2, 1, 3, 0, 4] : List Int), 0 ≤ n ∧ n ≤ 7 ∧ (u = "grid" → 2 ≤ n) := fun n hn => by
          by_cases hg : u = "grid"
          · rw [if_pos hg] at hn
            simp at hn
            omega
          · rw [if_neg hg] at hn
            simp at hn
            exact ⟨by omega, by omega, fun q => absurd q hg⟩
        have hn5 : ((if u = "grid" then [2, 3, 4, 5, 7] else [2, 1, 3, 0, 4] : List Int).map V.int).length = 5 := by
          split <;> rfl
        generalize (if u = "grid" then [2, 3, 4, 5, 7] else [2, 1, 3, 0, 4] : List Int) = ns at hns hn5 hL
        refine ⟨p, L, ns.map V.int, t + 1 + c + j, rfl, hL0, SqL.of hL, by omega, by omega, by omega, hP4.same s6, fun H7 v7 k7 hP7 hv => ?_⟩
        obtain ⟨n, hn, rfl⟩ := List.mem_map.mp hv
        have kN := (But.of s6).trans k7
        refine ⟨(by exact (by decide : 2 ≤ sizeLine)), fun T hT => ?_⟩
        have sT : Same H7 (upd H7 T (.tup [.str u, .int n])) := same_new hT
        have fT : upd H7 T (.tup [.str u, .int n]) T = some (.tup [.str u, .int n]) := upd_same
        have q7 := sT _ _ (kN _ _ nqp q4)
        have r7 := sT _ _ (kN _ _ nRp r4)
        have pr7 := ((pr4.but hP4 kN).same sT).snoc (r := (u, n)) fT
        have hP8 := hP7.same sT
        have k8 := (k4.trans kN).trans (But.of sT)
        generalize upd H7 T (.tup [.str u, .int n]) = H8 at fT q7 r7 pr7 hP8 k8 ⊢
        refine ⟨R, _, _, rfl, rfl, r7, Nat.lt_of_le_of_lt (by rw [List.length_map, lenps]; omega : _ ≤ 100) (by decide), ?_⟩
        refine ⟨_, ps ++ [T], rs ++ [(u, n)], rfl, k8.mut hR0, (upd_ne nqR).trans q7, by rw [upd_same, List.map_append]; rfl, ?_, by rw [List.map_append, e4, htake]; rfl, ?_, ?_⟩
        · refine ⟨pr7.1, fun i a r x y => ?_⟩
          have e := pr7.2 i a r x y
          exact (upd_ne (fun z => by rw [z, r7] at e; cases e)).trans e
        · intro r hr
          rcases List.mem_append.mp hr with hr | hr
          · exact b4 r hr
          · rw [List.mem_singleton.mp hr]
            exact hns n hn
        · obtain ⟨o, b1, c1, e, r1⟩ := hP8.mono (by omega : t + 1 + c + j + 1 ≤ t + 1 + c + ((j + 1 : Nat) : Int))
          exact ⟨o, b1, c1, (upd_ne (Ne.symm nRp)).trans e, r1⟩
      · refine ⟨_, rfl, rfl, _, rfl, ?_⟩
        by_cases hg : u = "grid"
        · rw [if_pos hg] at hR2
          refine Eq.mpr (if_pos (decide_eq_true (congrArg V.str hg))) ?_
          exact ⟨(by exact (by decide : 5 ≤ sizeLine)), fun L hL => hR2 L hL⟩
        · rw [if_neg hg] at hR2
          refine Eq.mpr (if_neg (fun q => hg (V.str.inj (of_decide_eq_true q)))) ?_
          exact ⟨(by exact (by decide : 5 ≤ sizeLine)), fun L hL => hR2 L hL⟩
    · rintro σ H4 ⟨v, ps, rs, rfl, k4, q4, r4, pr4, e4, b4, hP4⟩
      rw [List.length_map, List.take_length] at e4
      rw [List.length_map] at hP4
      have hR0 : H R = none := hR
      intro D hD
      have sD : Same H4 (upd H4 D (.dK [])) := same_new hD
      have fD : upd H4 D (.dK []) D = some (.dK []) := upd_same
      have nDp : D ≠ p := hP4.ne hD
      have nDR : R ≠ D := ne_of_none r4 hD
      have hD0 : H D = none := k4.free hD hP4.some.choose_spec
      have r5 := sD _ _ r4
      have pr5 := pr4.same sD
      have hP5 := hP4.same sD
      have k5 := k4.trans (But.of sD)
      generalize upd H4 D (.dK []) = H5 at sD fD r5 pr5 hP5 k5 ⊢
      refine ⟨_, rfl, (by exact (by decide : 2 ≤ sizeLine)), fun L hL => ?_⟩
      have sL : Same H5 (upd H5 L (.lst (ams.map V.str))) := same_new hL
      refine ⟨p, L, ams.map V.str, t + 1 + c + us.length, rfl, hP5.ne hL, SqL.of upd_same, by decide, by decide, by omega, hP5.same sL, fun H6 va k6 hP6 hva => ?_⟩
      obtain ⟨am, ham, rfl⟩ := List.mem_map.mp hva
      have kL := (But.of sL).trans k6
      refine ⟨_, rfl, kL _ _ nDp fD, [(.inr "among", .str am), (.inr "rules", .ref R)], rfl, (by simp), ?_⟩
      have hfin : upd H6 D (.dK (bkD am R)) D = some (.dK (bkD am R)) := upd_same
      refine k _ D R ps rs am ((k5.trans kL).mut hD0) ?_ hD0 hR0 hfin ((upd_ne nDR).trans (kL _ _ nRp r5)) ?_ ham ⟨?_, ⟨re, ?_⟩, fun r hr => ⟨(b4 r hr).1, by have := (b4 r hr).2.1; omega, (b4 r hr).2.2⟩⟩
      · obtain ⟨o, b1, c1, e, r1⟩ := hP6.mono (by omega : t + 1 + c + us.length + 1 ≤ t + 12)
        exact ⟨o, b1, c1, (upd_ne (Ne.symm nDp)).trans e, r1⟩
      · have prL := pr5.but hP5 kL
        refine ⟨prL.1, fun i a r x y => ?_⟩
        have e := prL.2 i a r x y
        exact (upd_ne (fun z => by rw [z, kL _ _ nDp fD] at e; cases e)).trans e
      · have := congrArg List.length e4
        rw [List.length_map] at this
        omega
      · rw [e4]
        exact pm2
end
end L2.K05

set_option Elab.async false
set_option linter.all false
set_option maxRecDepth 100000
set_option maxHeartbeats 4000000
namespace L2.K05
open PySem PySem.Spec PyProof.Rows L2.Vx
open PySem.W (Frag)
/-! ### a drawn book's text -/
def lineOf (r : Str × Int) : Str := r.1 ++ " " ++ Str.ofString (toString r.2)
def bookLines (am : Str) (rs : List (Str × Int)) : List Str := ("among " ++ am) :: rs.map lineOf
theorem len_app (a b : Str) : (a ++ b).length = a.length + b.length := by
  rw [TL.len_tl, TL.tl_append, List.length_append, ← TL.len_tl, ← TL.len_tl]
theorem words_len : ∀ y ∈ ruleWords, y.length ≤ 8 := by decide +kernel
theorem num_len {n : Int} (h0 : 0 ≤ n) (h7 : n ≤ 99) : (Str.ofString (toString n)).length ≤ 2 := by
  obtain ⟨m, rfl⟩ : ∃ m : Nat, n = (m : Int) := ⟨n.toNat, by omega⟩
  rw [TL.len_tl, TL.tl_num]
  exact TL.numL_len (by decide) (by omega)
theorem BkOk.word {rs : List (Str × Int)} (h : BkOk rs) {r : Str × Int} (hr : r ∈ rs) : r.1 ∈ ruleWords := by
  obtain ⟨_, ⟨re, pm⟩, _⟩ := h
  exact pm.mem_iff.mp (List.mem_append_left _ (List.mem_map.mpr ⟨r, hr, rfl⟩))
theorem BkOk.len {rs : List (Str × Int)} (h : BkOk rs) : rs.length ≤ 5 := by
  obtain ⟨_, ⟨re, pm⟩, _⟩ := h
  have := pm.length_eq
  rw [List.length_append, List.length_map] at this
  have e : ruleWords.length = 5 := rfl
  omega
theorem line_len {rs : List (Str × Int)} (h : BkOk rs) {r : Str × Int} (hr : r ∈ rs) : (lineOf r).length ≤ 11 := by
  unfold lineOf
  have h1 := words_len _ (h.word hr)
  have h2 := h.2.2 r hr
  have h3 := num_len h2.1 h2.2.1
  rw [len_app, len_app]
  have : (" " : Str).length = 1 := sp1
  omega
theorem tot_le {B : Nat} : ∀ (ys : List Str), (∀ y ∈ ys, y.length ≤ B) → tot ys ≤ ys.length * (B + 1)
  | [], _ => by simp [tot_nil]
  | y :: ys, h => by
    rw [tot_cons, List.length_cons, Nat.succ_mul]
    have := h y (by simp)
    have := tot_le ys fun x hx => h x (List.mem_cons_of_mem _ hx)
    omega
theorem lines_tot {am : Str} {rs : List (Str × Int)} (ha : am ∈ ams) (h : BkOk rs) : tot (bookLines am rs) ≤ 73 := by
  unfold bookLines
  rw [tot_cons, len_app]
  have h1 : am.length ≤ 6 := (by decide +kernel : ∀ y ∈ ams, y.length ≤ 6) am ha
  have h2 : ("among " : Str).length = 6 := by decide +kernel
  have h3 := tot_le (B := 11) (rs.map lineOf) (fun y hy => by
    obtain ⟨r, hr, rfl⟩ := List.mem_map.mp hy
    exact line_len h hr)
  rw [List.length_map] at h3
  have := h.len
  omega
theorem small99 {n : Int} (h0 : 0 ≤ n) (h7 : n ≤ 99) : n.natAbs.log2 < 1920 := by
  obtain ⟨m, rfl⟩ : ∃ m : Nat, n = (m : Int) := ⟨n.toNat, by omega⟩
  exact small_log (by omega)
section
variable {P : Program} {w : World} {K : Frag} {mg : Str → Option Value} {bs : Heap}
def spText (K : Frag) : Sp := fun vs H Q _ => ∃ (D R : Addr) (ps : List Addr) (rs : List (Str × Int)) (am : Str), vs = [.ref D] ∧ H D = some (.dK (bkD am R)) ∧ H R = some (.lst (ps.map V.ref)) ∧ Pr H ps rs ∧ am ∈ ams ∧ BkOk rs ∧
  ∀ H', Same H H' → Q (.str (Txt.join "\n" (bookLines am rs))) H'
theorem scText : FnScope ["book", "word", "number"] ["book"] (defScope sText) := ⟨rfl, rfl, rfl, by decide +kernel, rfl, by decide +kernel, by decide +kernel⟩
theorem ok_text {f : Addr} {fd : FuncData} (FP : FD K "_law_book_text" sText f fd) (gS : mg "str" = none) : FnOk P w K mg bs CX0 1 f fd ["book"] (spText K) := by
  have sc := scText
  refine FP.ok scText (fun vs H Q E h => ?_) (fun cdv A outer s H vs Q E hr h => ?_)
  · obtain ⟨D, R, ps, rs, am, rfl, _⟩ := h
    rfl
  · obtain ⟨D, R, ps, rs, am, rfl, hD, hR, pr, ha, hb, k⟩ := h
    have hu := hu_of hr
    refine ⟨_, pss_one (ps_ret (pe_join pe_str (pe_op op_cat (pe_lst (pa_cons (pe_op op_add_str pe_str (pe_dget hu (pv 0) pe_str (fun _ _ => rfl))) pa_nil))
      (pe_lc (own := [("word", 1), ("number", 2)]) (g := gTup K 2 (gCons (gName 1) (gCons (gName 2) gNil))) (by rfl) sc.nd (pi_list (pe_dget hu (pv 0) pe_str (fun _ _ => rfl))) (blkOk_by (N := ["book", "word", "number"]) (sc := defScope sText) (by decide +kernel))
        (fun _ _ _ _ _ => pg_tup rfl (pgs_cons (pg_name (i := 1) sc.nd rfl (Or.inl rfl)) (pgs_cons (pg_name (i := 2) sc.nd rfl (Or.inl rfl)) pgs_nil))) (fun _ _ _ _ _ => pts_nil)
        (fun _ _ _ _ _ => pe_op op_add_str (pe_op op_add_str (pv 1) pe_str) (pe_callTy call_str_int (by rfl) gS boot_str (pa_cons (pv 2) pa_nil))))))), ?_⟩
    have h1 : am.length ≤ 6 := (by decide +kernel : ∀ y ∈ ams, y.length ≤ 6) am ha
    have h2 : ("among " : Str).length = 6 := by decide +kernel
    refine ⟨⟨_, rfl⟩, ?_⟩
    refine ⟨_, rfl, D, .str am, rfl, DGet.k (k := Sum.inr "among") hD, _, _, rfl, rfl, Nat.le_trans (by omega : _ ≤ 100) (by decide), (by exact (by decide : 1 ≤ sizeLine)), fun L hL => ?_⟩
    have sL : Same H (upd H L (.lst [.str ("among " ++ am)])) := same_new hL
    have fL : upd H L (.lst [.str ("among " ++ am)]) L = some (.lst [.str ("among " ++ am)]) := upd_same
    generalize upd H L (.lst [.str ("among " ++ am)]) = H1 at sL fL ⊢
    refine ⟨_, rfl, D, .ref R, rfl, DGet.k (k := Sum.inr "rules") (sL _ _ hD), R, rfl, ⟨_, SqL.of (sL _ _ hR)⟩, fun E0 hE => lc_it walk_list (fun j H' => Same H1 H' ∧ H' E0 = some (.lst (((rs.take j).map lineOf).map V.str))) ⟨same_new hE, upd_same⟩ (fun _ _ _ u => SqL.of (u.1 _ _ (sL _ _ hR))) ?_ ?_⟩
    · rintro j v H5 H6 hj ⟨s5, d5⟩ ⟨rfl, hv⟩
      have hj' : j < ps.length := by simpa using hj
      have hj2 : j < rs.length := by rw [← pr.1]; exact hj'
      rw [List.getElem?_map, List.getElem?_eq_getElem hj'] at hv
      cases hv
      have hpj := ((pr.same sL).same s5).2 j _ _ (List.getElem?_eq_getElem hj') (List.getElem?_eq_getElem hj2)
      have hm : rs[j] ∈ rs := List.getElem_mem hj2
      have hw := words_len _ (hb.word hm)
      have hn := hb.2.2 _ hm
      have hlen := hb.len
      refine ⟨_, _, rfl, SqT.of hpj, rfl, _, _, rfl, _, _, rfl, rfl, rfl, rd_yes rfl ?_⟩
      refine ⟨_, rfl, _, _, rfl, rfl, Nat.le_trans (by rw [sp1]; omega : _ ≤ 100) (by decide), _, rfl, rs[j].2, rfl, small99 hn.1 hn.2.1, _, _, rfl, rfl, Nat.le_trans (by rw [len_app, sp1]; have := num_len hn.1 hn.2.1; omega : _ ≤ 100) (by decide), _, d5, ?_, s5.mut hE, ?_⟩
      · rw [List.length_map, List.length_map, List.length_take]
        exact Nat.lt_of_le_of_lt (by omega : min j rs.length ≤ 100) (by decide)
      · rw [upd_same, List.take_succ, List.getElem?_eq_getElem hj2, List.map_append, List.map_append]
        rfl
    · rintro H5 ⟨s5, d5⟩
      rw [List.length_map, pr.1, List.take_length] at d5
      refine ⟨L, E0, _, _, rfl, rfl, s5 _ _ fL, d5, Nat.le_trans (by rw [List.length_map, List.length_map]; have := hb.len; simp; omega : _ ≤ 100) (by decide), fun G hG => ?_⟩
      have tt := lines_tot ha hb
      have e : [V.str ("among " ++ am)] ++ (rs.map lineOf).map V.str = (bookLines am rs).map V.str := rfl
      rw [e]
      refine ⟨"\n", G, bookLines am rs, rfl, rfl, .inl (SqL.of upd_same), by rw [tot_sum _ nl1]; omega, ?_⟩
      exact k _ ((sL.trans s5).trans (same_new hG))
end
end L2.K05

set_option Elab.async false
set_option linter.all false
set_option maxRecDepth 100000
set_option maxHeartbeats 4000000
namespace L2.K05
open PySem PySem.Spec PyProof.Rows L2.Vx
open PySem.W (Frag)
/-! ### a book's own operators -/
theorem bookF_rules (v a : V) (r : Addr) : (bookF v a r).lookup ("rules" : Str) = some (.ref r) := by
  unfold bookF
  rw [lookup_putF, if_pos rfl]
theorem bookF_among (v a : V) (r : Addr) : (bookF v a r).lookup ("among" : Str) = some a := by
  unfold bookF
  rw [lookup_putF, if_neg (by decide), lookup_putF, if_pos rfl]
theorem bookF_text (v a : V) (r : Addr) : (bookF v a r).lookup ("text" : Str) = some v := by
  unfold bookF
  rw [lookup_putF, if_neg (by decide), lookup_putF, if_neg (by decide), lookup_putF, if_pos rfl]
/-- at a stands a book of the text z -/
def BookAt (B : Addr) (H : Hp) (a : Addr) (z am : Str) (rs : List (Str × Int)) : Prop := ∃ (dx t : Addr) (ps : List Addr), H a = some (.ins B dx (bookF (.str z) (.str am) t)) ∧ H t = some (.tup (ps.map V.ref)) ∧ Pr H ps rs
theorem BookAt.same {B : Addr} {H H' : Hp} {a : Addr} {z am : Str} {rs : List (Str × Int)} (h : BookAt B H a z am rs) (s : Same H H') : BookAt B H' a z am rs := by
  obtain ⟨dx, t, ps, h1, h2, h3⟩ := h
  exact ⟨dx, t, ps, s _ _ h1, s _ _ h2, h3.same s⟩
section
variable {P : Program} {w : World} {K : Frag} {mg : Str → Option Value} {bs : Heap}
def spBLen (B : Addr) : Sp := fun vs H Q _ => ∃ (a : Addr) (z am : Str) (rs : List (Str × Int)), vs = [.ref a] ∧ BookAt B H a z am rs ∧ ∀ H', Same H H' → Q (.int (rs.length : Nat)) H'
theorem scBLen : FnScope ["self"] ["self"] (defScope sBLen) := ⟨rfl, rfl, rfl, by decide +kernel, rfl, by decide +kernel, by decide +kernel⟩
theorem ok_bLen {f B : Addr} {fd : FuncData} (FP : Fun K "__len__" "Book.__len__" sBLen f fd) (FB : FxInit K mg B) (gL : mg "len" = none) : FnOk P w K mg bs CX0 1 f fd ["self"] (spBLen B) := by
  have sc := scBLen
  refine FP.ok scBLen (fun vs H Q E h => ?_) (fun cdv A outer s H vs Q E hr h => ?_)
  · obtain ⟨a, z, am, rs, rfl, _⟩ := h
    rfl
  · obtain ⟨a, z, am, rs, rfl, ⟨dx, t, ps, h1, h2, pr⟩, k⟩ := h
    refine ⟨_, pss_one (ps_ret (pe_callB call_len_seq (by rfl) gL boot_len (pa_cons (pe_fld (pv 0) rfl) pa_nil))), ?_⟩
    refine ⟨_, rfl, a, B, dx, _, .ref t, rfl, h1, FB.cls, FB.nR, bookF_rules _ _ _, t, _, rfl, .inr (SqT.of h2), ?_⟩
    have q := k H (Same.refl H)
    rw [← pr.1] at q
    rw [List.length_map]
    exact q
def spBHas (K : Frag) (B : Addr) : Sp := fun vs H Q _ => ∃ (a : Addr) (v : V) (z am : Str) (rs : List (Str × Int)), vs = [.ref a, v] ∧ BookAt B H a z am rs ∧ rs.length ≤ 100 ∧
  ((NoStr K H v ∧ ∀ H', Same H H' → Q (.bl false) H') ∨ ∃ u : Str, v = .str u ∧ ∀ H', Same H H' → Q (.bl (decide (u ∈ rs.map Prod.fst))) H')
theorem scBHas : FnScope ["self", "value", "rule"] ["self", "value"] (defScope sBHas) := ⟨rfl, rfl, rfl, by decide +kernel, rfl, by decide +kernel, by decide +kernel⟩
theorem ok_bHas {f B : Addr} {fd : FuncData} (FP : Fun K "__contains__" "Book.__contains__" sBHas f fd) (FB : FxInit K mg B) (gS : mg "str" = none) : FnOk P w K mg bs CX0 1 f fd ["self", "value"] (spBHas K B) := by
  have sc := scBHas
  refine FP.ok scBHas (fun vs H Q E h => ?_) (fun cdv A outer s H vs Q E hr h => ?_)
  · obtain ⟨a, v, z, am, rs, rfl, _⟩ := h
    rfl
  · obtain ⟨a, v, z, am, rs, rfl, ⟨dx, t, ps, h1, h2, pr⟩, hl, h⟩ := h
    refine ⟨_, pss_one (ps_ret (pe_and (pe_callB call_isi (by rfl) FB.isi boot_isinstance (pa_cons (pv 1) (pa_cons (pe_bltn (v := .ty "str") (by rfl) gS boot_str rfl) pa_nil)))
      (pe_one (pe_cmpR op_in_seq (pv 1) (pe_lc (own := [("rule", 2)]) (g := gName 2) (by rfl) sc.nd (pi_tup (pe_fld (pv 0) rfl)) (blkOk_by (N := ["self", "value", "rule"]) (sc := defScope sBHas) (by decide +kernel))
        (fun _ _ _ _ _ => pg_name (i := 2) sc.nd rfl (Or.inl rfl)) (fun _ _ _ _ _ => pts_nil)
        (fun _ _ _ _ _ => pe_ix (r := rIxT K) ix_tup (pv 2) pe_int (fun _ _ => rfl))) rfl)))), ?_⟩
    rcases h with ⟨⟨n, hT, hk⟩, k⟩ | ⟨u, rfl, k⟩
    · refine ⟨_, rfl, v, .ty "str", _, _, false, rfl, .ty "str", hT, kit_ty hk, _, rfl, ?_⟩
      refine Eq.mpr (if_neg (by decide)) ?_
      exact k H (Same.refl H)
    · refine ⟨_, rfl, .str u, .ty "str", .type "str", _, true, rfl, .ty "str", .base (.str u), kit_ty (by decide +kernel), _, rfl, ?_⟩
      refine Eq.mpr (if_pos rfl) ?_
      refine ⟨_, rfl, _, rfl, a, B, dx, _, .ref t, rfl, h1, FB.cls, FB.nR, bookF_rules _ _ _, t, rfl, ⟨_, SqT.of h2⟩, fun D hD => lc_it walk_tup (fun j H' => Same H H' ∧ H' D = some (.lst (((rs.take j).map Prod.fst).map V.str))) ⟨same_new hD, upd_same⟩ (fun _ _ _ u => SqT.of (u.1 _ _ h2)) ?_ ?_⟩
      · rintro j v H5 H6 hj ⟨s5, d5⟩ ⟨rfl, hv⟩
        have hj' : j < ps.length := by simpa using hj
        have hj2 : j < rs.length := by rw [← pr.1]; exact hj'
        rw [List.getElem?_map, List.getElem?_eq_getElem hj'] at hv
        cases hv
        have hpj := (pr.same s5).2 j _ _ (List.getElem?_eq_getElem hj') (List.getElem?_eq_getElem hj2)
        refine ⟨rfl, rd_yes rfl ?_⟩
        refine ⟨_, rfl, _, _, 0, .str rs[j].1, rfl, rfl, SqT.of hpj, rfl, _, d5, ?_, s5.mut hD, ?_⟩
        · rw [List.length_map, List.length_map, List.length_take]
          exact Nat.lt_of_le_of_lt (by omega : min j rs.length ≤ 100) (by decide)
        · rw [upd_same, List.take_succ, List.getElem?_eq_getElem hj2, List.map_append, List.map_append]
          rfl
      · rintro H5 ⟨s5, d5⟩
        rw [List.length_map, pr.1, List.take_length] at d5
        refine ⟨D, _, rfl, .inl (SqL.of d5), rfl, flat_strs _, ?_⟩
        have ei : inV (.str u) ((rs.map Prod.fst).map V.str) = decide (u ∈ rs.map Prod.fst) := inV_str u _
        show Q (.bl (inV _ _)) H5
        rw [ei]
        exact k H5 s5
structure FxIsi (K : Frag) (mg : Str → Option Value) (B : Addr) : Prop where
  ha : PySem.W.findIn K (.ref B) "__class__" = some (some (.builtin "object.__class__"))
  hn : PySem.W.specialIn K (.builtin "object.__class__") "__get__" = some (some (.builtin "getset_descriptor.__get__"))
  ht : PySem.W.takesIn K (.builtin "object.__class__") = some true
  hm : PySem.W.mroIn K B (.type "object") = some true
  kB : PySem.W.kitOne K (.ref B) (.ref B) = some true
  kS : PySem.W.kitOne K (.type "str") (.ref B) = some false
  kN : PySem.W.kitOne K (.type "NoneType") (.ref B) = some false
  gB : mg "Book" = some (.ref B)
def spBEq (B : Addr) : Sp := fun vs H Q _ => ∃ (a : Addr) (v : V) (z am : Str) (rs : List (Str × Int)), vs = [.ref a, v] ∧ BookAt B H a z am rs ∧
  (((v = .non ∨ ∃ u : Str, v = .str u) ∧ ∀ H', Same H H' → Q (.bl false) H') ∨ ∃ (b : Addr) (z2 am2 : Str) (rs2 : List (Str × Int)), v = .ref b ∧ BookAt B H b z2 am2 rs2 ∧ ∀ H', Same H H' → Q (.bl (decide (z = z2))) H')
theorem scBEq : FnScope ["self", "other"] ["self", "other"] (defScope sBEq) := ⟨rfl, rfl, rfl, by decide +kernel, rfl, by decide +kernel, by decide +kernel⟩
theorem ok_bEq {f B : Addr} {fd : FuncData} (FP : Fun K "__eq__" "Book.__eq__" sBEq f fd) (FB : FxInit K mg B) (FI : FxIsi K mg B) : FnOk P w K mg bs CX0 1 f fd ["self", "other"] (spBEq B) := by
  have sc := scBEq
  refine FP.ok scBEq (fun vs H Q E h => ?_) (fun cdv A outer s H vs Q E hr h => ?_)
  · obtain ⟨a, v, z, am, rs, rfl, _⟩ := h
    rfl
  · obtain ⟨a, v, z, am, rs, rfl, ⟨dx, t, ps, h1, h2, pr⟩, h⟩ := h
    refine ⟨_, pss_one (ps_ret (pe_and (pe_callB call_isi (by rfl) FB.isi boot_isinstance (pa_cons (pv 1) (pa_cons (pe_ref FI.gB) pa_nil)))
      (pe_one (pe_cmpR op_eq (pe_fld (pv 0) rfl) (pe_fld (pv 1) rfl) (nomark _))))), ?_⟩
    rcases h with ⟨hv, k⟩ | ⟨b, z2, am2, rs2, rfl, ⟨dx2, t2, ps2, g1, g2, _⟩, k⟩
    · rcases hv with rfl | ⟨u, rfl⟩
      · refine ⟨_, rfl, .non, .ref B, _, _, false, rfl, .own B, .base .non, FI.kN, _, rfl, ?_⟩
        refine Eq.mpr (if_neg (by decide)) ?_
        exact k H (Same.refl H)
      · refine ⟨_, rfl, .str u, .ref B, _, _, false, rfl, .own B, .base (.str u), FI.kS, _, rfl, ?_⟩
        refine Eq.mpr (if_neg (by decide)) ?_
        exact k H (Same.refl H)
    · refine ⟨_, rfl, .ref b, .ref B, _, _, true, rfl, .own B, .base (.ins g1 FB.cls FI.ha FI.hn FI.ht FI.hm), FI.kB, _, rfl, ?_⟩
      refine Eq.mpr (if_pos rfl) ?_
      refine ⟨_, rfl, a, B, dx, _, .str z, rfl, h1, FB.cls, FB.nT, bookF_text _ _ _, _, rfl, b, B, dx2, _, .str z2, rfl, g1, FB.cls, FB.nT, bookF_text _ _ _, rfl, ?_⟩
      have e : decide (V.str z = V.str z2) = decide (z = z2) := by
        rw [Bool.eq_iff_iff]
        simp
      show Q (.bl (decide (V.str z = V.str z2))) H
      rw [e]
      exact k H (Same.refl H)
end
end L2.K05

set_option Elab.async false
set_option linter.all false
set_option maxRecDepth 100000
set_option maxHeartbeats 4000000
namespace L2.K05
open PySem PySem.Spec PyProof.Rows L2.Vx
open PySem.W (Frag)
/-! ### book[word] -/
/-- a value that is asked for: a text, or data that are none -/
def AskV (K : Frag) (H : Hp) (v : V) : Prop := (∃ u : Str, v = .str u) ∨ (∃ d, Dp K H v d ∧ SeqAt.shaped d = true ∧ isS d = false) ∨ ∃ b kvs, v = .ref b ∧ H b = some (.dK kvs)
def wordOf : V → Option Str
  | .str u => some u
  | _ => none
def findR (v : V) : List (Str × Int) → Option Int
  | [] => none
  | r :: rs => if wordOf v = some r.1 then some r.2 else findR v rs
section
variable {P : Program} {w : World} {K : Frag} {mg : Str → Option Value} {bs : Heap}
theorem dp_ref {H : Hp} {v : V} {d : PyData} (h : Dp K H v d) (hs : isS d = false) : wordOf v = none := by
  cases h <;> first | rfl | cases hs
theorem eqv_str {d : PyData} (hs : isS d = false) (x : Str) : PyData.eqv d (.str x) = false := by
  cases d <;> first | rfl | cases hs
def spBGet (K : Frag) (B C : Addr) : Sp := fun vs H Q E => ∃ (a : Addr) (v : V) (z am : Str) (rs : List (Str × Int)), vs = [.ref a, v] ∧ BookAt B H a z am rs ∧ AskV K H v ∧ (∀ r ∈ rs, SeqAt.shaped (.str r.1) = true) ∧
  (∀ n, findR v rs = some n → ∀ H', Same H H' → Q (.int n) H') ∧ (findR v rs = none → ∀ H' d, Same H H' → H' d = some (xv v) → E (.ref C) (some d) H')
theorem scBGet : FnScope ["self", "word", "known", "number"] ["self", "word"] (defScope sBGet) := ⟨rfl, rfl, rfl, by decide +kernel, rfl, by decide +kernel, by decide +kernel⟩
theorem AskV.same {H H' : Hp} {v : V} (h : AskV K H v) (s : Same H H') (keep : ∀ d, Dp K H v d → Dp K H' v d) : AskV K H' v := by
  rcases h with h | ⟨d, h1, h2, h3⟩ | ⟨b, kvs, h1, h2⟩
  · exact .inl h
  · exact .inr (.inl ⟨d, keep d h1, h2, h3⟩)
  · exact .inr (.inr ⟨b, kvs, h1, s _ _ h2⟩)
theorem ok_bGet {f B C fI : Addr} {fd : FuncData} (FP : Fun K "__getitem__" "Book.__getitem__" sBGet f fd) (FB : FxInit K mg B) (T : ErrT K C fI) (gC : mg "NoRule" = some (.ref C)) : FnOk P w K mg bs (L2.CX P w) 2 f fd ["self", "word"] (spBGet K B C) := by
  have sc := scBGet
  refine FP.okX scBGet (fun vs H Q E h => ?_) (fun cdv A outer s H vs Q E hr h => ?_)
  · obtain ⟨a, v, z, am, rs, rfl, _⟩ := h
    rfl
  · obtain ⟨a, v, z, am, rs, rfl, ⟨dx, t, ps, h1, h2, pr⟩, hv, hsh, kf, kn⟩ := h
    refine ⟨_, pss_cons (ps_for (passes_of rfl) rfl (pi_tup (pe_fld (pv 0) rfl)) (pg_tup rfl (pgs_cons (pg_name (i := 2) sc.nd rfl (Or.inl rfl)) (pgs_cons (pg_name (i := 3) sc.nd rfl (Or.inl rfl)) pgs_nil)))
        (pss_one (ps_if (pt_cmpR (op_eq.or ((op_eqD hr.units).or (op_eqDictStr (Nat.lt_of_le_of_lt (Nat.le_add_right _ 64) hr.units)))) (pv 1) (pv 2) (nomark _)) (pss_one (ps_ret (pv 3))) pss_nil)))
      (pss_one (ps_err rfl T gC hr (takes_of rfl rfl rfl rfl) (pa_cons (pv 1) pa_nil))), ?_⟩
    refine rd_seq ?_
    refine ⟨_, rfl, a, B, dx, _, .ref t, rfl, h1, FB.cls, FB.nR, bookF_rules _ _ _, t, rfl, ⟨_, SqT.of h2⟩, for_it (walk_tup (K := K) (a := t) (xs := ps.map V.ref)) (fun i σ H' => ∃ v2 v3 : Option V, σ = [some (.ref a), some v, v2, v3] ∧ H' = H ∧ findR v (rs.drop i) = findR v rs) ⟨none, none, rfl, rfl, rfl⟩ (fun i σ H' _ u => ?_) ?_ ?_⟩
    · obtain ⟨_, _, _, rfl, _⟩ := u
      exact SqT.of h2
    · rintro i x σ H4 H5 hi ⟨v2, v3, rfl, eH, ef⟩ ⟨rfl, hx⟩
      subst eH
      have hi' : i < ps.length := by simpa using hi
      have hi2 : i < rs.length := by rw [← pr.1]; exact hi'
      rw [List.getElem?_map, List.getElem?_eq_getElem hi'] at hx
      cases hx
      have hp := pr.2 i _ _ (List.getElem?_eq_getElem hi') (List.getElem?_eq_getElem hi2)
      have hdrop : rs.drop i = rs[i] :: rs.drop (i + 1) := List.drop_eq_getElem_cons hi2
      rw [hdrop] at ef
      have hsr := hsh rs[i] (List.getElem_mem hi2)
      generalize rs[i] = r at hp hdrop ef hsr
      refine ⟨_, _, rfl, SqT.of hp, rfl, _, _, rfl, _, _, rfl, rfl, ?_⟩
      refine rd_if ?_
      refine ⟨_, rfl, _, rfl, ?_⟩
      rcases hv with ⟨u, rfl⟩ | ⟨d, hd, hs, hS⟩ | ⟨b, kvs, rfl, hb⟩
      · refine .inl ⟨rfl, _, rfl, ?_⟩
        by_cases hu : u = r.1
        · refine Eq.mpr (if_pos (decide_eq_true (congrArg V.str hu))) ?_
          have e : findR (.str u) rs = some r.2 := by
            rw [← ef]
            exact if_pos (congrArg some hu)
          exact ⟨_, rfl, kf _ e _ (Same.refl _)⟩
        · refine Eq.mpr (if_neg (fun q => hu (V.str.inj (of_decide_eq_true q)))) ?_
          refine ⟨_, _, rfl, rfl, ?_⟩
          rw [← ef]
          exact (if_neg (fun q => hu (Option.some.inj q))).symm
      · have hw : wordOf v = none := dp_ref hd hS
        refine .inr (.inl ⟨d, .str r.1, hd, .str _, hs, hsr, _, rfl, ?_⟩)
        refine Eq.mpr (if_neg (by rw [eqv_str hS]; decide)) ?_
        refine ⟨_, _, rfl, rfl, ?_⟩
        rw [← ef]
        exact (if_neg (fun q => by rw [hw] at q; cases q)).symm
      · refine .inr (.inr ⟨b, kvs, r.1, rfl, rfl, hb, _, rfl, ?_⟩)
        refine Eq.mpr (if_neg (by decide)) ?_
        refine ⟨_, _, rfl, rfl, ?_⟩
        rw [← ef]
        exact (if_neg (fun q => by cases q)).symm
    · rintro σ H4 ⟨v2, v3, rfl, rfl, ef⟩
      rw [List.length_map, pr.1, List.drop_length] at ef
      exact ⟨_, rfl, _, rfl, fun d hd => kn ef.symm _ d (same_new hd) upd_same⟩
end
end L2.K05

set_option Elab.async false
set_option linter.all false
set_option maxRecDepth 100000
set_option maxHeartbeats 4000000
namespace L2.K05
open PySem PySem.Spec PyProof.Rows L2.Vx
open PySem.W (Frag)
/-! ### a book of up to five rules, with great numbers at times -/
section
variable {P : Program} {w : World} {K : Frag} {mg : Str → Option Value} {bs : Heap}
def spFive (K : Frag) : Sp := fun vs H Q _ => ∃ (p : Addr) (k : Int), vs = [.ref p] ∧ 0 ≤ k ∧ k < 900000 ∧ Pot H p k ∧
  ∀ H' D R ps rs am, But p H H' → Pot H' p (k + 30) → H D = none → H R = none → H' D = some (.dK (bkD am R)) → H' R = some (.lst (ps.map V.ref)) → Pr H' ps rs → am ∈ ams → BkOk rs → Q (.ref D) H'
theorem scFive : FnScope ["pot", "words", "found", "word", "number"] ["pot"] (defScope sFive) := ⟨rfl, rfl, rfl, by decide +kernel, rfl, by decide +kernel, by decide +kernel⟩
theorem ok_five {f fT fO fS fB : Addr} {fd fdT fdO fdS fdB : FuncData} (FP : FD K "_law_five" sFive f fd) (F : Dx mg) (FT : FD K "_law_take" sTake fT fdT) (gT : mg "_law_take" = some (.ref fT)) (bT : Binds K fdT ["pot", "upto"] [])
    (FO : FD K "_law_of" sOf fO fdO) (gO : mg "_law_of" = some (.ref fO)) (bO : Binds K fdO ["pot", "some"] [])
    (FS : FD K "_law_some" sSome fS fdS) (gS : mg "_law_some" = some (.ref fS)) (bS : Binds K fdS ["pot", "pool", "many"] [])
    (FB : FD K "_law_some_book" sSomeB fB fdB) (gB : mg "_law_some_book" = some (.ref fB)) (bB : Binds K fdB ["pot", "words", "most"] []) : FnOk P w K mg bs CX0 4 f fd ["pot"] (spFive K) := by
  have sc := scFive
  have GT : FnOk P w K mg bs CX0 1 fT fdT ["pot", "upto"] spTake := ok_take FT F
  have GO : FnOk P w K mg bs CX0 2 fO fdO ["pot", "some"] (spOf K) := ok_of FO F FT gT bT
  have GB : FnOk P w K mg bs CX0 3 fB fdB ["pot", "words", "most"] (spSomeB K) := ok_someB FB F FT gT bT FO gO bO FS gS bS
  refine FP.ok scFive (fun vs H Q E h => ?_) (fun cdv A outer s H vs Q E hr h => ?_)
  · obtain ⟨p, k, rfl, _⟩ := h
    rfl
  · obtain ⟨p, t, rfl, t0, ht, hP, k⟩ := h
    have hr1 : Room 1 (A.deeper (envOfC "_law_five" (defScope sFive) s.heap.objs.size f cdv)) := hr.mono (by decide)
    have hr2 : Room 2 (A.deeper (envOfC "_law_five" (defScope sFive) s.heap.objs.size f cdv)) := hr.mono (by decide)
    have hu := hu_of hr
    refine ⟨_, pss_cons (ps_set (i := 1) sc.nd rfl (Or.inl rfl) (pe_lst (pa_cons pe_str (pa_cons pe_str (pa_cons pe_str (pa_cons pe_str (pa_cons pe_str pa_nil)))))))
      (pss_cons (ps_set (i := 2) sc.nd rfl (Or.inl rfl) (pe_call GB hr (by rfl) gB FB.kp bB .nil pass0 (pa_cons (pv 0) (pa_cons (pv 1) (pa_cons pe_int pa_nil)))))
      (pss_cons (ps_if (pt_cmpR op_eq (pe_call GT hr1 (by rfl) gT FT.kp bT .nil pass0 (pa_cons (pv 0) (pa_cons pe_int pa_nil))) pe_int (nomark _))
          (pss_one (ps_dput hu (pv 2) pe_str (pe_lc (own := [("word", 3), ("number", 4)]) (g := gTup K 2 (gCons (gName 3) (gCons (gName 4) gNil))) (by rfl) sc.nd (pi_list (pe_dget hu (pv 2) pe_str (fun _ _ => rfl))) (blkOk_by (N := ["pot", "words", "found", "word", "number"]) (sc := defScope sFive) (by decide +kernel))
            (fun _ _ _ _ _ => pg_tup rfl (pgs_cons (pg_name (i := 3) sc.nd rfl (Or.inl rfl)) (pgs_cons (pg_name (i := 4) sc.nd rfl (Or.inl rfl)) pgs_nil))) (fun _ _ _ _ _ => pts_nil)
            (fun _ _ _ _ _ => pe_tup (pa_cons (pv 3) (pa_cons (pe_call GO hr2 (by rfl) gO FO.kp bO .nil pass0 (pa_cons (pv 0) (pa_cons (pe_lst (pa_cons pe_int (pa_cons pe_int (pa_cons pe_int (pa_cons pe_int pa_nil))))) pa_nil))) pa_nil)))) rfl))
          pss_nil)
      (pss_one (ps_ret (pv 2))))), ?_⟩
    refine rd_seq (rd_set ?_)
    refine ⟨(by exact (by decide : 5 ≤ sizeLine)), fun Wd hW => ?_⟩
    have fW : upd H Wd (.lst (ruleWords.map V.str)) Wd = some (.lst (ruleWords.map V.str)) := upd_same
    have s1 : Same H (upd H Wd (.lst (ruleWords.map V.str))) := same_new hW
    dsimp only
    change tSeq _ _ _ _ (upd H Wd (.lst (ruleWords.map V.str)))
    generalize upd H Wd (.lst (ruleWords.map V.str)) = H1 at fW s1 ⊢
    have nWp : Wd ≠ p := hP.ne hW
    refine rd_seq (rd_set ?_)
    refine ⟨_, rfl, _, rfl, p, Wd, 5, t, rfl, fW, nWp, by decide, by decide, t0, by omega, hP.same s1, fun H2 D R ps rs am k2 hP2 hD0 hR0 hD hR pr ham hbk => ?_⟩
    have kA := (But.of s1).trans k2
    have hD0' := s1.free hD0
    have hR0' := s1.free hR0
    have nDp : D ≠ p := hP.ne hD0'
    have nRp : R ≠ p := hP.ne hR0'
    dsimp only
    refine rd_seq (rd_if ?_)
    refine ⟨_, rfl, p, 3, t + 12, rfl, by decide, by decide, by omega, hP2, fun H3 i k3 hP3 i0 i1 => ⟨rfl, _, rfl, ?_⟩⟩
    have hD3 := k3 _ _ nDp hD
    have hR3 := k3 _ _ nRp hR
    have pr3 := pr.but hP2 k3
    have kB := kA.trans k3
    by_cases c0 : V.int i = V.int 0
    · refine Eq.mpr (if_pos (decide_eq_true c0)) ?_
      have hl5 := hbk.len
      refine ⟨_, rfl, D, .ref R, rfl, DGet.k (k := Sum.inr "rules") hD3, R, rfl, ⟨_, SqL.of hR3⟩, fun E1 hE => lc_it (walk_list (K := K) (a := R) (xs := ps.map V.ref)) (fun j H' => ∃ (qs : List Addr) (ss : List (Str × Int)), But p H3 H' ∧ H' E1 = some (.lst (qs.map V.ref)) ∧ Pr H' qs ss ∧
          ss.map Prod.fst = (rs.take j).map Prod.fst ∧ (∀ r ∈ ss, r.2 = 2 ∨ r.2 = 10 ∨ r.2 = 98 ∨ r.2 = 99) ∧ Pot H' p (t + 13 + j)) ⟨[], [], But.of (same_new hE), upd_same, ⟨rfl, fun i p r e => by simp at e⟩, rfl, fun r hr => (by cases hr), (hP3.same (same_new hE)).mono (by omega)⟩ (fun j H' _ u => ?_) ?_ ?_⟩
      · obtain ⟨_, _, u, _⟩ := u
        exact SqL.of (u _ _ nRp hR3)
      · rintro j v H6 H5 hj ⟨qs, ss, k5, e5, q5, m5, b5, hP5⟩ ⟨rfl, hv⟩
        have hj' : j < ps.length := by simpa using hj
        have hj2 : j < rs.length := by rw [← pr.1]; exact hj'
        rw [List.getElem?_map, List.getElem?_eq_getElem hj'] at hv
        cases hv
        have hpj := (pr3.but hP3 k5).2 j _ _ (List.getElem?_eq_getElem hj') (List.getElem?_eq_getElem hj2)
        have htake : (rs.take (j + 1)).map Prod.fst = (rs.take j).map Prod.fst ++ [rs[j].1] := by rw [List.take_succ, List.getElem?_eq_getElem hj2, List.map_append]; rfl
        have hE3 : H3 E1 = none := hE
        have nEp : E1 ≠ p := hP3.ne hE3
        generalize rs[j] = r at hpj htake ⊢
        have lenq : qs.length = j := by
          have := congrArg List.length m5
          rw [List.length_map, List.length_map, List.length_take] at this
          rw [q5.1]
          omega
        refine ⟨_, _, rfl, SqT.of hpj, rfl, _, _, rfl, _, _, rfl, rfl, rfl, rd_yes rfl ?_⟩
        refine ⟨_, rfl, _, rfl, (by exact (by decide : 4 ≤ sizeLine)), fun L hL => ?_⟩
        have sL : Same H5 (upd H5 L (.lst [.int 2, .int 10, .int 98, .int 99])) := same_new hL
        refine ⟨p, L, [.int 2, .int 10, .int 98, .int 99], t + 13 + j, rfl, hP5.ne hL, SqL.of upd_same, by decide, by decide, by omega, hP5.same sL, fun H7 v7 k7 hP7 hv7 => ?_⟩
        have kL := (But.of sL).trans k7
        obtain ⟨n, rfl, hn⟩ : ∃ n : Int, v7 = .int n ∧ (n = 2 ∨ n = 10 ∨ n = 98 ∨ n = 99) := by
          simp only [List.mem_cons, List.not_mem_nil, or_false] at hv7
          rcases hv7 with rfl | rfl | rfl | rfl
          · exact ⟨2, rfl, by omega⟩
          · exact ⟨10, rfl, by omega⟩
          · exact ⟨98, rfl, by omega⟩
          · exact ⟨99, rfl, by omega⟩
        refine ⟨(by exact (by decide : 2 ≤ sizeLine)), fun T hT => ?_⟩
        have sT : Same H7 (upd H7 T (.tup [.str r.1, .int n])) := same_new hT
        have fT : upd H7 T (.tup [.str r.1, .int n]) T = some (.tup [.str r.1, .int n]) := upd_same
        have e8 := sT _ _ (kL _ _ nEp e5)
        have pr8 := ((q5.but hP5 kL).same sT).snoc (r := (r.1, n)) fT
        have hP8 := hP7.same sT
        have k8 := (k5.trans kL).trans (But.of sT)
        generalize upd H7 T (.tup [.str r.1, .int n]) = H8 at fT e8 pr8 hP8 k8 ⊢
        refine ⟨_, e8, Nat.lt_of_le_of_lt (by rw [List.length_map, lenq]; omega : _ ≤ 100) (by decide), qs ++ [T], ss ++ [(r.1, n)], k8.mut hE3, by rw [upd_same, List.map_append]; rfl, ?_, by rw [List.map_append, m5, htake]; rfl, ?_, ?_⟩
        · refine ⟨pr8.1, fun i a u x y => ?_⟩
          have e := pr8.2 i a u x y
          exact (upd_ne (fun z => by rw [z, e8] at e; cases e)).trans e
        · intro u hu'
          rcases List.mem_append.mp hu' with hu' | hu'
          · exact b5 u hu'
          · rw [List.mem_singleton.mp hu']
            exact hn
        · obtain ⟨o, b1, c1, e, r1⟩ := hP8.mono (by omega : t + 13 + j + 1 ≤ t + 13 + ((j + 1 : Nat) : Int))
          exact ⟨o, b1, c1, (upd_ne (Ne.symm nEp)).trans e, r1⟩
      · rintro H5 ⟨qs, ss, k5, e5, q5, m5, b5, hP5⟩
        rw [List.length_map, pr.1, List.take_length] at m5
        rw [List.length_map, pr.1] at hP5
        have hE3 : H3 E1 = none := hE
        have nEp : E1 ≠ p := hP3.ne hE3
        have hD5 := k5 _ _ nDp hD3
        have nED : E1 ≠ D := Ne.symm (ne_of_none hD3 hE3)
        refine ⟨_, rfl, D, _, rfl, DPut.k (k := Sum.inr "rules") hD5 (by show 2 < sizeLine; decide), ?_⟩
        have eput : putK (bkD am R) (Sum.inr "rules") (.ref E1) = bkD am E1 := rfl
        rw [eput]
        refine ⟨_, rfl, ?_⟩
        have hlen : ss.length = rs.length := by
          have := congrArg List.length m5
          rw [List.length_map, List.length_map] at this
          exact this
        refine k _ D E1 qs ss am ((kB.trans k5).mut hD0') ?_ hD0' (kB.free hE3 hP3.some.choose_spec) upd_same ((upd_ne nED).trans e5) ?_ ham ⟨by rw [hlen]; exact hbk.1, ?_, fun u hu' => ?_⟩
        · obtain ⟨o, b1, c1, e, r1⟩ := hP5.mono (by omega : t + 13 + (rs.length : Int) ≤ t + 30)
          exact ⟨o, b1, c1, (upd_ne (Ne.symm nDp)).trans e, r1⟩
        · refine ⟨q5.1, fun i a u x y => ?_⟩
          have e := q5.2 i a u x y
          exact (upd_ne (fun z => by rw [z, hD5] at e; cases e)).trans e
        · rw [m5]
          exact hbk.2.1
        · rcases b5 u hu' with h | h | h | h <;> exact ⟨by omega, by omega, fun _ => by omega⟩
    · refine Eq.mpr (if_neg (fun q => c0 (of_decide_eq_true q))) ?_
      dsimp only [tNext]
      exact ⟨_, rfl, k H3 D R ps rs am kB (hP3.mono (by omega)) hD0' hR0' hD3 hR3 pr3 ham hbk⟩
end
end L2.K05

set_option Elab.async false
set_option linter.all false
set_option maxRecDepth 100000
set_option maxHeartbeats 4000000
namespace L2.K05
open PySem PySem.Spec PyProof.Rows L2.Vx
open PySem.W (Frag)
open TL (tl)
/-! ### a drawn book's text is read as it was drawn -/
theorem cut_one {s : Nat} : ∀ (p acc : List Nat), s ∉ p → cutAt s acc p = [acc ++ p]
  | [], acc, _ => by unfold cutAt; simp
  | c :: r, acc, h => by
    unfold cutAt
    rw [if_neg (fun e => h (by simp [e])), cut_one r (acc ++ [c]) (fun q => h (List.mem_cons_of_mem _ q))]
    simp
theorem cut_app {s : Nat} : ∀ (p acc r : List Nat), s ∉ p → cutAt s acc (p ++ s :: r) = (acc ++ p) :: cutAt s [] r
  | [], acc, r, _ => by
    show cutAt s acc (s :: r) = _
    conv => lhs; unfold cutAt
    rw [if_pos rfl, List.append_nil]
  | c :: p, acc, r, h => by
    show cutAt s acc (c :: (p ++ s :: r)) = _
    conv => lhs; unfold cutAt
    rw [if_neg (fun e => h (by simp [e])), cut_app p (acc ++ [c]) r (fun q => h (List.mem_cons_of_mem _ q))]
    simp
theorem cut_glue {s : Nat} : ∀ (ps : List (List Nat)), ps ≠ [] → (∀ p ∈ ps, s ∉ p) → cutAt s [] (glue s ps) = ps
  | [], h, _ => absurd rfl h
  | [p], _, h => cut_one p [] (h p (by simp))
  | p :: q :: r, _, h => by
    show cutAt s [] (p ++ s :: glue s (q :: r)) = _
    rw [cut_app p [] _ (h p (by simp)), cut_glue (q :: r) (by simp) (fun x hx => h x (List.mem_cons_of_mem _ hx))]
    rfl
theorem joinL_glue (s : Nat) : ∀ ps : List (List Nat), TL.joinL [s] ps = glue s ps
  | [] => rfl
  | [p] => rfl
  | p :: q :: r => by
    show p ++ ([s] ++ TL.joinL [s] (q :: r)) = p ++ s :: glue s (q :: r)
    rw [joinL_glue s (q :: r)]
    rfl
theorem map_tl_inj : ∀ {a b : List Str}, a.map tl = b.map tl → a = b
  | [], [], _ => rfl
  | [], _ :: _, h => by cases h
  | _ :: _, [], h => by cases h
  | x :: a, y :: b, h => by
    rw [List.map_cons, List.map_cons] at h
    injection h with h1 h2
    rw [TL.ext_tl h1, map_tl_inj h2]
theorem split_join {s : Nat} (hs : s < 256) {ys : List Str} (h0 : ys ≠ []) (h : ∀ y ∈ ys, s ∉ tl y) : Txt.split (Txt.join ⟨#[s]⟩ ys) ⟨#[s]⟩ = ys := by
  apply map_tl_inj
  have e : tl (Txt.join ⟨#[s]⟩ ys) = glue s (ys.map tl) := by
    rw [TL.join_eq, TL.tl_join]
    exact joinL_glue s _
  rw [split_cut _ hs, e]
  exact cut_glue _ (by simpa using h0) (fun p hp => by
    obtain ⟨y, hy, rfl⟩ := List.mem_map.mp hp
    exact h y hy)
theorem split_two {a b : Str} (ha : 32 ∉ tl a) (hb : 32 ∉ tl b) : Txt.split (a ++ " " ++ b) " " = [a, b] := by
  have e : a ++ " " ++ b = Txt.join " " [a, b] := by
    apply TL.ext_tl
    rw [TL.tl_append, TL.tl_append, TL.join_eq, TL.tl_join]
    show tl a ++ tl " " ++ tl b = tl a ++ (tl " " ++ tl b)
    rw [List.append_assoc]
  rw [e, sp_eq]
  exact split_join (by decide) (by simp) (fun y hy => by
    simp at hy
    rcases hy with rfl | rfl
    · exact ha
    · exact hb)
theorem num_round : ∀ n : Nat, n < 100 → ∀ l : Nat, l ≤ n → numIn (Str.ofString (toString (n : Int))) l 99 = some (n : Int) := by
  intro n hn l hl
  have h : ∀ n : Nat, n < 100 → (∀ l ∈ List.range (n + 1), numIn (Str.ofString (toString (n : Int))) (l : Int) 99 = some (n : Int)) := by decide +kernel
  exact h n hn l (List.mem_range.mpr (by omega))
theorem num_free : ∀ n : Nat, n < 100 → 32 ∉ tl (Str.ofString (toString (n : Int))) ∧ 10 ∉ tl (Str.ofString (toString (n : Int))) := by decide +kernel
theorem word_free : ∀ w ∈ ruleWords, 32 ∉ tl w ∧ 10 ∉ tl w := by decide +kernel
theorem am_free : ∀ w ∈ ams, 32 ∉ tl w ∧ 10 ∉ tl w := by decide +kernel
theorem am_round : ∀ w ∈ ams, amongIn ("among " ++ w) = some w := by decide +kernel
theorem rule_round {rs : List (Str × Int)} (h : BkOk rs) {r : Str × Int} (hr : r ∈ rs) : ruleIn (lineOf r) = some r := by
  obtain ⟨a, n⟩ := r
  have hw := h.word hr
  have hn := h.2.2 _ hr
  obtain ⟨m, rfl⟩ : ∃ m : Nat, n = (m : Int) := ⟨n.toNat, by have := hn.1; dsimp only at this; omega⟩
  have hm : m < 100 := by have := hn.2.1; dsimp only at this; omega
  have e : Txt.split (lineOf (a, (m : Int))) " " = [a, Str.ofString (toString (m : Int))] := split_two (word_free a hw).1 (num_free m hm).1
  unfold ruleIn
  rw [e]
  show (if a ∈ ruleWords then (numIn (Str.ofString (toString (m : Int))) (leastOf a) 99).map fun n => (a, n) else none) = _
  rw [if_pos hw]
  obtain ⟨l, el, hl⟩ : ∃ l : Nat, leastOf a = (l : Int) ∧ l ≤ m := by
    unfold leastOf
    by_cases hg : a = "grid"
    · rw [if_pos hg]
      have := hn.2.2 hg
      dsimp only at this
      exact ⟨2, rfl, by omega⟩
    · rw [if_neg hg]
      exact ⟨0, rfl, Nat.zero_le _⟩
  rw [el, num_round m hm l hl]
  rfl
theorem words_nodup : ruleWords.Nodup := by decide +kernel
theorem BkOk.nodup {rs : List (Str × Int)} (h : BkOk rs) : (rs.map Prod.fst).Nodup := by
  obtain ⟨_, ⟨re, pm⟩, _⟩ := h
  exact (List.nodup_append.mp (pm.nodup_iff.mpr words_nodup)).1
theorem rules_round : ∀ (rs acc : List (Str × Int)) (n : Nat), (∀ r ∈ rs, ruleIn (lineOf r) = some r) → ((acc ++ rs).map Prod.fst).Nodup → rulesIn (rs.map lineOf) n acc = .inr (acc ++ rs)
  | [], acc, n, _, _ => by rw [List.append_nil]; rfl
  | r :: rs, acc, n, h, nd => by
    rw [List.map_cons]
    unfold rulesIn
    rw [h r (by simp)]
    dsimp only
    have e : acc ++ r :: rs = (acc ++ [r]) ++ rs := by simp
    rw [if_neg (fun q => ?_), rules_round rs (acc ++ [r]) (n + 1) (fun x hx => h x (List.mem_cons_of_mem _ hx)) (by rw [← e]; exact nd), e]
    rw [List.map_append, List.map_cons, List.nodup_append] at nd
    exact nd.2.2 _ q _ (by simp) rfl
theorem lines_free {am : Str} {rs : List (Str × Int)} (ha : am ∈ ams) (h : BkOk rs) : ∀ y ∈ bookLines am rs, 10 ∉ tl y := by
  intro y hy
  rcases List.mem_cons.mp hy with rfl | hy
  · rw [TL.tl_append]
    intro q
    rcases List.mem_append.mp q with q | q
    · exact (by decide +kernel : 10 ∉ tl ("among " : Str)) q
    · exact (am_free am ha).2 q
  · obtain ⟨r, hr, rfl⟩ := List.mem_map.mp hy
    have hn := h.2.2 _ hr
    obtain ⟨m, em⟩ : ∃ m : Nat, r.2 = (m : Int) := ⟨r.2.toNat, by omega⟩
    unfold lineOf
    rw [TL.tl_append, TL.tl_append, em]
    intro q
    rcases List.mem_append.mp q with q | q
    · rcases List.mem_append.mp q with q | q
      · exact (word_free _ (h.word hr)).2 q
      · exact (by decide +kernel : 10 ∉ tl (" " : Str)) q
    · exact (num_free m (by omega)).2 q
theorem lines_round {am : Str} {rs : List (Str × Int)} (ha : am ∈ ams) (h : BkOk rs) : Txt.split (Txt.join "\n" (bookLines am rs)) "\n" = bookLines am rs := by
  rw [nl_eq]
  exact split_join (by decide) (by simp [bookLines]) (lines_free ha h)
theorem book_round {am : Str} {rs : List (Str × Int)} (ha : am ∈ ams) (h : BkOk rs) : bookIn (Txt.join "\n" (bookLines am rs)) = .inr (am, rs) := by
  unfold bookIn
  rw [lines_round ha h]
  have h1 := am_round am ha
  have h2 := rules_round rs [] 2 (fun r hr => rule_round h hr) (by simpa using h.nodup)
  have h3 := h.1
  cases rs with
  | nil => simp at h3
  | cons r rs => exact bookW3 h1 h2
end L2.K05

set_option Elab.async false
set_option linter.all false
set_option maxRecDepth 100000
set_option maxHeartbeats 4000000
namespace L2.K05
open PySem PySem.Spec PyProof.Rows L2.Vx
open PySem.W (Frag)
open LamX (CodeO Tabs TabS TabB ExtN LamS lamEnv lamCx lamS_by)
/-! ### what goes on, the tables aside, and p aside -/
def ExtB (p : Addr) (H H' : Hp) : Prop := ∀ b o, b ≠ p → H b = some o → (∀ ps : Array Value, o ≠ .tbl ps) → H' b = some o
theorem ExtB.of {p : Addr} {H H' : Hp} (b : But p H H') : ExtB p H H' := fun a o n e _ => b a o n e
theorem ExtB.ofN {p : Addr} {H H' : Hp} (b : ExtN H H') : ExtB p H H' := fun a o _ e n => b a o e n
theorem ExtB.trans {p : Addr} {A B C : Hp} (x : ExtB p A B) (y : ExtB p B C) : ExtB p A C := fun a o n e t => y a o n (x a o n e t) t
theorem ExtB.refl {p : Addr} {A : Hp} : ExtB p A A := fun _ _ _ e _ => e
theorem ExtN.tr {A B C : Hp} (x : ExtN A B) (y : ExtN B C) : ExtN A C := fun a o e t => y a o (x a o e t) t
theorem tabs_but {T : List (Addr × Str)} {p : Addr} {H H' : Hp} {k : Int} (t : Tabs T H) (hP : Pot H p k) (b : But p H H') : Tabs T H' := fun x hx => by
  obtain ⟨ps, h1, h2, h3⟩ := t x hx
  obtain ⟨o, c, d, ep, _⟩ := hP
  refine ⟨ps, b _ _ (fun z => by rw [z, ep] at h1; cases h1) h1, h2, fun pos cv hc => ?_⟩
  obtain ⟨q, e1, e2⟩ := h3 pos cv hc
  exact ⟨q, e1, b _ _ (fun z => by rw [z, ep] at e2; cases e2) e2⟩
theorem Pot.ext {p : Addr} {H H' : Hp} {k : Int} (h : Pot H p k) (e : ExtN H H') : Pot H' p k := by
  obtain ⟨o, b, c, ep, r⟩ := h
  exact ⟨o, b, c, e _ _ ep (fun _ z => by cases z), r⟩
theorem sql_ext {K : Frag} {H H' : Hp} {a : Addr} {xs : List V} (e : ExtN H H') (h : SqL K H a xs) : SqL K H' a xs := by
  rcases h with (h | ⟨o, h⟩) | h
  · exact .inl (.inl (e _ _ h (fun _ z => by cases z)))
  · exact .inl (.inr ⟨o, e _ _ h (fun _ z => by cases z)⟩)
  · exact .inr h
theorem sqt_ext {K : Frag} {H H' : Hp} {a : Addr} {xs : List V} (e : ExtN H H') (h : SqT K H a xs) : SqT K H' a xs := by
  rcases h with (h | ⟨o, h⟩) | h
  · exact .inl (.inl (e _ _ h (fun _ z => by cases z)))
  · exact .inl (.inr ⟨o, e _ _ h (fun _ z => by cases z)⟩)
  · exact .inr h
mutual
theorem dd_ext {K : Frag} {H H' : Hp} (e : ExtN H H') : ∀ {v : V} {d : PyData}, Dd K H v d → Dd K H' v d
  | _, _, .non => .non
  | _, _, .bl b => .bl b
  | _, _, .int i => .int i
  | _, _, .str x => .str x
  | _, _, .lst h a => .lst (sql_ext e h) (ddAll_ext e a)
  | _, _, .tup h a => .tup (sqt_ext e h) (ddAll_ext e a)
  | _, _, .dct h a => .dct (e _ _ h (fun _ z => by cases z)) (ddAll_ext e a)
theorem ddAll_ext {K : Frag} {H H' : Hp} (e : ExtN H H') : ∀ {v : List V} {d : List PyData}, DdAll K H v d → DdAll K H' v d
  | _, _, .nil => .nil
  | _, _, .cons a t => .cons (dd_ext e a) (ddAll_ext e t)
end
/-! ### data without dicts -/
mutual
def noD : PyData → Bool
  | .none | .bool _ | .int _ | .str _ => true
  | .list xs => noDs xs
  | .tuple xs => noDs xs
  | .dict _ => false
def noDs : List PyData → Bool
  | [] => true
  | x :: xs => noD x && noDs xs
end
mutual
theorem dd_dp {K : Frag} {H : Hp} : ∀ {v : V} {d : PyData}, Dd K H v d → noD d = true → Dp K H v d
  | _, _, .non, _ => .non
  | _, _, .bl b, _ => .bl b
  | _, _, .int i, _ => .int i
  | _, _, .str x, _ => .str x
  | _, _, .lst h a, n => .lst h (ddAll_dp a n)
  | _, _, .tup h a, n => .tup h (ddAll_dp a n)
theorem ddAll_dp {K : Frag} {H : Hp} : ∀ {v : List V} {d : List PyData}, DdAll K H v d → noDs d = true → DpAll K H v d
  | _, _, .nil, _ => .nil
  | _, _, .cons a t, n => .cons (dd_dp a (Bool.and_eq_true_iff.mp n).1) (ddAll_dp t (Bool.and_eq_true_iff.mp n).2)
end
/-! ### a is not b, of bools -/
theorem op_isnotB {X : Cx} : OpR X (compareOp .IsNot) (fun x y H Q => ∃ b c, x = .bl b ∧ y = .bl c ∧ Q (.bl (!decide (b = c))) H) := by
  intro pins s σ H x y v u Q I rx ry h
  obtain ⟨b, c, rfl, rfl, q⟩ := h
  cases (show v = Value.bool b from rx)
  cases (show u = Value.bool c from ry)
  refine wpAny_of_eq (a := Value.bool (!decide (b = c))) ?_ ⟨V.bl (!decide (b = c)), H, I, rfl, q⟩
  cases b <;> cases c <;> rfl
/-! ### a value that is asked for -/
def okD (d : PyData) : Bool := shOk d && (decide (d.depth ≤ 60) && (decide (d.shown.length ≤ 1000) && ((SeqAt.shaped d && noD d) || match d with | .dict _ => true | _ => false)))
end L2.K05

set_option Elab.async false
set_option linter.all false
set_option maxRecDepth 100000
set_option maxHeartbeats 4000000
namespace L2.K05
open PySem PySem.Spec PyProof.Rows L2.Vx
open PySem.W (Frag)
open TL (tl)
/-! ### what a book tells of itself, as data -/
def rowD (r : Str × Int) : PyData := .tuple [.str r.1, .int r.2]
def bkDat (z am : Str) (rs : List (Str × Int)) (n : Nat) : PyData := .tuple [.str z, .str am, .tuple (rs.map rowD), .int (n : Nat)]
theorem pr_dd {K : Frag} {H : Hp} : ∀ {ps : List Addr} {rs : List (Str × Int)}, Pr H ps rs → DdAll K H (ps.map V.ref) (rs.map rowD)
  | [], [], _ => .nil
  | [], _ :: _, h => by cases h.1
  | _ :: _, [], h => by cases h.1
  | p :: ps, r :: rs, h => .cons (.tup (SqT.of (h.2 0 p r rfl rfl)) (.cons (.str _) (.cons (.int _) .nil))) (pr_dd ⟨Nat.succ.inj h.1, fun i a b x y => h.2 (i + 1) a b x y⟩)
/-- short texts of plain signs, small numbers, tuples of them -/
def plainS (x : Str) : Bool := x.cps.toList.all fun c => decide (c < 16 ^ 8)
theorem int_shown {n : Int} (h0 : 0 ≤ n) (h1 : n ≤ 99) : (PyData.int n).shown.length ≤ 8 := by
  have : (PyData.int n).shown = Str.ofString (toString n) := by unfold PyData.shown; rfl
  rw [this]
  have := num_len h0 h1
  omega
theorem rows_data : ∀ rs : List (Str × Int), (∀ r ∈ rs, plainS r.1 = true ∧ r.1.length ≤ 8 ∧ 0 ≤ r.2 ∧ r.2 ≤ 99) →
    PyData.showableAll (rs.map rowD) = true ∧ PyData.hasDictAll (rs.map rowD) = false ∧ PyData.depthAll (rs.map rowD) ≤ 1 ∧ PyData.leavesShortAll 8 (rs.map rowD) = true ∧ PyData.bulkAll (rs.map rowD) ≤ 11 * rs.length
  | [], _ => ⟨rfl, rfl, Nat.zero_le _, rfl, Nat.zero_le _⟩
  | r :: rs, h => by
    obtain ⟨i1, i2, i3, i4, i5⟩ := rows_data rs fun x hx => h x (List.mem_cons_of_mem _ hx)
    obtain ⟨p, l, n0, n9⟩ := h r (List.mem_cons_self ..)
    rw [List.map_cons]
    have hn := int_shown n0 n9
    generalize rs.map rowD = L at i1 i2 i3 i4 i5 ⊢
    have hs : decide (r.2.natAbs.log2 < 1920) = true := decide_eq_true (small99 n0 n9)
    refine ⟨?_, ?_, ?_, ?_, ?_⟩
    · unfold PyData.showableAll rowD PyData.showable
      simp only [PyData.showableAll, PyData.showable, i1, hs, Bool.and_self]
    · unfold PyData.hasDictAll rowD PyData.hasDict
      simp only [PyData.hasDictAll, PyData.hasDict, i2, Bool.or_self]
    · unfold PyData.depthAll rowD PyData.depth
      simp only [PyData.depthAll, PyData.depth]
      omega
    · unfold PyData.leavesShortAll rowD PyData.leavesShort
      simp only [PyData.leavesShortAll, PyData.leavesShort, i4]
      unfold plainS at p
      rw [p, decide_eq_true hn]
      rfl
    · unfold PyData.bulkAll rowD PyData.bulk
      simp only [PyData.bulkAll, PyData.bulk]
      rw [List.length_cons]
      have : r.1.cps.size = r.1.length := rfl
      omega
theorem tl_plain {x : Str} (h : ∀ c ∈ tl x, c < 16 ^ 8) : plainS x = true := by
  unfold plainS
  rw [List.all_eq_true]
  intro c hc
  exact decide_eq_true (h c hc)
theorem glue_all {s : Nat} {Q : Nat → Prop} (hs : Q s) : ∀ ps : List (List Nat), (∀ p ∈ ps, ∀ c ∈ p, Q c) → ∀ c ∈ glue s ps, Q c
  | [], _, c, h => by cases h
  | [p], hp, c, h => hp p (by simp) c h
  | p :: q :: r, hp, c, h => by
    rcases List.mem_append.mp (show c ∈ p ++ s :: glue s (q :: r) from h) with h | h
    · exact hp p (by simp) c h
    · rcases List.mem_cons.mp h with rfl | h
      · exact hs
      · exact glue_all hs (q :: r) (fun p hp' => hp p (List.mem_cons_of_mem _ hp')) c h
theorem word_plain : ∀ w ∈ ruleWords, ∀ c ∈ tl w, c < 16 ^ 8 := by decide +kernel
theorem am_plain : ∀ w ∈ ams, ∀ c ∈ tl w, c < 16 ^ 8 := by decide +kernel
theorem num_plain : ∀ n : Nat, n < 100 → ∀ c ∈ tl (Str.ofString (toString (n : Int))), c < 16 ^ 8 := by decide +kernel
theorem join_plain {ys : List Str} (h : ∀ y ∈ ys, ∀ c ∈ tl y, c < 16 ^ 8) : ∀ c ∈ tl (Txt.join "\n" ys), c < 16 ^ 8 := by
  have e : tl (Txt.join "\n" ys) = glue 10 (ys.map tl) := by
    rw [nl_eq, TL.join_eq, TL.tl_join]
    exact joinL_glue 10 _
  rw [e]
  refine glue_all (by decide) _ fun p hp => ?_
  obtain ⟨y, hy, rfl⟩ := List.mem_map.mp hp
  exact h y hy
theorem lines_plain {am : Str} {rs : List (Str × Int)} (ha : am ∈ ams) (h : BkOk rs) : ∀ y ∈ bookLines am rs, ∀ c ∈ tl y, c < 16 ^ 8 := by
  intro y hy c hc
  rcases List.mem_cons.mp hy with rfl | hy
  · rw [TL.tl_append] at hc
    rcases List.mem_append.mp hc with q | q
    · exact (by decide +kernel : ∀ c ∈ tl ("among " : Str), c < 16 ^ 8) c q
    · exact am_plain am ha c q
  · obtain ⟨r, hr, rfl⟩ := List.mem_map.mp hy
    have hn := h.2.2 _ hr
    obtain ⟨m, em⟩ : ∃ m : Nat, r.2 = (m : Int) := ⟨r.2.toNat, by omega⟩
    unfold lineOf at hc
    rw [TL.tl_append, TL.tl_append, em] at hc
    rcases List.mem_append.mp hc with q | q
    · rcases List.mem_append.mp q with q | q
      · exact word_plain _ (h.word hr) c q
      · exact (by decide +kernel : ∀ c ∈ tl (" " : Str), c < 16 ^ 8) c q
    · exact num_plain m (by omega) c q
theorem bkDat_ok {am : Str} {rs : List (Str × Int)} (ha : am ∈ ams) (h : BkOk rs) : shOk (bkDat (Txt.join "\n" (bookLines am rs)) am rs rs.length) = true ∧
    (bkDat (Txt.join "\n" (bookLines am rs)) am rs rs.length).depth ≤ 60 ∧ (bkDat (Txt.join "\n" (bookLines am rs)) am rs rs.length).shown.length ≤ sizeLine := by
  obtain ⟨i1, i2, i3, i4, i5⟩ := rows_data rs fun r hr => ⟨tl_plain (word_plain _ (h.word hr)), words_len _ (h.word hr), (h.2.2 r hr).1, (h.2.2 r hr).2.1⟩
  have l5 := h.len
  have lz : (Txt.join "\n" (bookLines am rs)).length ≤ 73 := Nat.le_trans (join_tot nl1 _) (lines_tot ha h)
  have pz : plainS (Txt.join "\n" (bookLines am rs)) = true := tl_plain (join_plain (lines_plain ha h))
  have la : am.length ≤ 6 := (by decide +kernel : ∀ y ∈ ams, y.length ≤ 6) am ha
  have pa : plainS am = true := tl_plain (am_plain am ha)
  generalize Txt.join "\n" (bookLines am rs) = z at lz pz ⊢
  have hlen : ((rs.length : Nat) : Int).natAbs.log2 < 1920 := small99 (by omega) (by omega)
  have hsh := int_shown (n := ((rs.length : Nat) : Int)) (by omega) (by omega)
  have A : (bkDat z am rs rs.length).showable = true := by
    unfold bkDat
    simp only [PyData.showable, PyData.showableAll, i1, decide_eq_true hlen, Bool.and_self]
  have B : (bkDat z am rs rs.length).hasDict = false := by
    unfold bkDat
    simp only [PyData.hasDict, PyData.hasDictAll, i2, Bool.or_self]
  refine ⟨?_, ?_, ?_⟩
  · unfold shOk
    rw [A, B]
    rfl
  · unfold bkDat
    simp only [PyData.depth, PyData.depthAll]
    omega
  · have L : PyData.leavesShort 8 (bkDat z am rs rs.length) = true := by
      unfold bkDat
      simp only [PyData.leavesShort, PyData.leavesShortAll, i4]
      unfold plainS at pz pa
      rw [pz, pa, decide_eq_true hsh]
      rfl
    refine Nat.le_trans (PyData.shown_le_bulk 8 (Nat.le_refl _) _ L) ?_
    have b : (bkDat z am rs rs.length).bulk ≤ 200 := by
      unfold bkDat
      simp only [PyData.bulk, PyData.bulkAll]
      have : z.cps.size = z.length := rfl
      have : am.cps.size = am.length := rfl
      omega
    exact Nat.le_trans (by omega : (8 + 2) * (bkDat z am rs rs.length).bulk + 8 ≤ 2008) (by decide)
end L2.K05

set_option Elab.async false
set_option linter.all false
set_option maxRecDepth 100000
set_option maxHeartbeats 4000000
namespace L2.K05
open PySem PySem.Spec PyProof.Rows L2.Vx
open PySem.W (Frag)
open LamX (CodeO Tabs TabS TabB ExtN LamS lamEnv lamCx lamS_by)
/-! ### one book, as it is told -/
theorem passN {P : Program} {w : World} {X : Cx} : Passes (L2.CX P w) X (fun _ _ _ => False) := fun _ _ _ _ _ _ _ h => by
  obtain ⟨_, _, _, _, _, _, _, _, _, _, _, _, f⟩ := h
  exact f.elim
theorem raw0 {P : Program} {w : World} {K : Frag} {mg : Str → Option Value} {base : Heap} {CX : CXT} {k : Nat} {f : Addr} {sp : Sp} {fd : FuncData} {ps : List Str} (F : FnOk P w K mg base CX k f fd ps sp) (b : Binds K fd ps []) : FnR P w K mg base CX k f sp := by
  have h := F.raw b .nil
  simp only [List.append_nil] at h
  exact h
def qR : Str := ("_law_right" ++ ".<locals>." : Str) ++ "<lambda>"
/-- what is known of the class of books, its own operators with it -/
structure FxBk (K : Frag) (mg : Str → Option Value) (B gL gH gG gE : Addr) : Prop where
  sL : PySem.W.findIn K (.ref B) "__len__" = some (some (.ref gL))
  fL : PySem.W.isFn K (.ref gL) = true
  sH : PySem.W.findIn K (.ref B) "__contains__" = some (some (.ref gH))
  fH : PySem.W.isFn K (.ref gH) = true
  sG : PySem.W.findIn K (.ref B) "__getitem__" = some (some (.ref gG))
  nG : PySem.W.fnIn K gG = true
  fG : PySem.W.isFn K (.ref gG) = true
  sE : PySem.W.findIn K (.ref B) (cmpInfo .Eq).2.1 = some (some (.ref gE))
  fE : PySem.W.isFn K (.ref gE) = true
  nfN : PySem.W.notFirst K B (.type "NoneType") = true
  nfS : PySem.W.notFirst K B (.type "str") = true
  nfB : PySem.W.notFirst K B (.ref B) = true
structure FxRt (K : Frag) (mg : Str → Option Value) (B C CN D fI fIN fB : Addr) : Prop where
  init : FxInit K mg B
  mkB : Mk K B fB
  gBook : mg "Book" = some (.ref B)
  bad : ErrT K C fI
  gBad : mg "BadBook" = some (.ref C)
  non : ErrT K CN fIN
  gNon : mg "NoRule" = some (.ref CN)
  gDraw : mg "DrawError" = some (.ref D)
  exm : PySem.W.exmOne K (.ref CN) (.ref D) = some true
  kit : PySem.W.kitOne K (.ref CN) (.ref CN) = some true
  rep : mg "repr" = none
  len : mg "len" = none
  dict : mg "dict" = none
  str : mg "str" = none
def kvB (rs : List (Str × Int)) : List (Key × V) := rs.map fun r => (Sum.inr r.1, V.int r.2)
theorem pr_paired {K : Frag} {H : Hp} : ∀ {ps : List Addr} {rs : List (Str × Int)}, Pr H ps rs → Paired (fun p kv => SqT K H p [kV kv.1, kv.2]) ps (kvB rs)
  | [], [], _ => .nil
  | [], _ :: _, h => by cases h.1
  | _ :: _, [], h => by cases h.1
  | p :: ps, r :: rs, h => .cons (SqT.of (h.2 0 p r rfl rfl)) (pr_paired ⟨Nat.succ.inj h.1, fun i a b x y => h.2 (i + 1) a b x y⟩)
theorem valV_kvB (u : Str) : ∀ rs : List (Str × Int), valV (kvB rs) (Sum.inr u : Key) = (findR (.str u) rs).map V.int
  | [] => valV_nil
  | r :: rs => by
    show valV ((Sum.inr r.1, V.int r.2) :: kvB rs) (Sum.inr u : Key) = (if wordOf (.str u) = some r.1 then some r.2 else findR (.str u) rs).map V.int
    by_cases h : u = r.1
    · subst h
      rw [valV_pos rfl]
      show some (V.int r.2) = (if some r.1 = some r.1 then some r.2 else findR (.str r.1) rs).map V.int
      rw [if_pos rfl]
      rfl
    · rw [valV_neg (fun q => h (Sum.inr.inj q).symm), if_neg (fun q : wordOf (V.str u) = some r.1 => h (Option.some.inj q))]
      exact valV_kvB u rs
theorem valV_none {κ : Type} [DecidableEq κ] {k : κ} : ∀ {kvs : List (κ × V)}, k ∉ kvs.map (·.1) → valV kvs k = none
  | [], _ => valV_nil
  | kv :: kvs, h => by
    rw [show kv = (kv.1, kv.2) from rfl, valV_neg (fun q => h (by rw [List.map_cons, ← q]; exact List.mem_cons_self ..))]
    exact valV_none (fun q => h (List.mem_cons_of_mem _ q))
theorem findR_some (u : Str) : ∀ rs : List (Str × Int), (findR (.str u) rs).isSome = decide (u ∈ rs.map Prod.fst)
  | [] => by simp [findR]
  | r :: rs => by
    show (if some u = some r.1 then some r.2 else findR (.str u) rs).isSome = _
    by_cases h : u = r.1
    · rw [if_pos (congrArg some h), decide_eq_true (by rw [List.map_cons, h]; exact List.mem_cons_self ..)]
      rfl
    · rw [if_neg (fun q => h (Option.some.inj q)), findR_some u rs, Bool.eq_iff_iff, decide_eq_true_iff, decide_eq_true_iff, List.map_cons, List.mem_cons]
      exact ⟨Or.inr, fun q => q.resolve_left h⟩
theorem word_shaped : ∀ w ∈ ruleWords, SeqAt.shaped (.str w) = true := by decide +kernel
theorem kvB_get {H : Hp} {N0 : Addr} {rs : List (Str × Int)} {u : Str} {n : Int} (f : H N0 = some (.dK (kvB rs))) (e : findR (.str u) rs = some n) : DGet H N0 (.str u) (some (.int n)) := by
  have h := DGet.k (k := (Sum.inr u : Key)) f
  rw [valV_kvB, e] at h
  exact h
theorem kvB_has {H : Hp} {N0 : Addr} {rs : List (Str × Int)} (u : Str) (f : H N0 = some (.dK (kvB rs))) : DGet H N0 (.str u) ((findR (.str u) rs).map V.int) := by
  have h := DGet.k (k := (Sum.inr u : Key)) f
  rw [valV_kvB] at h
  exact h
def oddW : List Str := ["corner", "wall", "level", "grid", "among"]
theorem findR_none {rs : List (Str × Int)} (h : BkOk rs) {u : Str} (hu : u ∉ ruleWords) : findR (.str u) rs = none := by
  have e := findR_some u rs
  rw [decide_eq_false (fun q => hu (by obtain ⟨r, hr, rfl⟩ := List.mem_map.mp q; exact h.word hr))] at e
  exact Option.not_isSome_iff_eq_none.mp (by rw [e]; decide)
theorem dp_ref0 {K : Frag} {H : Hp} {v : V} {d : PyData} (h : Dd K H v d) (hs : isS d = false) : wordOf v = none := by
  cases h <;> first | rfl | cases hs
theorem findR_w {v : V} (h : wordOf v = none) : ∀ rs : List (Str × Int), findR v rs = none
  | [] => rfl
  | r :: rs => (if_neg (fun q => by rw [h] at q; cases q)).trans (findR_w h rs)
theorem odd_ok : ∀ d ∈ odd1 ++ odd2, okD d = true := by decide +kernel
theorem odd_word (d : PyData) (hd : d ∈ odd1 ++ odd2) (u : Str) (e : d = .str u) : u ∉ ruleWords := by
  have h2 : ∀ d ∈ odd1 ++ odd2, (match d with | .str y => decide (y ∉ ruleWords) | _ => true) = true := by decide +kernel
  have := h2 d hd
  subst e
  exact of_decide_eq_true this
theorem oddW_ok : ∀ u ∈ oddW, okD (.str u) = true := by decide +kernel
theorem kvB_nodup {rs : List (Str × Int)} (h : (rs.map Prod.fst).Nodup) : ((kvB rs).map (·.1)).Nodup := by
  unfold kvB
  rw [List.map_map]
  have e : rs.map ((fun x : Key × V => x.1) ∘ fun r : Str × Int => ((Sum.inr r.1 : Key), V.int r.2)) = (rs.map Prod.fst).map (Sum.inr : Str → Key) := by rw [List.map_map]; rfl
  rw [e]
  exact List.Pairwise.map _ (fun a b n q => n (Sum.inr.inj q)) h
theorem mergeK_nd : ∀ (kvs acc : List (Key × V)), ((acc ++ kvs).map (·.1)).Nodup → mergeK acc kvs = acc ++ kvs
  | [], acc, _ => by rw [List.append_nil]; rfl
  | kv :: kvs, acc, h => by
    show mergeK (putK acc kv.1 kv.2) kvs = _
    have e : acc ++ kv :: kvs = (acc ++ [kv]) ++ kvs := by simp
    have hn : valV acc kv.1 = none := valV_none (fun q => by
      have h2 := h
      rw [List.map_append, List.map_cons, List.nodup_append] at h2
      exact h2.2.2 _ q _ (List.mem_cons_self ..) rfl)
    rw [putK_new _ hn, mergeK_nd kvs (acc ++ [(kv.1, kv.2)]) (by rw [show (kv.1, kv.2) = kv from rfl, ← e]; exact h), e]
section
variable {P : Program} {w : World} {K : Frag} {mg : Str → Option Value} {bs : Heap}
def Val9 (K : Frag) (H : Hp) (rs : List (Str × Int)) (v : V) : Prop := ∃ d, Dd K H v d ∧ okD d = true ∧ ∀ u, d = .str u → findR (.str u) rs = none
theorem Val9.ext {K : Frag} {H H' : Hp} {rs : List (Str × Int)} {v : V} (h : Val9 K H rs v) (e : ExtN H H') : Val9 K H' rs v := by
  obtain ⟨d, h1, h2, h3⟩ := h
  exact ⟨d, dd_ext e h1, h2, h3⟩
theorem Val9.parts {K : Frag} {H : Hp} {rs : List (Str × Int)} {v : V} (h : Val9 K H rs v) : ∃ d, Dd K H v d ∧ shOk d = true ∧ d.depth ≤ 60 ∧ d.shown.length ≤ sizeLine ∧ AskV K H v ∧ findR v rs = none ∧
    ((∃ u, v = .str u ∧ findR (.str u) rs = none) ∨ NoStr K H v) := by
  obtain ⟨d, h1, h2, h3⟩ := h
  unfold okD at h2
  obtain ⟨a1, h2⟩ := Bool.and_eq_true_iff.mp h2
  obtain ⟨a2, h2⟩ := Bool.and_eq_true_iff.mp h2
  obtain ⟨a3, h2⟩ := Bool.and_eq_true_iff.mp h2
  refine ⟨d, h1, a1, of_decide_eq_true a2, Nat.le_trans (of_decide_eq_true a3) (by decide), ?_⟩
  by_cases hS : isS d = true
  · obtain ⟨u, rfl⟩ : ∃ u, d = .str u := by cases d <;> first | exact ⟨_, rfl⟩ | cases hS
    cases h1
    exact ⟨.inl ⟨u, rfl⟩, h3 u rfl, .inl ⟨u, rfl, h3 u rfl⟩⟩
  · have hS2 : isS d = false := by simpa using hS
    have hw : wordOf v = none := dp_ref0 h1 hS2
    have hf : findR v rs = none := findR_w hw rs
    refine ⟨?_, hf, .inr (noStr_of h1 hS2)⟩
    rcases Bool.or_eq_true_iff.mp h2 with h2 | h2
    · obtain ⟨b1, b2⟩ := Bool.and_eq_true_iff.mp h2
      exact .inr (.inl ⟨d, dd_dp h1 b2, b1, hS2⟩)
    · cases h1 <;> first | cases h2 | skip
      exact .inr (.inr ⟨_, _, rfl, by assumption⟩)
theorem val9_of {K : Frag} {H : Hp} {rs : List (Str × Int)} {v : V} {d : PyData} (hb : BkOk rs) (h : Dd K H v d) (ho : okD d = true) (hw : ∀ u, d = .str u → u ∉ ruleWords) : Val9 K H rs v := ⟨d, h, ho, fun u e => findR_none hb (hw u e)⟩
theorem BookAt.but {B p : Addr} {H H' : Hp} {a : Addr} {z am : Str} {rs : List (Str × Int)} {k : Int} (h : BookAt B H a z am rs) (hP : Pot H p k) (n : a ≠ p) (b : But p H H') : BookAt B H' a z am rs := by
  obtain ⟨dx, t, ps, h1, h2, h3⟩ := h
  have pr := h3.but hP b
  obtain ⟨o, c, d, ep, _⟩ := hP
  exact ⟨dx, t, ps, b _ _ n h1, b _ _ (fun z => by rw [z, ep] at h2; cases h2) h2, pr⟩
theorem BookAt.ext {B : Addr} {H H' : Hp} {a : Addr} {z am : Str} {rs : List (Str × Int)} (h : BookAt B H a z am rs) (e : ExtN H H') : BookAt B H' a z am rs := by
  obtain ⟨dx, t, ps, h1, h2, h3⟩ := h
  exact ⟨dx, t, ps, e _ _ h1 (fun _ z => by cases z), e _ _ h2 (fun _ z => by cases z), h3.1, fun i a r x y => e _ _ (h3.2 i a r x y) (fun _ z => by cases z)⟩
theorem ask_test {K : Frag} {σ : St} {H : Hp} {F : Bool → Hp → Prop} {v : V} {N0 : Addr} {rs : List (Str × Int)} (h9 : σ[9]? = some (some v)) (h5 : σ[5]? = some (some (.ref N0))) (f : H N0 = some (.dK (kvB rs)))
    (hk : (∃ u, v = .str u ∧ findR (.str u) rs = none) ∨ NoStr K H v) (h : F true H) : (tOr (tNot (tB (tCB (rIsi K) (tCons (tVar 9) (tCons (tC (.ty "str")) tNil))))) (tTest (tDNotIn (tVar 9) (tVar 5)))) σ H F := by
  rcases hk with ⟨u, rfl, hf⟩ | ⟨n, hT, hk⟩
  · refine ⟨_, h9, .str u, .ty "str", .type "str", _, true, rfl, .ty "str", .base (.str u), kit_ty (by decide +kernel), _, rfl, ?_⟩
    refine Eq.mpr (if_neg (by decide)) ?_
    refine ⟨_, h9, _, h5, N0, _, rfl, kvB_has u f, _, rfl, ?_⟩
    rw [hf]
    exact h
  · refine ⟨_, h9, v, .ty "str", _, _, false, rfl, .ty "str", hT, kit_ty hk, _, rfl, ?_⟩
    exact Eq.mpr (if_pos rfl) h
/-- Book(z), z a drawn book's text -/
theorem rd_book {K : Frag} {B C : Addr} {H : Hp} {am : Str} {rs : List (Str × Int)} {R : Addr → Hp → Prop} (ham : am ∈ ams) (hbk : BkOk rs) (key : ∀ y H', H y = none → Same H H' → BookAt B H' y (Txt.join "\n" (bookLines am rs)) am rs → R y H') :
    ∀ x dx, H x = none → H dx = none → dx ≠ x → spInit K B C [.ref x, .str (Txt.join "\n" (bookLines am rs))] (upd (upd H dx (.own x)) x (.ins B dx [])) (fun v H2 => v = .non ∧ R x H2) (fun _ _ _ => False) := by
  intro x dx hx hdx ndx
  have lz1 : (Txt.join "\n" (bookLines am rs)).length ≤ 73 := Nat.le_trans (join_tot nl1 _) (lines_tot ham hbk)
  have bz1 := book_round ham hbk
  have sx1 : Same H (upd H dx (.own x)) := same_new hdx
  have hx1 : upd H dx (.own x) x = none := (upd_ne (Ne.symm ndx)).trans hx
  have sx2 : Same (upd H dx (.own x)) (upd (upd H dx (.own x)) x (.ins B dx [])) := same_new hx1
  have fx : upd (upd H dx (.own x)) x (.ins B dx []) x = some (.ins B dx []) := upd_same
  have s4 : Same H (upd (upd H dx (.own x)) x (.ins B dx [])) := sx1.trans sx2
  generalize upd (upd H dx (.own x)) x (.ins B dx []) = H4 at fx s4 ⊢
  refine ⟨x, dx, _, rfl, fx, .inr ⟨_, rfl, Nat.le_trans lz1 (by decide), fun n hm => (by rw [bz1] at hm; cases hm), fun a rs hm H5 tt qs kx ht0 hx5 ht5 pr5 => ?_⟩⟩
  rw [bz1] at hm
  cases hm
  exact ⟨rfl, key x H5 hx (fun b o e => kx b o (fun z => by rw [z, hx] at e; cases e) (s4 _ _ e)) ⟨dx, tt, qs, hx5, ht5, pr5⟩⟩
def spRight (K : Frag) (PT : Addr) : Sp := fun vs H Q _ => ∃ (p : Addr) (k : Int), vs = [.ref p] ∧ 0 ≤ k ∧ k < 800000 ∧ Pot H p k ∧ Tabs [(PT, qR)] H ∧
  ∀ H', ExtB p H H' → Pot H' p (k + 70) → Tabs [(PT, qR)] H' → Q (.bl true) H'
theorem scRight : FnScope ["pot", "lore", "other", "text", "book", "known", "told", "word", "odd", "value", "caught"] ["pot"] (defScope sRight) := ⟨rfl, rfl, rfl, by decide +kernel, rfl, by decide +kernel, by decide +kernel⟩
theorem ok_right {f c PT fB gL gH gG gE fTo fT fO fS fSB fFv fTx fOd fA fR1 fR fN fC B C CN D fI fIN : Addr} {fd fdB fdL fdH fdG fdE fdTo fdT fdO fdS fdSB fdFv fdTx fdOd fdA fdR1 fdR fdN fdC : FuncData}
    (FP : FD K "_law_right" sRight f fd) (hc : fd.code = .ref c) (TB : TabB bs mg c PT)
    (F : FxRt K mg B C CN D fI fIN fB) (FK : FxBk K mg B gL gH gG gE) (FR0 : FxRule K w mg) (FI : FxIsi K mg B) (FDx : Dx mg) (gEnu : mg "enumerate" = none)
    (FTo : FD K "_law_told" sTold fTo fdTo) (gTo : mg "_law_told" = some (.ref fTo)) (bTo : Binds K fdTo ["look"] [])
    (FT : FD K "_law_take" sTake fT fdT) (gT : mg "_law_take" = some (.ref fT)) (bT : Binds K fdT ["pot", "upto"] [])
    (FO : FD K "_law_of" sOf fO fdO) (gO : mg "_law_of" = some (.ref fO)) (bO : Binds K fdO ["pot", "some"] [])
    (FS : FD K "_law_some" sSome fS fdS) (gS : mg "_law_some" = some (.ref fS)) (bS : Binds K fdS ["pot", "pool", "many"] [])
    (FSB : FD K "_law_some_book" sSomeB fSB fdSB) (gSB : mg "_law_some_book" = some (.ref fSB)) (bSB : Binds K fdSB ["pot", "words", "most"] [])
    (FFv : FD K "_law_five" sFive fFv fdFv) (gFv : mg "_law_five" = some (.ref fFv)) (bFv : Binds K fdFv ["pot"] [])
    (FTx : FD K "_law_book_text" sText fTx fdTx) (gTx : mg "_law_book_text" = some (.ref fTx)) (bTx : Binds K fdTx ["book"] [])
    (FOd : FD K "_law_odd" sOdd fOd fdOd) (gOd : mg "_law_odd" = some (.ref fOd)) (bOd : Binds K fdOd ["pot"] [])
    (FB : Fun K "__init__" "Book.__init__" sBook fB fdB) (bB : Binds K fdB ["self", "text"] [])
    (FL : Fun K "__len__" "Book.__len__" sBLen gL fdL) (bL : Binds K fdL ["self"] [])
    (FH : Fun K "__contains__" "Book.__contains__" sBHas gH fdH) (bH : Binds K fdH ["self", "value"] [])
    (FG : Fun K "__getitem__" "Book.__getitem__" sBGet gG fdG) (bG : Binds K fdG ["self", "word"] [])
    (FE : Fun K "__eq__" "Book.__eq__" sBEq gE fdE) (bE : Binds K fdE ["self", "other"] [])
    (FA : FD K "read_among" sAmong fA fdA) (gA : mg "read_among" = some (.ref fA)) (bA : Binds K fdA ["line"] [])
    (FS1 : FD K "read_rules" sRules fR1 fdR1) (gS1 : mg "read_rules" = some (.ref fR1)) (bS1 : Binds K fdR1 ["lines", "first"] [])
    (FR : FD K "read_rule" sRule fR fdR) (gR : mg "read_rule" = some (.ref fR)) (bR : Binds K fdR ["line"] [])
    (FN : FD K "number_in" sNum fN fdN) (gN : mg "number_in" = some (.ref fN)) (bN : Binds K fdN ["word", "low", "high"] [])
    (FC : FD K "consists_of" sCons fC fdC) (gC : mg "consists_of" = some (.ref fC)) (bC : Binds K fdC ["text", "signs"] []) : FnG P w K mg bs CX0 9 f fd ["pot"] (spRight K PT) := by
  have sc := scRight
  have GB : FnOk P w K mg bs (L2.CX P w) 5 fB fdB ["self", "text"] (spInit K B C) := ok_init FB F.init FR0 gEnu F.bad F.gBad FA gA bA FS1 gS1 bS1 FR gR bR FN gN bN FC gC bC
  have GF : FnOk P w K mg bs CX0 4 fFv fdFv ["pot"] (spFive K) := ok_five FFv FDx FT gT bT FO gO bO FS gS bS FSB gSB bSB
  have GTx : FnOk P w K mg bs CX0 1 fTx fdTx ["book"] (spText K) := ok_text FTx F.str
  have GOd : FnOk P w K mg bs CX0 3 fOd fdOd ["pot"] (spOdd K) := ok_odd FOd FDx FT gT bT FO gO bO
  have GO : FnOk P w K mg bs CX0 2 fO fdO ["pot", "some"] (spOf K) := ok_of FO FDx FT gT bT
  have RL := raw0 (ok_bLen (P := P) (w := w) (mg := mg) (bs := bs) FL F.init F.len) bL
  have RH := raw0 (ok_bHas (P := P) (w := w) (mg := mg) (bs := bs) FH F.init F.str) bH
  have RG := raw0 (ok_bGet (P := P) (w := w) (mg := mg) (bs := bs) FG F.init F.non F.gNon) bG
  have RE := raw0 (ok_bEq (P := P) (w := w) (mg := mg) (bs := bs) FE F.init FI) bE
  obtain ⟨oc, od, kV, doc, pm, an, cdv, ct, osl, rfl, lk, hcd⟩ := FTo.ex
  refine okGC FP hc scRight (fun vs H Q E h => ?_) (fun A outer s H vs Q E gd hr h => ?_)
  · obtain ⟨p, k, rfl, _⟩ := h
    rfl
  · obtain ⟨p, t, rfl, t0, ht, hP, hT, k⟩ := h
    have hr1 : Room 1 (A.deeper (envOfC "_law_right" (defScope sRight) s.heap.objs.size f (.ref c))) := hr.mono (by decide)
    have hr2 : Room 2 (A.deeper (envOfC "_law_right" (defScope sRight) s.heap.objs.size f (.ref c))) := hr.mono (by decide)
    have hr3 : Room 3 (A.deeper (envOfC "_law_right" (defScope sRight) s.heap.objs.size f (.ref c))) := hr.mono (by decide)
    have hr4 : Room 4 (A.deeper (envOfC "_law_right" (defScope sRight) s.heap.objs.size f (.ref c))) := hr.mono (by decide)
    have hr6 : Room 6 (A.deeper (envOfC "_law_right" (defScope sRight) s.heap.objs.size f (.ref c))) := hr.mono (by decide)
    have hu := hu_of hr
    refine ⟨_, pss_cons (ps_par (i := 1) (j := 2) rfl sc.nd rfl rfl (by decide) rfl rfl
        (pa_cons (pe_call GF hr4 (by rfl) gFv FFv.kp bFv .nil pass0 (pa_cons (pv 0) pa_nil)) (pa_cons (pe_call GF hr4 (by rfl) gFv FFv.kp bFv .nil pass0 (pa_cons (pv 0) pa_nil)) pa_nil)) rfl)
      (pss_cons (ps_set (i := 3) sc.nd rfl (Or.inl rfl) (pe_call GTx hr1 (by rfl) gTx FTx.kp bTx .nil pass0 (pa_cons (pv 1) pa_nil)))
      (pss_cons (ps_asg (pe_tup (pa_cons (pe_make F.mkB GB hr6 (by rfl) F.gBook bB .nil passN (pa_cons (pv 3) pa_nil)) (pa_cons (pe_callTy (call_dictP rfl) (by rfl) F.dict boot_dict (pa_cons (pe_dget hu (pv 1) pe_str (fun _ _ => rfl)) pa_nil)) pa_nil)))
          (pg_tup rfl (pgs_cons (pg_name (i := 4) sc.nd rfl (Or.inr rfl)) (pgs_cons (pg_name (i := 5) sc.nd rfl (Or.inr rfl)) pgs_nil))))
      (pss_cons (ps_set (i := 6) sc.nd rfl (Or.inl rfl) (pe_tup (pa_cons (pe_fld (pv 4) rfl) (pa_cons (pe_fld (pv 4) rfl) (pa_cons (pe_fld (pv 4) rfl) (pa_cons (pe_callB (call_lenOwn FK.sL FK.fL RL hr2 pass0) (by rfl) F.len boot_len (pa_cons (pv 4) pa_nil)) pa_nil))))))
      (pss_cons (ps_if (pt_cmpR op_ne (pe_callB (call_repr gd hr.units) (by rfl) F.rep boot_repr (pa_cons (pv 6) pa_nil))
            (pe_callB (call_repr gd hr.units) (by rfl) F.rep boot_repr (pa_cons (pe_tup (pa_cons (pv 3) (pa_cons (pe_dget hu (pv 1) pe_str (fun _ _ => rfl)) (pa_cons (pe_callTy call_tuple_of (by rfl) F.init.tup boot_tuple (pa_cons (pe_dget hu (pv 1) pe_str (fun _ _ => rfl)) pa_nil))
              (pa_cons (pe_callB call_lenD (by rfl) F.len boot_len (pa_cons (pv 5) pa_nil)) pa_nil))))) pa_nil)) (nomark _))
          (pss_one (ps_ret pe_bl)) pss_nil)
      (pss_cons (ps_for (passes_of rfl) rfl (pi_tup (pe_tup (pa_cons pe_str (pa_cons pe_str (pa_cons pe_str (pa_cons pe_str (pa_cons pe_str pa_nil))))))) (pg_name (i := 7) sc.nd rfl (Or.inl rfl))
        (pss_one (ps_if (PW.pt (pw_or (pt_cmpR op_ne (pe_cmpR (op_inOwn FK.sH FK.fH RH hr1 pass0) (pv 7) (pv 4) rfl) (pe_cmp (pc_din hu (pv 7) (pv 5))) (nomark _))
            (pw_or1 (PW.pt (pw_and (pt_cmp (pc_din hu (pv 7) (pv 5))) (pw_and1 (pt_cmpR op_ne (pe_itemOwn FK.sG FK.nG FK.fG RG hr3 passN (pv 4) (pv 7)) (pe_dget hu (pv 5) (pv 7) (fun _ _ => rfl)) (nomark _))))))))
          (pss_one (ps_ret pe_bl)) pss_nil)))
      (pss_cons (ps_set (i := 8) sc.nd rfl (Or.inl rfl) (pe_call GO hr2 (by rfl) gO FO.kp bO .nil pass0 (pa_cons (pv 0) (pa_cons
          (pe_lc (own := [("word", 7)]) (g := gName 7) (by rfl) sc.nd (pi_list (pe_lst (pa_cons pe_str (pa_cons pe_str (pa_cons pe_str (pa_cons pe_str (pa_cons pe_str pa_nil))))))) (blkOk_by (N := ["pot", "lore", "other", "text", "book", "known", "told", "word", "odd", "value", "caught"]) (sc := defScope sRight) (by decide +kernel))
            (fun _ _ _ _ _ => pg_name (i := 7) sc.nd rfl (Or.inl rfl)) (fun _ _ _ _ _ => pts_one (pt_cmp (pc_dnotin hu (pv 7) (pv 5)))) (fun _ _ _ _ _ => pv 7)) pa_nil))))
      (pss_cons (ps_for (passes_of rfl) rfl (pi_tup (pe_tup (pa_cons (pv 8) (pa_cons pe_str (pa_cons pe_str (pa_cons pe_non (pa_cons pe_int (pa_cons pe_bl (pa_cons (pe_tup (pa_cons pe_str pa_nil)) (pa_cons (pe_lst (pa_cons pe_str pa_nil))
            (pa_cons (pe_call GOd hr3 (by rfl) gOd FOd.kp bOd .nil pass0 (pa_cons (pv 0) pa_nil)) pa_nil))))))))))) (pg_name (i := 9) sc.nd rfl (Or.inr rfl))
        (pss_one (ps_if (PW.pt (pw_or (pt_not (pt_val (pe_callB call_isi (by rfl) F.init.isi boot_isinstance (pa_cons (pv 9) (pa_cons (pe_bltn (v := .ty "str") (by rfl) F.str boot_str rfl) pa_nil)))))
            (pw_or1 (pt_cmp (pc_dnotin hu (pv 9) (pv 5))))))
          (pss_cons (ps_set (i := 10) sc.nd rfl (Or.inl rfl) (pe_ix ix_tup (pe_lam2 (T := [(PT, qR)]) (TT := TTold K D) (Ng := toldN) (k := 6) (t := fun E => tItemOwn B (spBGet K B CN) E (tVar 4) (tVar 9)) (by rfl) gTo FTo.kp lk hcd bTo ⟨rfl, rfl, rfl, by decide +kernel, rfl, by decide +kernel, by decide +kernel⟩ rfl (.inl rfl)
              (told_gives2 F.gDraw (fun _ => rfl)) TB rfl (List.mem_singleton.mpr rfl) (fun p hp _ => by rw [List.mem_singleton.mp hp]; rfl) hr (show LamS (defScope sRight) _ from lamS_by (by decide +kernel)) rfl (fun _ _ _ _ _ => rfl)
              (fun A outer s H E f c' hr => pe_itemOwn FK.sG FK.nG FK.fG RG (hr.mono (by decide)) (fun pins σ H s e s' I z => (takes_of rfl rfl rfl rfl) e s' (XE.of_call I (fun _ _ _ h => h) z)) (pv 4) (pv 9))) pe_int (fun _ _ => rfl)))
          (pss_one (ps_if (PW.pt (pw_or (pt_not (pt_val (pe_callB call_isX (by rfl) F.init.isi boot_isinstance (pa_cons (pv 10) (pa_cons (pe_ref F.gNon) pa_nil)))))
              (pw_or (pt_cmpR op_ne (pe_callB (call_repr gd hr.units) (by rfl) F.rep boot_repr (pa_cons (pe_val (pv 10)) pa_nil)) (pe_callB (call_repr gd hr.units) (by rfl) F.rep boot_repr (pa_cons (pv 9) pa_nil)) (nomark _))
              (pw_or1 (pt_cmpR op_isnotB (pe_cmpR (op_inOwn FK.sH FK.fH RH hr1 pass0) (pv 9) (pv 4) rfl) pe_bl (nomark _))))))
            (pss_one (ps_ret pe_bl)) pss_nil)))
          pss_nil)))
      (pss_cons (ps_if (PW.pt (pw_or (pt_cmpR (op_eqOwn FK.sE FK.fE RE hr1 pass0) (pv 4) (pv 3) (nomark _))
            (pw_or (pt_cmpR (op_eqOwn FK.sE FK.fE RE hr1 pass0) (pv 4) pe_non (nomark _))
            (pw_or1 (pt_not (pt_cmpR (op_eqOwn FK.sE FK.fE RE hr1 pass0) (pv 4) (pe_make F.mkB GB hr6 (by rfl) F.gBook bB .nil passN (pa_cons (pv 3) pa_nil)) (nomark _)))))))
          (pss_one (ps_ret pe_bl)) pss_nil)
      (pss_one (ps_ret (pe_cmpR op_eq (pe_cmpR (op_eqOwn FK.sE FK.fE RE hr1 pass0) (pv 4) (pe_make F.mkB GB hr6 (by rfl) F.gBook bB .nil passN (pa_cons (pe_call GTx hr1 (by rfl) gTx FTx.kp bTx .nil pass0 (pa_cons (pv 2) pa_nil)) pa_nil)) (nomark _))
          (pe_cmpR op_eq (pv 3) (pe_call GTx hr1 (by rfl) gTx FTx.kp bTx .nil pass0 (pa_cons (pv 2) pa_nil)) (nomark _)) (nomark _)))))))))))), ?_⟩
    refine rd_seq ?_
    refine ⟨_, rfl, p, t, rfl, t0, by omega, hP, fun H1 D1 R1 ps1 rs1 am1 k1 hP1 hD10 hR10 hD1 hR1 pr1 ham1 hbk1 => ?_⟩
    refine ⟨_, rfl, p, t + 30, rfl, by omega, by omega, hP1, fun H2 D2 R2 ps2 rs2 am2 k2 hP2 hD20 hR20 hD2 hR2 pr2 ham2 hbk2 => ?_⟩
    refine ⟨_, _, rfl, ?_⟩
    have nD1 : D1 ≠ p := hP.ne hD10
    have nR1 : R1 ≠ p := hP.ne hR10
    have hD1' := k2 _ _ nD1 hD1
    have hR1' := k2 _ _ nR1 hR1
    have pr1' := pr1.but hP1 k2
    have hT2 := tabs_but (tabs_but hT hP k1) hP1 k2
    have e2 : ExtB p H H2 := ExtB.of (k1.trans k2)
    have hR2p : R2 ≠ p := hP1.ne hR20
    clear hD1 hR1 pr1 hT k1 k2 hP hP1 hD10 hR10 hD20 hR20
    dsimp only
    refine rd_seq (rd_set ?_)
    refine ⟨_, rfl, D1, R1, ps1, rs1, am1, rfl, hD1', hR1', pr1', ham1, hbk1, fun H3 s3 => ?_⟩
    have lz1 : (Txt.join "\n" (bookLines am1 rs1)).length ≤ 73 := Nat.le_trans (join_tot nl1 _) (lines_tot ham1 hbk1)
    have bz1 := book_round ham1 hbk1
    dsimp only
    refine rd_seq ?_
    refine ⟨_, rfl, fun x dx hx hdx ndx => ?_⟩
    have sx1 : Same H3 (upd H3 dx (.own x)) := same_new hdx
    have hx1 : upd H3 dx (.own x) x = none := (upd_ne (Ne.symm ndx)).trans hx
    have sx2 : Same (upd H3 dx (.own x)) (upd (upd H3 dx (.own x)) x (.ins B dx [])) := same_new hx1
    have fx : upd (upd H3 dx (.own x)) x (.ins B dx []) x = some (.ins B dx []) := upd_same
    have s4 : Same H3 (upd (upd H3 dx (.own x)) x (.ins B dx [])) := sx1.trans sx2
    generalize upd (upd H3 dx (.own x)) x (.ins B dx []) = H4 at fx s4 ⊢
    clear sx1 sx2 hx1 hdx ndx
    have s34 := s3.trans s4
    have nxp : x ≠ p := (hP2.same s3).ne hx
    refine ⟨x, dx, _, rfl, fx, .inr ⟨_, rfl, Nat.le_trans lz1 (by decide), fun n hm => (by rw [bz1] at hm; cases hm), fun a rs hm H5 tt qs kx ht0 hx5 ht5 pr5 => ?_⟩⟩
    rw [bz1] at hm
    cases hm
    refine ⟨rfl, ?_⟩
    have bk5 : BookAt B H5 x (Txt.join "\n" (bookLines am1 rs1)) am1 rs1 := ⟨dx, tt, qs, hx5, ht5, pr5⟩
    have s35 : Same H3 H5 := fun b o e => kx b o (fun z => by rw [z, hx] at e; cases e) (s4 _ _ e)
    have s5 : Same H2 H5 := s3.trans s35
    have hD5 := s5 _ _ hD1'
    have hR5 := s5 _ _ hR1'
    have pr1n := pr1'.same s5
    clear hx kx ht0 hx5 ht5 pr5 bz1 fx s34 s4 s35
    refine ⟨_, rfl, D1, .ref R1, rfl, DGet.k (k := Sum.inr "rules") hD5, R1, ps1, kvB rs1, rfl, SqL.of hR5, pr_paired pr1n, fun N0 hN0 => ?_⟩
    rw [mergeK_nd (kvB rs1) [] (kvB_nodup hbk1.nodup), List.nil_append]
    have s6 : Same H5 (upd H5 N0 (.dK (kvB rs1))) := same_new hN0
    have fN : upd H5 N0 (.dK (kvB rs1)) N0 = some (.dK (kvB rs1)) := upd_same
    have nNp : N0 ≠ p := (hP2.same s5).ne hN0
    generalize upd H5 N0 (.dK (kvB rs1)) = H6 at s6 fN ⊢
    refine ⟨(by exact (by decide : 2 ≤ sizeLine)), fun T0 hT0 => ?_⟩
    have s7 : Same H6 (upd H6 T0 (.tup [.ref x, .ref N0])) := same_new hT0
    have fT0 : upd H6 T0 (.tup [.ref x, .ref N0]) T0 = some (.tup [.ref x, .ref N0]) := upd_same
    generalize upd H6 T0 (.tup [.ref x, .ref N0]) = H7 at s7 fT0 ⊢
    refine ⟨T0, [.ref x, .ref N0], rfl, SqT.of fT0, rfl, _, _, rfl, _, _, rfl, rfl, ?_⟩
    have s57 := s6.trans s7
    have s27 := s5.trans s57
    have bk7 := bk5.same s57
    have fN7 := s7 _ _ fN
    clear fT0 fN bk5 hD5 hR5 pr1n hN0 hT0
    dsimp only
    refine rd_seq (rd_set ?_)
    obtain ⟨dx7, tt7, qs7, hx7, ht7, pr7⟩ := bk7
    have bk7 : BookAt B H7 x (Txt.join "\n" (bookLines am1 rs1)) am1 rs1 := ⟨dx7, tt7, qs7, hx7, ht7, pr7⟩
    have l5 := hbk1.len
    refine ⟨_, rfl, x, B, dx7, _, _, rfl, hx7, F.init.cls, F.init.nT, bookF_text _ _ _, ?_⟩
    refine ⟨_, rfl, x, B, dx7, _, _, rfl, hx7, F.init.cls, F.init.nA, bookF_among _ _ _, ?_⟩
    refine ⟨_, rfl, x, B, dx7, _, _, rfl, hx7, F.init.cls, F.init.nR, bookF_rules _ _ _, ?_⟩
    refine ⟨_, rfl, x, dx7, _, rfl, hx7, x, _, _, _, rfl, bk7, fun H8 s8 => ⟨_, rfl, by omega, by omega, ?_⟩⟩
    refine ⟨(by exact (by decide : 4 ≤ sizeLine)), fun U hU => ?_⟩
    have s9 : Same H8 (upd H8 U (.tup [.str (Txt.join "\n" (bookLines am1 rs1)), .str am1, .ref tt7, .int (rs1.length : Nat)])) := same_new hU
    have fU : upd H8 U (.tup [.str (Txt.join "\n" (bookLines am1 rs1)), .str am1, .ref tt7, .int (rs1.length : Nat)]) U = some (.tup [.str (Txt.join "\n" (bookLines am1 rs1)), .str am1, .ref tt7, .int (rs1.length : Nat)]) := upd_same
    generalize upd H8 U (.tup [.str (Txt.join "\n" (bookLines am1 rs1)), .str am1, .ref tt7, .int (rs1.length : Nat)]) = H9 at s9 fU ⊢
    have s79 := s8.trans s9
    have s29 := s27.trans s79
    have bk9 := bk7.same s79
    have fN9 := s79 _ _ fN7
    have ht9 := s79 _ _ ht7
    have pr9 := pr7.same s79
    have hD9 := s29 _ _ hD1'
    have hR9 := s29 _ _ hR1'
    have prl9 := pr1'.same s29
    obtain ⟨o1, o2, o3⟩ := bkDat_ok ham1 hbk1
    clear hx7 ht7 pr7 bk7 fN7 s8 s9 s79 hU
    dsimp only
    refine rd_seq (rd_if ?_)
    refine ⟨_, rfl, .ref U, bkDat (Txt.join "\n" (bookLines am1 rs1)) am1 rs1 rs1.length, rfl, .tup (SqT.of fU) (.cons (.str _) (.cons (.str _) (.cons (.tup (SqT.of ht9) (pr_dd pr9)) (.cons (.int _) .nil)))), o1, o2, o3, ?_⟩
    refine ⟨_, rfl, _, rfl, D1, .str am1, rfl, DGet.k (k := Sum.inr "among") hD9, _, rfl, D1, .ref R1, rfl, DGet.k (k := Sum.inr "rules") hD9, R1, _, rfl, .inl ⟨SqL.of hR9, fun V0 hV0 => ?_⟩⟩
    have s10 : Same H9 (upd H9 V0 (.tup (ps1.map V.ref))) := same_new hV0
    have fV : upd H9 V0 (.tup (ps1.map V.ref)) V0 = some (.tup (ps1.map V.ref)) := upd_same
    generalize upd H9 V0 (.tup (ps1.map V.ref)) = H10 at s10 fV ⊢
    have lk1 : (kvB rs1).length = rs1.length := by unfold kvB; rw [List.length_map]
    refine ⟨_, rfl, N0, kvB rs1, rfl, s10 _ _ fN9, (by exact (by decide : 4 ≤ sizeLine)), fun W0 hW0 => ?_⟩
    rw [lk1]
    have s11 : Same H10 (upd H10 W0 (.tup [.str (Txt.join "\n" (bookLines am1 rs1)), .str am1, .ref V0, .int (rs1.length : Nat)])) := same_new hW0
    have fW : upd H10 W0 (.tup [.str (Txt.join "\n" (bookLines am1 rs1)), .str am1, .ref V0, .int (rs1.length : Nat)]) W0 = some (.tup [.str (Txt.join "\n" (bookLines am1 rs1)), .str am1, .ref V0, .int (rs1.length : Nat)]) := upd_same
    generalize upd H10 W0 (.tup [.str (Txt.join "\n" (bookLines am1 rs1)), .str am1, .ref V0, .int (rs1.length : Nat)]) = H11 at s11 fW ⊢
    have s911 := s10.trans s11
    refine ⟨.ref W0, bkDat (Txt.join "\n" (bookLines am1 rs1)) am1 rs1 rs1.length, rfl, .tup (SqT.of fW) (.cons (.str _) (.cons (.str _) (.cons (.tup (SqT.of (s11 _ _ fV)) (pr_dd (prl9.same s911))) (.cons (.int _) .nil)))), o1, o2, o3, ?_⟩
    refine ⟨rfl, _, rfl, ?_⟩
    refine Eq.mpr (if_neg (nt rfl)) ?_
    have s2b := s29.trans s911
    have bkb := bk9.same s911
    have fNb := s911 _ _ fN9
    clear o1 o2 o3 fU fV fW s10 s11 s911 bk9 fN9 ht9 pr9 hD9 hR9 prl9 hV0 hW0 s29
    dsimp only [tNext]
    refine rd_seq ?_
    refine ⟨(by exact (by decide : 5 ≤ sizeLine)), fun L hL => ?_⟩
    have s12 : Same H11 (upd H11 L (.tup [.str "corner", .str "wall", .str "level", .str "straight", .str "grid"])) := same_new hL
    have fL : upd H11 L (.tup [.str "corner", .str "wall", .str "level", .str "straight", .str "grid"]) L = some (.tup (ruleWords.map V.str)) := upd_same
    generalize upd H11 L (.tup [.str "corner", .str "wall", .str "level", .str "straight", .str "grid"]) = H12 at s12 fL ⊢
    refine ⟨L, rfl, ⟨_, SqT.of fL⟩, for_it (walk_tup (K := K) (a := L) (xs := ruleWords.map V.str)) (fun i σ H' => ∃ v7 : Option V, σ = [some (.ref p), some (.ref D1), some (.ref D2), some (.str (Txt.join "\n" (bookLines am1 rs1))), some (.ref x), some (.ref N0), some (.ref U), v7, none, none, none] ∧ Same H12 H') ⟨none, rfl, Same.refl _⟩ (fun i σ H' _ u => ?_) ?_ ?_⟩
    · obtain ⟨_, _, u⟩ := u
      exact SqT.of (u _ _ fL)
    · rintro i y σ H13 H14 hi ⟨v7, rfl, sa⟩ ⟨rfl, hy⟩
      have hi' : i < ruleWords.length := by simpa using hi
      rw [List.getElem?_map, List.getElem?_eq_getElem hi'] at hy
      cases hy
      generalize ruleWords[i] = u
      have sb := s12.trans sa
      have bkc := bkb.same sb
      have fNc := sb _ _ fNb
      have hl5 : rs1.length ≤ 100 := by omega
      obtain ⟨dx8, tt8, qs8, hx8, ht8, pr8⟩ := bkc
      have bkc : BookAt B H14 x (Txt.join "\n" (bookLines am1 rs1)) am1 rs1 := ⟨dx8, tt8, qs8, hx8, ht8, pr8⟩
      refine rd_if ?_
      refine ⟨_, rfl, _, rfl, x, dx8, _, rfl, hx8, ⟨x, .str u, _, _, rs1, rfl, bkc, hl5, .inr ⟨u, rfl, fun H15 s15 => ⟨_, rfl, ?_⟩⟩⟩⟩
      have fNd := s15 _ _ fNc
      refine ⟨_, rfl, _, rfl, N0, _, rfl, kvB_has u fNd, rfl, _, rfl, ?_⟩
      rw [Option.isSome_map, findR_some]
      refine Eq.mpr (if_neg (nt rfl)) ?_
      refine ⟨_, rfl, _, rfl, N0, _, rfl, kvB_has u fNd, _, rfl, ?_⟩
      have bkd := bkc.same s15
      have hxd := s15 _ _ hx8
      cases hf : findR (.str u) rs1 with
      | none =>
        refine Eq.mpr (if_neg (by decide)) ?_
        refine Eq.mpr (if_neg (by decide)) ?_
        exact ⟨_, rfl, sa.trans s15⟩
      | some n =>
        refine Eq.mpr (if_pos rfl) ?_
        refine ⟨_, rfl, _, rfl, x, dx8, _, rfl, hxd, ⟨x, .str u, _, _, rs1, rfl, bkd, .inl ⟨u, rfl⟩, fun r hr => word_shaped _ (hbk1.word hr), fun m hm H16 s16 => ?_, fun hm => (by rw [hf] at hm; cases hm)⟩⟩
        rw [hf] at hm
        cases hm
        refine ⟨_, rfl, _, rfl, N0, .int n, rfl, kvB_get (s16 _ _ fNd) hf, rfl, _, rfl, ?_⟩
        refine Eq.mpr (if_neg (nt rfl)) ?_
        exact ⟨_, rfl, (sa.trans s15).trans s16⟩
    · rintro σ H13 ⟨v7, rfl, sa⟩
      have s2c := (s2b.trans s12).trans sa
      have sb := s12.trans sa
      have bkc := bkb.same sb
      have fNc := sb _ _ fNb
      clear fNb bkb sb fL s12 s2b
      dsimp only
      refine rd_seq (rd_set ?_)
      refine ⟨_, rfl, ?_⟩
      refine ⟨(by exact (by decide : 5 ≤ sizeLine)), fun M hM => ?_⟩
      have s14 : Same H13 (upd H13 M (.lst [.str "corner", .str "wall", .str "level", .str "grid", .str "among"])) := same_new hM
      have fM : upd H13 M (.lst [.str "corner", .str "wall", .str "level", .str "grid", .str "among"]) M = some (.lst (oddW.map V.str)) := upd_same
      generalize upd H13 M (.lst [.str "corner", .str "wall", .str "level", .str "grid", .str "among"]) = H14 at s14 fM ⊢
      have fNd := s14 _ _ fNc
      refine ⟨M, rfl, ⟨_, SqL.of fM⟩, fun E1 hE => lc_it (walk_list (K := K) (a := M) (xs := oddW.map V.str)) (fun j H' => Same H14 H' ∧ H' E1 = some (.lst (((oddW.take j).filter fun u => (findR (.str u) rs1).isNone).map V.str))) ⟨same_new hE, upd_same⟩ (fun _ _ _ u => SqL.of (u.1 _ _ fM)) ?_ ?_⟩
      · rintro j y H15 H16 hj ⟨s16, d16⟩ ⟨rfl, hy⟩
        have hj' : j < oddW.length := by simpa using hj
        rw [List.getElem?_map, List.getElem?_eq_getElem hj'] at hy
        cases hy
        have htake : oddW.take (j + 1) = oddW.take j ++ [oddW[j]] := by rw [List.take_succ, List.getElem?_eq_getElem hj']; rfl
        rw [htake, List.filter_append]
        generalize oddW[j] = u at htake ⊢
        refine ⟨rfl, ?_⟩
        refine ⟨_, rfl, _, rfl, N0, _, rfl, kvB_has u (s16 _ _ fNd), _, rfl, ?_⟩
        rw [Option.isSome_map]
        cases hf : findR (.str u) rs1 with
        | none =>
          refine Eq.mpr (if_pos rfl) ?_
          refine ⟨_, rfl, _, d16, ?_, s16.mut hE, ?_⟩
          · rw [List.length_map]
            exact Nat.lt_of_le_of_lt (Nat.le_trans (List.length_filter_le _ _) (by rw [List.length_take]; exact Nat.min_le_right ..)) (by decide : oddW.length < sizeLine)
          · rw [upd_same, List.filter_cons, hf, List.map_append]
            rfl
        | some n =>
          refine Eq.mpr (if_neg Bool.false_ne_true) ?_
          rw [List.filter_cons, hf]
          refine ⟨s16, ?_⟩
          rw [d16]
          simp
      · rintro H15 ⟨s15, d15⟩
        rw [List.length_map, List.take_length] at d15
        have s25 := (s2c.trans s14).trans s15
        have sb := s14.trans s15
        have bkd := bkc.same sb
        have fNe := sb _ _ fNc
        have nE1p : E1 ≠ p := (hP2.same (s2c.trans s14)).ne hE
        have hamong : (Str.ofString "among") ∈ oddW.filter fun u => (findR (.str u) rs1).isNone := List.mem_filter.mpr ⟨by decide +kernel, by rw [findR_none hbk1 (by decide +kernel)]; rfl⟩
        have hne : 0 < (oddW.filter fun u => (findR (.str u) rs1).isNone).length := List.length_pos_of_mem hamong
        have hle : (oddW.filter fun u => (findR (.str u) rs1).isNone).length ≤ 5 := List.length_filter_le _ _
        refine ⟨p, E1, _, t + 60, rfl, nE1p, SqL.of d15, by rw [List.length_map]; exact hne, by rw [List.length_map]; omega, by omega, (hP2.same s25).mono (by omega), fun H16 vo k16 hP16 hvo => ?_⟩
        obtain ⟨uo, huo, rfl⟩ := List.mem_map.mp hvo
        obtain ⟨huo1, huo2⟩ := List.mem_filter.mp huo
        have hfo : findR (.str uo) rs1 = none := Option.isNone_iff_eq_none.mp huo2
        clear hamong hne hle hvo huo huo2
        dsimp only
        refine rd_seq ?_
        have s2e : Same H14 H15 := s15
        refine ⟨_, rfl, (by exact (by decide : 1 ≤ sizeLine)), fun A1 hA1 => ?_⟩
        have t1 : Same H16 (upd H16 A1 (.tup [.str "level"])) := same_new hA1
        have f1 : upd H16 A1 (.tup [.str "level"]) A1 = some (.tup [.str "level"]) := upd_same
        have nA1 : A1 ≠ p := hP16.ne hA1
        generalize upd H16 A1 (.tup [.str "level"]) = G1 at t1 f1 ⊢
        refine ⟨(by exact (by decide : 1 ≤ sizeLine)), fun A2 hA2 => ?_⟩
        have t2 : Same G1 (upd G1 A2 (.lst [.str "grid"])) := same_new hA2
        have f2 : upd G1 A2 (.lst [.str "grid"]) A2 = some (.lst [.str "grid"]) := upd_same
        have hP17 := (hP16.same t1).same t2
        have nA2 : A2 ≠ p := (hP16.same t1).ne hA2
        have f1' := t2 _ _ f1
        generalize upd G1 A2 (.lst [.str "grid"]) = G2 at t2 f2 hP17 f1' ⊢
        refine ⟨_, rfl, p, t + 61, rfl, by omega, hP17.mono (by omega), fun G3 vO dO k3 hP18 hdO hvO => ?_⟩
        have f1'' := k3 _ _ nA1 f1'
        have f2' := k3 _ _ nA2 f2
        have kE : But p H13 G3 := (But.of sb).trans (k16.trans ((But.of t1).trans ((But.of t2).trans k3)))
        have fNf := kE _ _ nNp fNc
        have bkf : BookAt B G3 x (Txt.join "\n" (bookLines am1 rs1)) am1 rs1 := bkc.but (hP2.same s2c) nxp kE
        refine ⟨(by exact (by decide : 9 ≤ sizeLine)), fun L9 hL9 => ?_⟩
        have t9 : Same G3 (upd G3 L9 (.tup [.str uo, .str "Level", .str "", .non, .int 0, .bl true, .ref A1, .ref A2, vO])) := same_new hL9
        have f9 : upd G3 L9 (.tup [.str uo, .str "Level", .str "", .non, .int 0, .bl true, .ref A1, .ref A2, vO]) L9 = some (.tup [.str uo, .str "Level", .str "", .non, .int 0, .bl true, .ref A1, .ref A2, vO]) := upd_same
        have f1g := t9 _ _ f1''
        have f2g := t9 _ _ f2'
        have fNg := t9 _ _ fNf
        have bkg := bkf.same t9
        have hPg := hP18.same t9
        have hvg := Dd_keep (awy_le.trans t9) hvO
        have kG : But p H13 (upd G3 L9 (.tup [.str uo, .str "Level", .str "", .non, .int 0, .bl true, .ref A1, .ref A2, vO])) := kE.trans (But.of t9)
        generalize upd G3 L9 (.tup [.str uo, .str "Level", .str "", .non, .int 0, .bl true, .ref A1, .ref A2, vO]) = G4 at f9 f1g f2g fNg bkg hPg hvg kG ⊢
        have hTg : Tabs [(PT, qR)] G4 := tabs_but (hT2.ext s2c) (hP2.same s2c) kG
        have hvals : ∀ v ∈ [V.str uo, .str "Level", .str "", .non, .int 0, .bl true, .ref A1, .ref A2, vO], Val9 K G4 rs1 v := by
          intro v hv
          simp only [List.mem_cons, List.not_mem_nil, or_false] at hv
          rcases hv with rfl | rfl | rfl | rfl | rfl | rfl | rfl | rfl | rfl
          · exact ⟨_, .str _, oddW_ok _ huo1, fun u e => by cases e; exact hfo⟩
          · exact val9_of hbk1 (.str _) (by decide +kernel) (fun u e => by cases e; decide +kernel)
          · exact val9_of hbk1 (.str _) (by decide +kernel) (fun u e => by cases e; decide +kernel)
          · exact val9_of hbk1 .non (by decide +kernel) (fun u e => by cases e)
          · exact val9_of hbk1 (.int _) (by decide +kernel) (fun u e => by cases e)
          · exact val9_of hbk1 (.bl _) (by decide +kernel) (fun u e => by cases e)
          · exact val9_of hbk1 (.tup (SqT.of f1g) (.cons (.str _) .nil)) (by decide +kernel) (fun u e => by cases e)
          · exact val9_of hbk1 (.lst (SqL.of f2g) (.cons (.str _) .nil)) (by decide +kernel) (fun u e => by cases e)
          · exact val9_of hbk1 hvg (odd_ok _ hdO) (odd_word _ hdO)
        clear f1 f2 f1' f1'' f2' t1 t2 t9 f1g f2g hvg bkf fNf hP17 hP18 kE hvO hA1 hA2 hL9
        generalize [V.str uo, .str "Level", .str "", .non, .int 0, .bl true, .ref A1, .ref A2, vO] = vals at f9 hvals ⊢
        refine ⟨L9, rfl, ⟨_, SqT.of f9⟩, for_it (walk_tup (K := K) (a := L9) (xs := vals)) (fun i σ H' => ∃ v9 v10 : Option V, σ = [some (.ref p), some (.ref D1), some (.ref D2), some (.str (Txt.join "\n" (bookLines am1 rs1))), some (.ref x), some (.ref N0), some (.ref U), v7, some (.str uo), v9, v10] ∧ ExtN G4 H' ∧ Tabs [(PT, qR)] H') ⟨none, none, rfl, fun _ _ e _ => e, hTg⟩ (fun i σ H' _ u => ?_) ?_ ?_⟩
        · obtain ⟨_, _, _, u, _⟩ := u
          exact sqt_ext u (SqT.of f9)
        · rintro i v σ G5 G6 hi ⟨v9, v10, rfl, eG, hT5⟩ ⟨rfl, hy⟩
          obtain ⟨d, hd, o1, o2, o3, hask, hfv, hkind⟩ := ((hvals v (List.mem_of_getElem? hy)).ext eG).parts
          obtain ⟨dxA, ttA, qsA, hxA, htA, prA⟩ := bkg.ext eG
          have bkA : BookAt B G6 x (Txt.join "\n" (bookLines am1 rs1)) am1 rs1 := ⟨dxA, ttA, qsA, hxA, htA, prA⟩
          have fNA := eG _ _ fNg (fun _ z => by cases z)
          refine rd_if ?_
          refine ask_test rfl rfl fNA hkind ?_
          refine Eq.mpr (if_pos rfl) ?_
          refine rd_seq (rd_set ?_)
          refine ⟨hT5, fun H1 e1 T1 q0 hq0 => ?_⟩
          have sq0 : Same H1 (upd H1 q0 (.tup [.non, .non])) := same_new hq0
          generalize upd H1 q0 (.tup [.non, .non]) = Z0 at sq0 ⊢
          have eZ0 : ExtN G6 Z0 := ExtN.tr e1 (ExtN.of sq0)
          obtain ⟨_, _, _, _, _, haskZ, _, _⟩ := ((hvals v (List.mem_of_getElem? hy)).ext (ExtN.tr eG eZ0)).parts
          refine ⟨_, rfl, _, rfl, x, dxA, _, rfl, eZ0 _ _ hxA (fun _ z => by cases z), ⟨x, v, _, _, rs1, rfl, bkA.ext eZ0, haskZ, fun r hr => word_shaped _ (hbk1.word hr), fun n hn => (by rw [hfv] at hn; cases hn), fun hn Z1 dv sv fv => ?_⟩⟩
          refine ⟨F.exm, fun a ha q1 hq1 => ?_⟩
          have sa : Same Z1 (upd Z1 a (EX a (.ref CN) (some dv))) := same_new ha
          have fa : upd Z1 a (EX a (.ref CN) (some dv)) a = some (EX a (.ref CN) (some dv)) := upd_same
          have fva := sa _ _ fv
          generalize upd Z1 a (EX a (.ref CN) (some dv)) = Z2 at sa fa hq1 fva ⊢
          have sq1 : Same Z2 (upd Z2 q1 (.tup [.ref a, .non])) := same_new hq1
          have fq1 : upd Z2 q1 (.tup [.ref a, .non]) q1 = some (.tup [.ref a, .non]) := upd_same
          have fab := sq1 _ _ fa
          have fvb := sq1 _ _ fva
          generalize upd Z2 q1 (.tup [.ref a, .non]) = Z3 at sq1 fq1 fab fvb ⊢
          have sZ := (sv.trans sa).trans sq1
          have eZ : ExtN G6 Z3 := ExtN.tr eZ0 (ExtN.of sZ)
          have TZ := (T1.ext sq0).ext sZ
          refine ⟨q1, _, 0, .ref a, rfl, rfl, SqT.of fq1, rfl, ?_⟩
          dsimp only
          refine rd_if ?_
          refine ⟨_, rfl, a, .ref CN, .ref CN, .ref CN, true, rfl, .inl ⟨CN, dv, fIN, v, rfl, fab, fvb, F.non⟩, fun u r => r, F.kit, _, rfl, ?_⟩
          refine Eq.mpr (if_neg (by decide)) ?_
          have hdZ := dd_ext eZ hd
          refine ⟨_, rfl, a, CN, dv, fIN, v, rfl, fab, F.non, fvb, v, d, rfl, hdZ, o1, o2, o3, _, rfl, v, d, rfl, hdZ, o1, o2, o3, rfl, _, rfl, ?_⟩
          refine Eq.mpr (if_neg (nt rfl)) ?_
          have hl5 : rs1.length ≤ 100 := by omega
          refine ⟨_, rfl, _, rfl, x, dxA, _, rfl, eZ _ _ hxA (fun _ z => by cases z), ⟨x, v, _, _, rs1, rfl, bkA.ext eZ, hl5, ?_⟩⟩
          have fin : ∀ Z4, Same Z3 Z4 → ∃ v9 v10 : Option V, ([some (.ref p), some (.ref D1), some (.ref D2), some (.str (Txt.join "\n" (bookLines am1 rs1))), some (.ref x), some (.ref N0), some (.ref U), v7, some (.str uo), some v, some (.ref a)] : St) = [some (.ref p), some (.ref D1), some (.ref D2), some (.str (Txt.join "\n" (bookLines am1 rs1))), some (.ref x), some (.ref N0), some (.ref U), v7, some (.str uo), v9, v10] ∧ ExtN G4 Z4 ∧ Tabs [(PT, qR)] Z4 :=
            fun Z4 s4 => ⟨_, _, rfl, ExtN.tr (ExtN.tr eG eZ) (ExtN.of s4), TZ.ext s4⟩
          obtain ⟨_, _, _, _, _, _, _, hkZ⟩ := ((hvals v (List.mem_of_getElem? hy)).ext (ExtN.tr eG eZ)).parts
          rcases hkZ with ⟨u, rfl, hf⟩ | hns
          · refine .inr ⟨u, rfl, fun Z4 s4 => ⟨_, rfl, _, _, rfl, rfl, _, rfl, ?_⟩⟩
            have e := findR_some u rs1
            rw [hf] at e
            rw [← e]
            exact fin Z4 s4
          · refine .inl ⟨hns, fun Z4 s4 => ⟨_, rfl, _, _, rfl, rfl, _, rfl, ?_⟩⟩
            exact fin Z4 s4
        · rintro σ G5 ⟨v9, v10, rfl, eG, hT5⟩
          obtain ⟨dxA, ttA, qsA, hxA, htA, prA⟩ := bkg.ext eG
          have bkA : BookAt B G5 x (Txt.join "\n" (bookLines am1 rs1)) am1 rs1 := ⟨dxA, ttA, qsA, hxA, htA, prA⟩
          have hP5 := hPg.ext eG
          have e5 : ExtB p H2 G5 := ((ExtB.of (But.of s2c)).trans (ExtB.of kG)).trans (ExtB.ofN eG)
          have nD2p : D2 ≠ p := fun z => by rw [z] at hD2; obtain ⟨_, _, _, ep, _⟩ := hP2; rw [ep] at hD2; cases hD2
          have nR2p : R2 ≠ p := hR2p
          have hD5 := e5 _ _ nD2p hD2 (fun _ z => by cases z)
          have hR5 := e5 _ _ nR2p hR2 (fun _ z => by cases z)
          have pr5 : Pr G5 ps2 rs2 := ⟨pr2.1, fun i a r u v => by
            have q := pr2.2 i a r u v
            exact e5 _ _ (fun z => by rw [z] at q; obtain ⟨_, _, _, ep, _⟩ := hP2; rw [ep] at q; cases q) q (fun _ z => by cases z)⟩
          dsimp only
          refine rd_seq (rd_if ?_)
          refine ⟨_, rfl, _, rfl, x, dxA, _, rfl, hxA, .inr (.inl ⟨⟨_, rfl⟩, FK.nfS⟩), ⟨x, _, _, _, rs1, rfl, bkA, .inl ⟨.inr ⟨_, rfl⟩, fun G6 s6 => ⟨_, rfl, ?_⟩⟩⟩⟩
          refine Eq.mpr (if_neg (by decide)) ?_
          refine ⟨_, rfl, x, dxA, _, rfl, s6 _ _ hxA, .inl ⟨rfl, FK.nfN⟩, ⟨x, _, _, _, rs1, rfl, bkA.same s6, .inl ⟨.inl rfl, fun G7 s7 => ⟨_, rfl, ?_⟩⟩⟩⟩
          refine Eq.mpr (if_neg (by decide)) ?_
          refine ⟨_, rfl, _, rfl, ?_⟩
          dsimp only [tNil]
          refine rd_book (K := K) ham1 hbk1 fun y G8 hy0 s8 bky => ?_
          have s58 := (s6.trans s7).trans s8
          obtain ⟨dyA, tyA, qyA, hyA, htyA, pryA⟩ := bky
          refine ⟨x, dxA, _, rfl, s58 _ _ hxA, .inr (.inr ⟨y, B, dyA, _, rfl, hyA, FK.nfB⟩), ⟨x, _, _, _, rs1, rfl, bkA.same s58, .inr ⟨y, _, am1, rs1, rfl, ⟨dyA, tyA, qyA, hyA, htyA, pryA⟩, fun G9 s9 => ⟨_, rfl, ?_⟩⟩⟩⟩
          refine Eq.mpr (if_neg (nt rfl)) ?_
          have s59 := s58.trans s9
          dsimp only [tNext]
          refine ⟨_, rfl, _, rfl, D2, R2, ps2, rs2, am2, rfl, s59 _ _ hD5, s59 _ _ hR5, pr5.same s59, ham2, hbk2, fun Ga sA => ?_⟩
          dsimp only [tNil]
          refine rd_book (K := K) ham2 hbk2 fun u Gb hu0 sB bku => ?_
          obtain ⟨duA, tuA, quA, huA, htuA, pruA⟩ := bku
          have s5b := (s59.trans sA).trans sB
          refine ⟨x, dxA, _, rfl, s5b _ _ hxA, .inr (.inr ⟨u, B, duA, _, rfl, huA, FK.nfB⟩), ⟨x, _, _, _, rs1, rfl, bkA.same s5b, .inr ⟨u, _, am2, rs2, rfl, ⟨duA, tuA, quA, huA, htuA, pruA⟩, fun Gc sC => ?_⟩⟩⟩
          have s5c := s5b.trans sC
          refine ⟨_, rfl, _, rfl, D2, R2, ps2, rs2, am2, rfl, s5c _ _ hD5, s5c _ _ hR5, pr5.same s5c, ham2, hbk2, fun Gd sD => ⟨rfl, rfl, ?_⟩⟩
          have s5d := s5c.trans sD
          have fin := k Gd ((e2.trans e5).trans (ExtB.of (But.of s5d))) ((hP5.same s5d).mono (by omega)) (hT5.ext s5d)
          have e : decide (V.bl (decide (Txt.join "\n" (bookLines am1 rs1) = Txt.join "\n" (bookLines am2 rs2))) = V.bl (decide (V.str (Txt.join "\n" (bookLines am1 rs1)) = V.str (Txt.join "\n" (bookLines am2 rs2))))) = true := by
            refine decide_eq_true (congrArg V.bl ?_)
            rw [Bool.eq_iff_iff, decide_eq_true_iff, decide_eq_true_iff]
            exact ⟨fun q => congrArg V.str q, fun q => V.str.inj q⟩
          rw [e]
          exact fin
end
end L2.K05

set_option Elab.async false
set_option linter.all false
set_option maxRecDepth 100000
set_option maxHeartbeats 4000000
namespace L2.K05
open PySem PySem.Spec PyProof.Rows L2.Vx
open PySem.W (Frag)
open LamX (CodeO Tabs TabS TabB ExtN)
/-! ### the law -/
section
variable {P : Program} {w : World} {K : Frag} {mg : Str → Option Value} {bs : Heap}
def spLaw (K : Frag) (PT : Addr) : Sp := fun vs H Q _ => ∃ (a : Addr) (ns : List Int), vs = [.ref a] ∧ SqL K H a (ns.map V.int) ∧ ns.length ≤ 63 ∧ Tabs [(PT, qR)] H ∧ ∀ H', Q (.bl true) H'
theorem scLaw : FnScope ["script", "place", "pot"] ["script"] (defScope sLaw) := ⟨rfl, rfl, rfl, by decide +kernel, rfl, by decide +kernel, by decide +kernel⟩
theorem extB_new {p : Addr} {A B C : Hp} (s : Same A B) (h : A p = none) (k : ExtB p B C) : ExtN A C := fun b o e n => k b o (fun z => by rw [z, h] at e; cases e) (s _ _ e) n
theorem ok_law {f fRt fPo fCe PT : Addr} {fd fdRt fdPo fdCe : FuncData} (FP : FD K "law" sLaw f fd) (F : Dx mg)
    (GRt : FnG P w K mg bs CX0 9 fRt fdRt ["pot"] (spRight K PT)) (kRt : PySem.W.keepIn K (.ref fRt) = true) (gRt : mg "_law_right" = some (.ref fRt)) (bRt : Binds K fdRt ["pot"] [])
    (FPo : FD K "_law_pot" sPot fPo fdPo) (gPo : mg "_law_pot" = some (.ref fPo)) (bPo : Binds K fdPo ["script", "place"] [])
    (FCe : FD K "_law_cells" sCells fCe fdCe) (gCe : mg "_law_cells" = some (.ref fCe)) (bCe : Binds K fdCe ["script", "most"] []) : FnG P w K mg bs CX0 10 f fd ["script"] (spLaw K PT) := by
  have sc := scLaw
  have GPo : FnOk P w K mg bs CX0 1 fPo fdPo ["script", "place"] (spPot K) := ok_pot FPo F
  have GCe : FnOk P w K mg bs CX0 1 fCe fdCe ["script", "most"] (spCells K) := ok_cells FCe F
  refine okG0 FP scLaw (fun vs H Q E h => ?_) (fun cdv A outer s H vs Q E gd hr h => ?_)
  · obtain ⟨a, ns, rfl, _⟩ := h
    rfl
  · obtain ⟨a, ns, rfl, hS, hlen, hT, k⟩ := h
    have hr1 : Room 1 (A.deeper (envOfC "law" (defScope sLaw) s.heap.objs.size f cdv)) := hr.mono (by decide)
    refine ⟨_, pss_cons (ps_for PassesOwn.never rfl (pi_list (pe_call GCe hr1 (by rfl) gCe FCe.kp bCe .nil pass0 (pa_cons (pv 0) (pa_cons pe_int pa_nil)))) (pg_name (i := 1) sc.nd rfl (Or.inl rfl))
        (pss_cons (ps_set (i := 2) sc.nd rfl (Or.inl rfl) (pe_call GPo hr1 (by rfl) gPo FPo.kp bPo .nil pass0 (pa_cons (pv 0) (pa_cons (pv 1) pa_nil))))
        (pss_one (ps_if (PW.pt (pw_or (pt_not (pt_val (pe_callG GRt gd hr (by rfl) gRt kRt bRt .nil pass0 (pa_cons (pv 2) pa_nil)))) (pw_or1 (pt_not (pt_val (pe_callG GRt gd hr (by rfl) gRt kRt bRt .nil pass0 (pa_cons (pv 2) pa_nil)))))))
            (pss_one (ps_ret pe_bl)) pss_nil))))
      (pss_one (ps_ret pe_bl)), ?_⟩
    refine rd_seq ?_
    refine ⟨_, rfl, a, ns, 8, rfl, hS, hlen, by decide, fun H3 q n s3 hq0 hn hq => ⟨q, rfl, ⟨_, SqL.of hq⟩, for_it (walk_list (K := K) (a := q) (xs := (List.range n).map fun i : Nat => V.int (i : Int))) (fun i σ H' => ∃ v1 v2 : Option V,
      σ = [some (.ref a), v1, v2] ∧ ExtN H3 H' ∧ Tabs [(PT, qR)] H') ⟨none, none, rfl, ExtN.refl _, hT.ext s3⟩ (fun i σ H' _ u => ?_) ?_ ?_⟩⟩
    · obtain ⟨_, _, _, e, _⟩ := u
      exact sql_ext e (SqL.of hq)
    · rintro i x σ H4 H5 hi ⟨v1, v2, rfl, eN, hT4⟩ ⟨rfl, hx⟩
      have hi' : i < n := by simpa using hi
      have hx2 : x = .int (i : Int) := by
        rw [List.getElem?_map, List.getElem?_range hi'] at hx
        exact (Option.some.inj hx).symm
      subst hx2
      have hS4 := sql_ext eN (s3.seq hS)
      refine rd_seq (rd_set ?_)
      refine ⟨_, rfl, _, rfl, a, ns, (i : Int), rfl, hS4, hlen, by omega, by omega, fun H5 p s5 hp0 hP => ?_⟩
      dsimp only
      refine rd_if ?_
      refine ⟨_, rfl, p, 0, rfl, by decide, by decide, hP, hT4.ext s5, fun H6 e6 hP6 hT6 => ⟨_, rfl, ?_⟩⟩
      refine Eq.mpr (if_neg (by decide)) ?_
      refine ⟨_, rfl, p, 70, rfl, by decide, by decide, hP6, hT6, fun H7 e7 hP7 hT7 => ⟨_, rfl, ?_⟩⟩
      refine Eq.mpr (if_neg (by decide)) ?_
      exact ⟨_, _, rfl, ExtN.tr eN (extB_new s5 hp0 (e6.trans e7)), hT7⟩
    · rintro σ H4 ⟨v1, v2, rfl, eN, hT4⟩
      exact k H4
end
end L2.K05

set_option Elab.async false
set_option linter.all false
set_option maxRecDepth 100000
set_option maxHeartbeats 0
namespace L2.K05
open PySem PySem.Spec PyProof.Rows L2.Vx
open PySem.W (Frag)
open LamX (CodeO Tabs TabS TabB ExtN)
open He (ga ma)
def fI (K : Frag) : Addr := ma K (ga K "DrawError") "__init__"
/-- the written dict of the least numbers -/
def kvOf (e : DictEntry) : Option (Str × Int) := match e.key, e.val with
  | .str x _, .int i _ => some (x, i)
  | _, _ => none
def leastL : List (Option (Str × Int)) := [some ("corner", 0), some ("wall", 0), some ("level", 0), some ("straight", 0), some ("grid", 2)]
def leastB (K : Frag) : Bool := match K.lookup (ga K "LEAST") with
  | some ⟨_, _, .dict es _, _⟩ => decide (es.toList.map kvOf = leastL)
  | _ => false
abbrev bK (K : Frag) : Addr := ga K "Book"
def bookB (K : Frag) : Bool :=
  (decide (PySem.W.findIn K (.ref (bK K)) "__len__" = some (some (.ref (ma K (bK K) "__len__")))) && (PySem.W.isFn K (.ref (ma K (bK K) "__len__")) &&
  (decide (PySem.W.findIn K (.ref (bK K)) "__contains__" = some (some (.ref (ma K (bK K) "__contains__")))) && (PySem.W.isFn K (.ref (ma K (bK K) "__contains__")) &&
  (decide (PySem.W.findIn K (.ref (bK K)) "__getitem__" = some (some (.ref (ma K (bK K) "__getitem__")))) && (PySem.W.fnIn K (ma K (bK K) "__getitem__") && (PySem.W.isFn K (.ref (ma K (bK K) "__getitem__")) &&
  (decide (PySem.W.findIn K (.ref (bK K)) (cmpInfo .Eq).2.1 = some (some (.ref (ma K (bK K) "__eq__")))) && (PySem.W.isFn K (.ref (ma K (bK K) "__eq__")) &&
  (PySem.W.notFirst K (bK K) (.type "NoneType") && (PySem.W.notFirst K (bK K) (.type "str") && PySem.W.notFirst K (bK K) (.ref (bK K)))))))))))))
def isiB (K : Frag) : Bool :=
  (decide (PySem.W.findIn K (.ref (bK K)) "__class__" = some (some (.builtin "object.__class__"))) && (decide (PySem.W.specialIn K (.builtin "object.__class__") "__get__" = some (some (.builtin "getset_descriptor.__get__"))) &&
  (decide (PySem.W.takesIn K (.builtin "object.__class__") = some true) && (decide (PySem.W.mroIn K (bK K) (.type "object") = some true) &&
  (decide (PySem.W.kitOne K (.ref (bK K)) (.ref (bK K)) = some true) && (decide (PySem.W.kitOne K (.type "str") (.ref (bK K)) = some false) && decide (PySem.W.kitOne K (.type "NoneType") (.ref (bK K)) = some false)))))))
def exK (K : Frag) : Bool :=
  errB K (ga K "BadBook") (fI K) && (errB K (ga K "NoRule") (fI K) && (decide (PySem.W.kitOne K (.ref (ga K "NoRule")) (.ref (ga K "NoRule")) = some true) &&
    (decide (PySem.W.exmOne K (.ref (ga K "NoRule")) (.ref (ga K "DrawError")) = some true) && (leastB K && (bookB K && isiB K)))))
abbrev dD (x : Str) (s : Stmt) : He.DefD := ⟨(x, none), x, x, defArgs s, defBody s, defScope s, [], []⟩
abbrev sInit : Stmt := sDErr
def dInit : He.DefD := ⟨("DrawError", some "__init__"), "__init__", "DrawError.__init__", defArgs sInit, defBody sInit, defScope sInit, [], []⟩
def dBook : He.DefD := ⟨("Book", some "__init__"), "__init__", "Book.__init__", defArgs sBook, defBody sBook, defScope sBook, [], []⟩
def dCons : He.DefD := dD "consists_of" sCons
def dNum : He.DefD := dD "number_in" sNum
def dAmong : He.DefD := dD "read_among" sAmong
def dRules : He.DefD := dD "read_rules" sRules
def dRule : He.DefD := dD "read_rule" sRule
def dPot : He.DefD := dD "_law_pot" sPot
def dTake : He.DefD := dD "_law_take" sTake
def dOf : He.DefD := dD "_law_of" sOf
def dSome : He.DefD := dD "_law_some" sSome
def dCells : He.DefD := dD "_law_cells" sCells
def dTold : He.DefD := dD "_law_told" sTold
def dOdd : He.DefD := dD "_law_odd" sOdd
def dSomeB : He.DefD := dD "_law_some_book" sSomeB
def dText : He.DefD := dD "_law_book_text" sText
def dFive : He.DefD := dD "_law_five" sFive
def dRight : He.DefD := dD "_law_right" sRight
def dBLen : He.DefD := ⟨("Book", some "__len__"), "__len__", "Book.__len__", defArgs sBLen, defBody sBLen, defScope sBLen, [], []⟩
def dBHas : He.DefD := ⟨("Book", some "__contains__"), "__contains__", "Book.__contains__", defArgs sBHas, defBody sBHas, defScope sBHas, [], []⟩
def dBGet : He.DefD := ⟨("Book", some "__getitem__"), "__getitem__", "Book.__getitem__", defArgs sBGet, defBody sBGet, defScope sBGet, [], []⟩
def dBEq : He.DefD := ⟨("Book", some "__eq__"), "__eq__", "Book.__eq__", defArgs sBEq, defBody sBEq, defScope sBEq, [], []⟩
def dLaw : He.DefD := dD "law" sLaw
def fn : List He.DefD := [dInit, dBook, dCons, dNum, dAmong, dRules, dRule, dPot, dTake, dOf, dSome, dCells, dTold, dOdd, dSomeB, dText, dFive, dRight, dLaw, dBLen, dBHas, dBGet, dBEq]
def glos : List Str := ["DrawError", "BadBook", "NoRule", "Book", "LEAST", "consists_of", "number_in", "read_among", "read_rules", "read_rule", "_law_pot", "_law_take", "_law_of", "_law_some", "_law_cells", "_law_told", "_law_odd", "_law_some_book",
  "_law_book_text", "_law_five", "_law_right", "law"]
def frees : List Str := ["len", "abs", "int", "max", "min", "range", "list", "str", "all", "isinstance", "enumerate", "tuple", "repr", "dict"]
def fa : List He.Fa := glos.map He.Fa.glo ++ (frees.map He.Fa.free ++ [.int "LONGEST_NUMBER" 9, .int "MOST" 99, .str "DIGITS" "0123456789", .cls "Book", .noat "Book" "text", .noat "Book" "among", .noat "Book" "rules", .mkr "Book"])
def ts : List He.Tab := [(fun K => ga K "LEAST", ["corner", "wall", "level", "straight", "grid"])]
def tf : List He.Defn := [("_law_right", none)]
abbrev R : PySem.W.OpenRow := PySem.W.OpenLaw.row PySem.Challenge.rw_wobblesnap_k05_books_as_told
abbrev hk : PySem.W.Hook := He.hookX 5 fa fn ts tf exK
def ob (s : PySem.W.SharedT) : He.AlX := He.obsX 5 fa fn ts tf exK (HandSHeadRun.getT s)
theorem ob_eq (s : PySem.W.SharedT) : ob s = hk.obs s.abs := He.obsX_eq (HandSHeadRun.getT_eq s)
def loose : List Str := ["DrawError", "BadBook", "NoRule", "Book", "LEAST", "MOST", "DIGITS", "LONGEST_NUMBER", "consists_of", "number_in", "read_among", "read_rules", "read_rule", "_law_pot", "_law_take", "_law_of", "_law_some", "_law_cells", "_law_told", "_law_odd", "_law_some_book",
  "_law_book_text", "_law_five", "_law_right"]
theorem runF (w : World) : HandSHeadRun.RunEq R (PySem.W.view R.prog [28]) hk ob 4000 loose (w.withFollow "special-get-raises" false) := by
  intro os
  kernel_rfl
theorem runT (w : World) : HandSHeadRun.RunEq R (PySem.W.view R.prog [28]) hk ob 4000 loose (w.withFollow "special-get-raises" true) := by
  intro os
  kernel_rfl
theorem run (w : World) : HandSHeadRun.RunEq R (PySem.W.view R.prog [28]) hk ob 4000 loose w := PySem.W.byRow2 "special-get-raises" (P := fun w => HandSHeadRun.RunEq R (PySem.W.view R.prog [28]) hk ob 4000 loose w) runF runT w
end L2.K05

set_option Elab.async false
set_option linter.all false
set_option maxRecDepth 100000
set_option maxHeartbeats 4000000
namespace L2.K05
open PySem PySem.Spec PyProof.Rows L2.Vx
open PySem.W (Frag)
open LamX (CodeO Tabs TabS TabB ExtN)
open He (ga ma)
/-- a def's own words from the hook's -/
theorem fun_of {K : Frag} {x qual : Str} {st : Stmt} {f : Addr} {fd : FuncData} (h : FunD K x qual (defArgs st) (defBody st) (defScope st) [] [] f fd) : Fun K x qual st f fd := by
  obtain ⟨oc, od, dV, kV, doc, pm, an, cdv, ct, osl, e, lk, hc, hD, _⟩ := h.ex
  rcases hD with ⟨_, rfl⟩ | ⟨z, _⟩
  · exact ⟨⟨oc, od, kV, doc, pm, an, cdv, ct, osl, e, lk, hc⟩, h.kp⟩
  · exact absurd rfl z
theorem init_of {K : Frag} {fd : FuncData} (h : FunD K "__init__" "DrawError.__init__" (defArgs sInit) (defBody sInit) (defScope sInit) [] [] (fI K) fd) : InitF K (fI K) := by
  obtain ⟨oc, od, dV, kV, doc, pm, an, cdv, ct, osl, e, lk, hc, hD, hK⟩ := h.ex
  rcases hD with ⟨_, rfl⟩ | ⟨z, _⟩
  · exact ⟨oc, od, kV, doc, pm, an, cdv, ct, osl, _, _, _, _, _, _, by rw [lk, e]; rfl, hc⟩
  · exact absurd rfl z
/-- the code object that a def holds -/
theorem code_of {K : Frag} {x qual : Str} {st : Stmt} {fd : FuncData} {p : He.Defn} (F : Fun K x qual st (He.fAd K p) fd) : fd.code = .ref (He.codeOf K p) := by
  obtain ⟨oc, od, kV, doc, pm, an, cdv, ct, osl, rfl, lk, hcd⟩ := F.ex
  obtain ⟨c, rfl⟩ := He.codeIn_ref hcd
  have e := He.codeOf_eq lk (c := c) rfl
  rw [e]
theorem kvOf_some {e : DictEntry} {x : Str} {i : Int} (h : kvOf e = some (x, i)) : ∃ t u, e.key = .str x t ∧ e.val = .int i u := by
  unfold kvOf at h
  split at h
  · rename_i y t j u h1 h2
    cases h
    exact ⟨t, u, h1, h2⟩
  · cases h
theorem look_of {l : List DictEntry} (h : l.map kvOf = leastL) (z : Str) :
    ∃ r, (match l.find? (·.key.isStr z) with
      | some e => (some (some e.val) : Option (Option Value))
      | none => if l.any (·.refKey) then none else some none) = some r ∧ (z ∈ ruleWords → ∃ t, r = some (.int (leastOf z) t)) ∧ (z ∉ ruleWords → r = none) := by
  unfold leastL at h
  have hl : l.length = 5 := by rw [← List.length_map (f := kvOf), h]; rfl
  match l, hl, h with
  | [a, b, c, d, e], _, h =>
    simp only [List.map_cons, List.map_nil, List.cons.injEq, and_true] at h
    obtain ⟨ha, hb, hc, hd, he⟩ := h
    obtain ⟨t1, u1, a1, a2⟩ := kvOf_some ha
    obtain ⟨t2, u2, b1, b2⟩ := kvOf_some hb
    obtain ⟨t3, u3, c1, c2⟩ := kvOf_some hc
    obtain ⟨t4, u4, d1, d2⟩ := kvOf_some hd
    obtain ⟨t5, u5, e1, e2⟩ := kvOf_some he
    have key : ∀ (w x : Str) (t : Tok), Value.isStr (.str w t) x = (w == x) := fun _ _ _ => rfl
    by_cases z1 : (("corner" : Str) == z) = true
    · have n1 := z1
      refine ⟨some a.val, by simp only [List.find?, a1, key, n1], fun _ => ⟨u1, ?_⟩, fun n => absurd ?_ n⟩
      · have e0 : ("corner" : Str) = z := by simpa using z1
        rw [a2, ← e0]
        rfl
      · have e0 : ("corner" : Str) = z := by simpa using z1
        rw [← e0]
        decide +kernel
    have n1 : (("corner" : Str) == z) = false := by simpa using z1
    by_cases z2 : (("wall" : Str) == z) = true
    · have n2 := z2
      refine ⟨some b.val, by simp only [List.find?, a1, b1, key, n1, n2], fun _ => ⟨u2, ?_⟩, fun n => absurd ?_ n⟩
      · have e0 : ("wall" : Str) = z := by simpa using z2
        rw [b2, ← e0]
        rfl
      · have e0 : ("wall" : Str) = z := by simpa using z2
        rw [← e0]
        decide +kernel
    have n2 : (("wall" : Str) == z) = false := by simpa using z2
    by_cases z3 : (("level" : Str) == z) = true
    · have n3 := z3
      refine ⟨some c.val, by simp only [List.find?, a1, b1, c1, key, n1, n2, n3], fun _ => ⟨u3, ?_⟩, fun n => absurd ?_ n⟩
      · have e0 : ("level" : Str) = z := by simpa using z3
        rw [c2, ← e0]
        rfl
      · have e0 : ("level" : Str) = z := by simpa using z3
        rw [← e0]
        decide +kernel
    have n3 : (("level" : Str) == z) = false := by simpa using z3
    by_cases z4 : (("straight" : Str) == z) = true
    · have n4 := z4
      refine ⟨some d.val, by simp only [List.find?, a1, b1, c1, d1, key, n1, n2, n3, n4], fun _ => ⟨u4, ?_⟩, fun n => absurd ?_ n⟩
      · have e0 : ("straight" : Str) = z := by simpa using z4
        rw [d2, ← e0]
        rfl
      · have e0 : ("straight" : Str) = z := by simpa using z4
        rw [← e0]
        decide +kernel
    have n4 : (("straight" : Str) == z) = false := by simpa using z4
    by_cases z5 : (("grid" : Str) == z) = true
    · have n5 := z5
      refine ⟨some e.val, by simp only [List.find?, a1, b1, c1, d1, e1, key, n1, n2, n3, n4, n5], fun _ => ⟨u5, ?_⟩, fun n => absurd ?_ n⟩
      · have e0 : ("grid" : Str) = z := by simpa using z5
        rw [e2, ← e0]
        rfl
      · have e0 : ("grid" : Str) = z := by simpa using z5
        rw [← e0]
        decide +kernel
    have n5 : (("grid" : Str) == z) = false := by simpa using z5
    refine ⟨none, by simp [List.find?, a1, b1, c1, d1, e1, key, n1, n2, n3, n4, n5, DictEntry.refKey], fun n => ?_, fun _ => rfl⟩
    exfalso
    simp only [ruleWords, List.mem_cons, List.not_mem_nil, or_false] at n
    rcases n with n | n | n | n | n
    · rw [n] at n1; exact absurd n1 (by decide +kernel)
    · rw [n] at n2; exact absurd n2 (by decide +kernel)
    · rw [n] at n3; exact absurd n3 (by decide +kernel)
    · rw [n] at n4; exact absurd n4 (by decide +kernel)
    · rw [n] at n5; exact absurd n5 (by decide +kernel)
theorem least_of {K : Frag} {w : World} {mg : Str → Option Value} (hm : mg "LEAST" = some (.ref (ga K "LEAST"))) (hk : ∃ es n, KDict K w (ga K "LEAST") es n) (h : leastB K = true) : FxLeast K w mg := by
  obtain ⟨es, n, D⟩ := hk
  refine ⟨_, es, n, hm, D, fun z => ?_⟩
  unfold leastB at h
  rw [D.at_] at h
  have h2 : es.toList.map kvOf = leastL := of_decide_eq_true h
  have q := look_of h2 z
  unfold PySem.W.nsIn
  rw [D.at_]
  exact q
end L2.K05

set_option Elab.async false
set_option linter.all false
set_option maxRecDepth 100000
set_option maxHeartbeats 4000000
namespace L2.K05
open PySem PySem.Spec PyProof.Rows L2.Vx
open PySem.W (Frag)
open LamX (CodeO Tabs TabS TabB ExtN)
open He (ga ma)
theorem facts {w : World} {K : Frag} {h : Heap} {mg : Str → Option Value} {f : Addr} (X : K.In h) (G : h.Ns mainGlobals mg) (hfa : mg ("law" : Str) = some (.ref f)) (c : He.SaysX fa fn ts tf exK w h K) :
    ∃ (K : Frag) (c PT : Addr) (fd : FuncData) (sp : Sp), K.In h ∧ h.get? PT = some { cls := .none, data := .fields #[] } ∧ K.lookup PT = none ∧ PySem.W.CodeHd h c PT ∧
      (∀ (s : Shared) (u : Value), BindsTo s fd ⟨[u], []⟩ [("script", u)]) ∧
      (∀ (H : Hp) (a : Addr) (ns : List Int), ns.length ≤ 63 → H PT = some (.tbl #[]) → SqL K H a (ns.map V.int) → sp [.ref a] H (fun v _ => v = .bl true) fun _ _ _ => False) ∧
      ∀ base : Heap, K.In base → base.Ns mainGlobals mg → TabB base mg c PT → FnG PySem.Challenge.rw_wobblesnap_k05_books_as_told.prog w K mg base CX0 10 f fd ["script"] sp := by
  have fact : ∀ f ∈ fa, f.ok K = true := fun f hf => c.t.d.facts hf
  have glo : ∀ x ∈ glos, mg x = some (.ref (ga K x)) := fun x hx => He.glo_ok X G (fact _ (List.mem_append_left _ (List.mem_map.mpr ⟨x, hx, rfl⟩)))
  have free : ∀ x ∈ frees, mg x = none := fun x hx => He.free_ok X G (fact _ (List.mem_append_right _ (List.mem_append_left _ (List.mem_map.mpr ⟨x, hx, rfl⟩))))
  have rest : ∀ q ∈ ([.int "LONGEST_NUMBER" 9, .int "MOST" 99, .str "DIGITS" "0123456789", .cls "Book", .noat "Book" "text", .noat "Book" "among", .noat "Book" "rules", .mkr "Book"] : List He.Fa), q.ok K = true :=
    fun q hq => fact _ (List.mem_append_right _ (List.mem_append_right _ hq))
  have i9 := He.int_ok X G (rest (.int "LONGEST_NUMBER" 9) (by simp))
  have i99 := He.int_ok X G (rest (.int "MOST" 99) (by simp))
  have sD := He.str_ok X G (rest (.str "DIGITS" "0123456789") (by simp))
  have cB := He.cls_ok (rest (.cls "Book") (by simp))
  have nT := He.noat_ok (rest (.noat "Book" "text") (by simp))
  have nA := He.noat_ok (rest (.noat "Book" "among") (by simp))
  have nR := He.noat_ok (rest (.noat "Book" "rules") (by simp))
  have mk := He.mkr_ok (rest (.mkr "Book") (by simp))
  obtain ⟨m1, m⟩ := Bool.and_eq_true_iff.mp c.more
  obtain ⟨m2, m⟩ := Bool.and_eq_true_iff.mp m
  obtain ⟨m3, m⟩ := Bool.and_eq_true_iff.mp m
  obtain ⟨m4, m⟩ := Bool.and_eq_true_iff.mp m
  obtain ⟨m5, m⟩ := Bool.and_eq_true_iff.mp m
  obtain ⟨m6, m7⟩ := Bool.and_eq_true_iff.mp m
  unfold bookB at m6
  obtain ⟨q1, m6⟩ := Bool.and_eq_true_iff.mp m6
  obtain ⟨q2, m6⟩ := Bool.and_eq_true_iff.mp m6
  obtain ⟨q3, m6⟩ := Bool.and_eq_true_iff.mp m6
  obtain ⟨q4, m6⟩ := Bool.and_eq_true_iff.mp m6
  obtain ⟨q5, m6⟩ := Bool.and_eq_true_iff.mp m6
  obtain ⟨q6, m6⟩ := Bool.and_eq_true_iff.mp m6
  obtain ⟨q7, m6⟩ := Bool.and_eq_true_iff.mp m6
  obtain ⟨q8, m6⟩ := Bool.and_eq_true_iff.mp m6
  obtain ⟨q9, m6⟩ := Bool.and_eq_true_iff.mp m6
  obtain ⟨q10, m6⟩ := Bool.and_eq_true_iff.mp m6
  obtain ⟨q11, q12⟩ := Bool.and_eq_true_iff.mp m6
  unfold isiB at m7
  obtain ⟨r1, m7⟩ := Bool.and_eq_true_iff.mp m7
  obtain ⟨r2, m7⟩ := Bool.and_eq_true_iff.mp m7
  obtain ⟨r3, m7⟩ := Bool.and_eq_true_iff.mp m7
  obtain ⟨r4, m7⟩ := Bool.and_eq_true_iff.mp m7
  obtain ⟨r5, m7⟩ := Bool.and_eq_true_iff.mp m7
  obtain ⟨r6, r7⟩ := Bool.and_eq_true_iff.mp m7
  obtain ⟨fd0, F0⟩ := c.t.d.def_ 0 (d := dInit) rfl
  obtain ⟨fd1, F1⟩ := c.t.d.def_ 1 (d := dBook) rfl
  obtain ⟨fd2, F2⟩ := c.t.d.def_ 2 (d := dCons) rfl
  obtain ⟨fd3, F3⟩ := c.t.d.def_ 3 (d := dNum) rfl
  obtain ⟨fd4, F4⟩ := c.t.d.def_ 4 (d := dAmong) rfl
  obtain ⟨fd5, F5⟩ := c.t.d.def_ 5 (d := dRules) rfl
  obtain ⟨fd6, F6⟩ := c.t.d.def_ 6 (d := dRule) rfl
  obtain ⟨fd7, F7⟩ := c.t.d.def_ 7 (d := dPot) rfl
  obtain ⟨fd8, F8⟩ := c.t.d.def_ 8 (d := dTake) rfl
  obtain ⟨fd9, F9⟩ := c.t.d.def_ 9 (d := dOf) rfl
  obtain ⟨fd10, F10⟩ := c.t.d.def_ 10 (d := dSome) rfl
  obtain ⟨fd11, F11⟩ := c.t.d.def_ 11 (d := dCells) rfl
  obtain ⟨fd12, F12⟩ := c.t.d.def_ 12 (d := dTold) rfl
  obtain ⟨fd13, F13⟩ := c.t.d.def_ 13 (d := dOdd) rfl
  obtain ⟨fd14, F14⟩ := c.t.d.def_ 14 (d := dSomeB) rfl
  obtain ⟨fd15, F15⟩ := c.t.d.def_ 15 (d := dText) rfl
  obtain ⟨fd16, F16⟩ := c.t.d.def_ 16 (d := dFive) rfl
  obtain ⟨fd17, F17⟩ := c.t.d.def_ 17 (d := dRight) rfl
  obtain ⟨fd18, F18⟩ := c.t.d.def_ 18 (d := dLaw) rfl
  obtain ⟨fd19, F19⟩ := c.t.d.def_ 19 (d := dBLen) rfl
  obtain ⟨fd20, F20⟩ := c.t.d.def_ 20 (d := dBHas) rfl
  obtain ⟨fd21, F21⟩ := c.t.d.def_ 21 (d := dBGet) rfl
  obtain ⟨fd22, F22⟩ := c.t.d.def_ 22 (d := dBEq) rfl
  have b1 : Binds K fd1 ["self", "text"] [] := F1.bindsN fun _ _ _ _ _ _ us hl => match us, hl with | [_, _], _ => rfl
  have b2 : Binds K fd2 ["text", "signs"] [] := F2.bindsN fun _ _ _ _ _ _ us hl => match us, hl with | [_, _], _ => rfl
  have b3 : Binds K fd3 ["word", "low", "high"] [] := F3.bindsN fun _ _ _ _ _ _ us hl => match us, hl with | [_, _, _], _ => rfl
  have b4 : Binds K fd4 ["line"] [] := F4.bindsN fun _ _ _ _ _ _ us hl => match us, hl with | [_], _ => rfl
  have b5 : Binds K fd5 ["lines", "first"] [] := F5.bindsN fun _ _ _ _ _ _ us hl => match us, hl with | [_, _], _ => rfl
  have b6 : Binds K fd6 ["line"] [] := F6.bindsN fun _ _ _ _ _ _ us hl => match us, hl with | [_], _ => rfl
  have b7 : Binds K fd7 ["script", "place"] [] := F7.bindsN fun _ _ _ _ _ _ us hl => match us, hl with | [_, _], _ => rfl
  have b8 : Binds K fd8 ["pot", "upto"] [] := F8.bindsN fun _ _ _ _ _ _ us hl => match us, hl with | [_, _], _ => rfl
  have b9 : Binds K fd9 ["pot", "some"] [] := F9.bindsN fun _ _ _ _ _ _ us hl => match us, hl with | [_, _], _ => rfl
  have b10 : Binds K fd10 ["pot", "pool", "many"] [] := F10.bindsN fun _ _ _ _ _ _ us hl => match us, hl with | [_, _, _], _ => rfl
  have b11 : Binds K fd11 ["script", "most"] [] := F11.bindsN fun _ _ _ _ _ _ us hl => match us, hl with | [_, _], _ => rfl
  have b12 : Binds K fd12 ["look"] [] := F12.bindsN fun _ _ _ _ _ _ us hl => match us, hl with | [_], _ => rfl
  have b13 : Binds K fd13 ["pot"] [] := F13.bindsN fun _ _ _ _ _ _ us hl => match us, hl with | [_], _ => rfl
  have b14 : Binds K fd14 ["pot", "words", "most"] [] := F14.bindsN fun _ _ _ _ _ _ us hl => match us, hl with | [_, _, _], _ => rfl
  have b15 : Binds K fd15 ["book"] [] := F15.bindsN fun _ _ _ _ _ _ us hl => match us, hl with | [_], _ => rfl
  have b16 : Binds K fd16 ["pot"] [] := F16.bindsN fun _ _ _ _ _ _ us hl => match us, hl with | [_], _ => rfl
  have b17 : Binds K fd17 ["pot"] [] := F17.bindsN fun _ _ _ _ _ _ us hl => match us, hl with | [_], _ => rfl
  have b18 := FunD.bindsA (ps := ["script"]) F18 fun _ _ _ _ _ _ us hl => match us, hl with | [_], _ => rfl
  have b19 : Binds K fd19 ["self"] [] := F19.bindsN fun _ _ _ _ _ _ us hl => match us, hl with | [_], _ => rfl
  have b20 : Binds K fd20 ["self", "value"] [] := F20.bindsN fun _ _ _ _ _ _ us hl => match us, hl with | [_, _], _ => rfl
  have b21 : Binds K fd21 ["self", "word"] [] := F21.bindsN fun _ _ _ _ _ _ us hl => match us, hl with | [_, _], _ => rfl
  have b22 : Binds K fd22 ["self", "other"] [] := F22.bindsN fun _ _ _ _ _ _ us hl => match us, hl with | [_, _], _ => rfl
  have e := hfa.symm.trans (glo "law" (by decide +kernel))
  cases e
  have hcd : fd17.code = .ref (He.cT K ("_law_right", none)).1 := code_of (x := "_law_right") (qual := "_law_right") (st := sRight) (p := ("_law_right", none)) (fun_of (st := sRight) F17)
  have fxD : Dx mg := ⟨free _ (by decide +kernel), free _ (by decide +kernel), free _ (by decide +kernel), free _ (by decide +kernel), free _ (by decide +kernel), free _ (by decide +kernel), free _ (by decide +kernel)⟩
  have fxN : FxNum mg := ⟨free _ (by decide +kernel), free _ (by decide +kernel), free _ (by decide +kernel), free _ (by decide +kernel), i9, sD⟩
  have fxR : FxRule K w mg := ⟨fxN, least_of (glo "LEAST" (by decide +kernel)) (c.t.tab 0) m5, i99⟩
  have fxI : FxInit K mg (ga K "Book") := ⟨cB, nT, nA, nR, free _ (by decide +kernel), free _ (by decide +kernel)⟩
  have fxS : FxIsi K mg (ga K "Book") := ⟨of_decide_eq_true r1, of_decide_eq_true r2, of_decide_eq_true r3, of_decide_eq_true r4, of_decide_eq_true r5, of_decide_eq_true r6, of_decide_eq_true r7, glo "Book" (by decide +kernel)⟩
  have fxB : FxBk K mg (ga K "Book") (ma K (bK K) "__len__") (ma K (bK K) "__contains__") (ma K (bK K) "__getitem__") (ma K (bK K) "__eq__") :=
    ⟨of_decide_eq_true q1, q2, of_decide_eq_true q3, q4, of_decide_eq_true q5, q6, q7, of_decide_eq_true q8, q9, q10, q11, q12⟩
  have fxT : FxRt K mg (ga K "Book") (ga K "BadBook") (ga K "NoRule") (ga K "DrawError") (fI K) (fI K) (ma K (ga K "Book") "__init__") :=
    ⟨fxI, mk, glo "Book" (by decide +kernel), err_ok m1 (init_of F0), glo "BadBook" (by decide +kernel), err_ok m2 (init_of F0), glo "NoRule" (by decide +kernel), glo "DrawError" (by decide +kernel), of_decide_eq_true m4, of_decide_eq_true m3,
      free _ (by decide +kernel), free _ (by decide +kernel), free _ (by decide +kernel), free _ (by decide +kernel)⟩
  refine ⟨K, (He.cT K ("_law_right", none)).1, (He.cT K ("_law_right", none)).2, fd18, spLaw K (He.cT K ("_law_right", none)).2, X, c.empty _ (List.mem_singleton.mpr rfl), c.out _ (List.mem_singleton.mpr rfl), PySem.W.codeHd_of_K X (c.hd _ (List.mem_singleton.mpr rfl)),
    fun s v => b18 s [v] rfl, fun H a ns hl hT hS => ⟨a, ns, rfl, hS, hl, fun p hp => ?_, fun _ => rfl⟩, fun base hb hm hTB => ?_⟩
  · rw [List.mem_singleton.mp hp]
    exact TabS.nil hT
  · have g : ∀ x ∈ glos, mg x = some (.ref (ga K x)) := glo
    have GRt := ok_right (P := PySem.Challenge.rw_wobblesnap_k05_books_as_told.prog) (w := w) (fun_of F17) hcd hTB fxT fxB fxR fxS fxD (free _ (by decide +kernel)) (fun_of F12) (glo _ (by decide +kernel)) b12 (fun_of F8) (glo _ (by decide +kernel)) b8
      (fun_of F9) (glo _ (by decide +kernel)) b9 (fun_of F10) (glo _ (by decide +kernel)) b10 (fun_of F14) (glo _ (by decide +kernel)) b14 (fun_of F16) (glo _ (by decide +kernel)) b16 (fun_of F15) (glo _ (by decide +kernel)) b15 (fun_of F13) (glo _ (by decide +kernel)) b13
      (fun_of F1) b1 (fun_of F19) b19 (fun_of F20) b20 (fun_of F21) b21 (fun_of F22) b22 (fun_of F4) (glo _ (by decide +kernel)) b4 (fun_of F5) (glo _ (by decide +kernel)) b5 (fun_of F6) (glo _ (by decide +kernel)) b6 (fun_of F3) (glo _ (by decide +kernel)) b3 (fun_of F2) (glo _ (by decide +kernel)) b2
    exact ok_law (fun_of F18) fxD GRt F17.kp (glo _ (by decide +kernel)) b17 (fun_of F7) (glo _ (by decide +kernel)) b7 (fun_of F11) (glo _ (by decide +kernel)) b11
end L2.K05
open PySem PySem.W PySem.Calls PyProof.Rows
theorem PySem.Challenge.cw_wobblesnap_k05_books_as_told_holds : PySem.Challenge.rw_wobblesnap_k05_books_as_told.Holds := by
  w_on; o_law
  refine HandSHeadRun.head_any (r := L2.K05.R) (q := view L2.K05.R.prog [28]) (H := L2.K05.hk) (ob := L2.K05.ob) (M := 4000) (loose := L2.K05.loose) (d := HandSHeadRun.topDef L2.K05.R.prog 28) (kwd := []) L2.K05.ob_eq
    (by kernel_rfl) (fun s => by kernel_rfl) L2.K05.run (by kernel_rfl) (by kernel_rfl) (by kernel_rfl) (by rfl) (by first | assumption | decide +kernel) (by decide +kernel) ⟨rfl, rfl, rfl, rfl, rfl, by decide +kernel⟩ ?hw ?hc
  case hw => w_witness2
  case hc =>
    refine L2.Vx.walk_ofTEG (l := PySem.Challenge.rw_wobblesnap_k05_books_as_told) (n := 63) (k := 10) (x := "script") (CX := L2.CX0) rfl (by decide) (by kernel_rfl) ⟨rfl, by decide, by decide⟩ ?F (fun _ _ _ _ z => z)
    intro w mg fa h Y G hmg0
    obtain ⟨K, KX, c⟩ := Y
    have hmg : mg ("law" : PySem.Str) = some (.ref fa) := by
      have e : (HandSHeadRun.topDef L2.K05.R.prog 28).name = ("law" : PySem.Str) := by kernel_rfl
      rw [← e]
      exact hmg0
    exact L2.K05.facts KX G hmg c
#print axioms PySem.Challenge.cw_wobblesnap_k05_books_as_told_holds

