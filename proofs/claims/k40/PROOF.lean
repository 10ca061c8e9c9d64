import PyProof.Rows.All
import Wide.All
import OpenK.AllK
import Wide.FinOn
import PyProof.EqAt
import PyProof.EqKinds
import PyProof.TupleCall
import PyProof.ReprReads
import KE.KExcIs
import HandS.ForMost
import HandS.Exc
import HandS.ExcOwn
import HandS.WordsExc
import HandS.IsInst
import HandS.ExcValue
import HandS.Defaults
import HandS.Head0
import HandS.Head1
import HandS.Head2
import HandS.HeadEnd
import HandS.HeadHook4
import HandS.Lambda
import HandS.Walk
import KE.GoesEnum
import HandS.Text
import KE.IntTextLaws
import KE.IntTextText
import HandS.Conv
import HandS.Wide
import HandS.SlotsOwn
import OpenK.KMeth
import OpenK.KOps
import PyProof.IsiPairs
import PyProof.FactsAll.dict
import HandS.EndTab
import HandS.SetKeys
import PyProof.InstNe
import PySem.Challenge.RW_wobblesnap_k40_bays_as_told
import HandS.Codes
import HandS.More
import HandS.Style
import HandS.Evl
import HandS.RaiseMore
import HandS.TupLe
import HandS.Iter
import HandS.Dict
import HandS.WordsDict
import HandS.HeadWalk
set_option Elab.async false
set_option linter.all false
set_option maxRecDepth 100000
set_option maxHeartbeats 2000000
namespace PySem
namespace DrX
open PySem.W PySem.Calls PyProof.Rows PySem.HandSPX
/-! ### the text of __init__ -/
def iA (p1 p2 : Pos) : Arguments := { posonlyargs := [], args := [{ arg := "self", annotation := none, pos := p1 }, { arg := "value", annotation := none, pos := p2 }], vararg := none, kwonlyargs := [], kw_defaults := [], kwarg := none, defaults := [] }
def iB (q1 q2 q3 q4 : Pos) : List Stmt := [.Assign [.Attribute (.Name "self" q1) "value" q2] (.Name "value" q3) q4]
def iS : Scope := { kind := .function, names := [(PySem.Str.ofString "self", .local), (PySem.Str.ofString "value", .local)], isGenerator := false, isCoroutine := false, more := [] }
/-- what the written part says of Low, at C, and of its __init__, at fI -/
structure ErrT (K : Frag) (C fI : Addr) : Prop where
  cls : ∃ nm q N bs bm sn sub ab col dd k0 k1 k2 k3 k5, K.lookup C = some (excClassObj nm q C N bs bm true sn sub ab col dd k0 k1 k2 k3 k5 "ValueError.__new__") ∧ refsVE bm = true
  sa : findIn K (.ref C) "__setattr__" = some (some (.builtin "object.__setattr__"))
  ga : findIn K (.ref C) "__getattribute__" = some (some (.builtin "BaseException.__getattribute__"))
  gg : findIn K (.ref C) "__getattr__" = some none
  noN : findIn K (.ref C) "value" = some none
  iC : findIn K (.ref C) "__init__" = some (some (.ref fI))
  tC : typeIn K (.ref fI) = some (.type "function")
  kC : keepIn K (.ref C) = true
  exC : subIn K (.ref C) (.type "BaseException") = some true
  tyC : typeIn K (.ref C) = some (.type "type")
  hdC : hasDictIn K C = true
  cls' : (clsIn K C).isSome = true
  ha : findIn K (.ref C) "__class__" = some (some (.builtin "object.__class__"))
  hn : specialIn K (.builtin "object.__class__") "__get__" = some (some (.builtin "getset_descriptor.__get__"))
  ht : takesIn K (.builtin "object.__class__") = some true
  hm : mroIn K C (.type "object") = some true
  fn : ∃ (oc : Value) (od : Option Addr) (kV doc pm : Value) (an : Option Addr) (cdv ct : Value) (osl : Array (Option Value)) (p1 p2 q1 q2 q3 q4 : Pos),
    K.lookup fI = some ⟨oc, od, .func (fnOf "__init__" "DrawError.__init__" (iA p1 p2) (iB q1 q2 q3 q4) iS .none kV doc pm an cdv ct), osl⟩ ∧ codeIn K cdv "DrawError.__init__" = true
theorem one_size (v : Value) : [v].length ≤ sizeLine := by
  rw [sizeLine_eq]
  exact (by decide : 1 ≤ 16777216)
theorem kept_but {K : Frag} {h h' : Heap} {x : Addr} (X : K.In h) (hx : K.lookup x = none) (k : ∀ b o, b ≠ x → h.get? b = some o → h'.get? b = some o) : K.In h' := fun a o e =>
  k a o (fun z => by rw [z, hx] at e; cases e) (X a o e)
theorem ldC {M : Model} {s : Shared} {name : Str} {scope : Scope} {L a : Addr} {cd : Value} {m : Str → Option Value} {x : Str} {pos : Pos} {v : Value} {Q : Value → Shared → Prop} {A : Around} {E : Value → Shared → Prop} (hn : s.heap.Ns L m) (hv : m x = some v) (h : Q v s)
    (hk : scope.kind = .function := by rfl) (hl : (envOfC name scope L a cd).kindOf x = some .local := by rfl) (hd : (x == ("__debug__" : Str)) = false := by decide) :
    wpAny M A (eval (.Name x pos) (envOfC name scope L a cd)) Q E s := wpAny_Name (wpAny_loadName_local hk hl hn hv h) hd
/-- what __init__ leaves of a fresh exception at x -/
structure InitEnd (h h' : Heap) (x C dx t1 : Addr) (v : Value) : Prop where
  keep : ∀ b o, b ≠ x → h.get? b = some o → h'.get? b = some o
  obj : h'.get? x = some { cls := .ref C, dict := some dx, data := .fields #[.ref t1, .none, .none, .none, .bool false, .none] }
  dbig : h.objs.size ≤ dx
  dne : dx ≠ x
  ns : h'.Ns1 dx (fun y => if y = "value" then some v else none)
/-- a made Low -/
structure OwnMade (h h' : Heap) (e C d : Addr) (v : Value) : Prop where
  keep : ∀ b o, h.get? b = some o → h'.get? b = some o
  new : h.objs.size ≤ e
  obj : ∃ oe vs, h'.get? e = some oe ∧ oe.cls = .ref C ∧ oe.dict = some d ∧ oe.data = .fields vs ∧ vs[1]? = some .none
  dbig : h.objs.size ≤ d
  dne : d ≠ e
  ns : h'.Ns1 d (fun y => if y = "value" then some v else none)
section
variable {prog : Program} {w : World} {A : Around} {E : Value → Shared → Prop} {R : Result → Shared → Prop} {s : Shared} {K : Frag} {C fI : Addr}
theorem low_init (T : ErrT K C fI) {x t0 : Addr} {v : Value} (X : K.In s.heap) (hlim : s.heap.NoLimit) (hx : s.heap.get? x = some (excO C t0)) (hnx : K.lookup x = none) (hroom : A.depth < recursionLimit)
    (hq : ∀ h' tk dx, InitEnd s.heap h' x C dx t0 v → R (.ok (.ret .none)) { s with heap := h', toks := tk }) :
    codeAny (model prog w) A (.call (.ref fI) ⟨[.ref x, v], []⟩) R s := by
  obtain ⟨oc, od, kV, doc, pm, an, cdv, ct, osl, p1, p2, q1, q2, q3, q4, ho, hcd⟩ := T.fn
  obtain ⟨nm, q, N, bs, bm, sn, sub, ab, col, dd, k0, k1, k2, k3, k5, hC, hbm⟩ := T.cls
  have hcl : clsIn K C = some { name := nm, bases := bs, mro := .ref C :: bm, ns := N, qualname := q, hasDict := true, slotNames := sn, subclasses := sub, abstract := ab, collection := col, hasDel := false } := by unfold clsIn; rw [hC] <;> rfl
  refine Att.call_fn (binds := [("self", .ref x), ("value", v)]) X hlim ho hcd hroom (BindsTo.of_eq (by first | rfl | with_unfolding_all rfl)) (by first | rfl | decide | with_unfolding_all rfl) (fun s₁ IC => ?_) rfl rfl rfl
  obtain ⟨h₁, tk₁, rfl⟩ := IC.toInCall.same
  have k : ∀ b o, s.heap.get? b = some o → h₁.get? b = some o := IC.toInCall.keep
  have hn := IC.toInCall.ns
  have hxL : s.heap.objs.size ≠ x := Nat.ne_of_gt (Heap.lt_size hx)
  have X₁ : K.In h₁ := X.keeps k
  have hx₁ := k _ _ hx
  -- self.by = by
  show wpAny _ _ (execs _ _) _ _ _
  refine wpAny_execs_cons (plainObj_wpAny_Assign_Attribute ?_)
  refine ldC (v := v) hn (by first | rfl | with_unfolding_all rfl | kernel_rfl) (ldC (v := .ref x) hn (by first | rfl | with_unfolding_all rfl | kernel_rfl) ?_)
  refine set_plain X₁ (ox := excO C t0) (od := none) ⟨hx₁, rfl, rfl, trivial⟩ T.sa ?_
  refine exc_osa X₁ hx₁ hcl (show refsVE (.ref C :: bm) = true from hbm) rfl T.noN (fun h₃ tk₃ dx k₃ dn dne hx₃ hn₃ => ?_)
  show wpAny _ _ (execs _ _) _ _ _
  have z : s.heap.objs.size < h₁.objs.size := hn.lt
  exact wpAny_execs_nil (hq h₃ tk₃ dx ⟨fun b o hb e => k₃ b o hb (k b o e), hx₃, Nat.le_of_lt (Nat.lt_of_lt_of_le z dn), dne, hn₃⟩)
theorem low_made (T : ErrT K C fI) {v : Value} (X : K.In s.heap) (hlim : s.heap.NoLimit) (hroom : A.depth + 1 < recursionLimit)
    (hq : ∀ h' tk e d, OwnMade s.heap h' e C d v → R (.ok (.ret (.ref e))) { s with heap := h', toks := tk }) :
    codeAny (model prog w) A (.call (.ref C) ⟨[v], []⟩) R s := by
  obtain ⟨nm, q, N, bs, bm, sn, sub, ab, col, dd, k0, k1, k2, k3, k5, hC, hbm⟩ := T.cls
  obtain ⟨hp, g, dr, tk, os⟩ := s
  have k : ∀ b o, hp.get? b = some o → ((hp.push (kdv_tup [v])).push (excO C hp.objs.size)).get? b = some o := fun b o e => Heap.get?_push_of_some _ (Heap.get?_push_of_some _ e)
  have hget : ((hp.push (kdv_tup [v])).push (excO C hp.objs.size)).get? (hp.objs.size + 1) = some (excO C hp.objs.size) := by heap_get
  have hnx : K.lookup (hp.objs.size + 1) = none := by
    cases e : K.lookup (hp.objs.size + 1) with
    | none => rfl
    | some o =>
      have z : hp.get? (hp.objs.size + 1) = some o := X _ _ e
      exact absurd (Nat.lt_of_succ_lt (Heap.lt_size z)) (Nat.lt_irrefl _)
  refine call_own F.excBase_ValueError (fun X => refsVE_contains X bm hbm) (X _ _ hC) (looks_findIn X T.iC) (fun self => bind_fn X self T.tC) (one_size v) ?_
  refine low_init (s := ⟨(hp.push (kdv_tup [v])).push (excO C hp.objs.size), g, dr, tk, os⟩) T (X.keeps k) (hlim.keeps k) hget hnx ?_ fun h' tk' dx ⟨k', hx, dn, dne, hns⟩ => ?_
  · show A.depth + 1 < recursionLimit
    exact hroom
  · have old : ∀ b o, hp.get? b = some o → h'.get? b = some o := fun b o e => k' b o (Nat.ne_of_lt (Nat.lt_succ_of_lt (Heap.lt_size e))) (k b o e)
    have z : hp.objs.size + 1 + 1 ≤ dx := by
      first
        | (simpa only [Heap.size_push] using dn)
        | exact dn
        | (have q := dn; rw [Heap.size_push, Heap.size_push] at q; exact q)
    exact ⟨rfl, hq h' tk' (hp.objs.size + 1) dx ⟨old, Nat.le_succ _, ⟨_, _, hx, rfl, rfl, rfl, rfl⟩, Nat.le_trans (Nat.le_trans (Nat.le_succ _) (Nat.le_succ _)) z, dne, hns⟩⟩
end
end DrX
end PySem

set_option Elab.async false
set_option linter.all false
set_option maxRecDepth 100000
set_option maxHeartbeats 2000000
namespace L2.Vx
open PySem PySem.Spec PyProof.Rows

/-- the written facts of an error class, with the name of it -/
abbrev ErrT := @PySem.DrX.ErrT

/-- at a stands an exception of the class cls, its own dict, if there is one, at d -/
def EX (a : Addr) (cls : Value) (d : Option Addr) : HO :=
  .ext fun h => ∃ oe vs, h.get? a = some oe ∧ Zc cls d oe ∧ oe.data = .fields vs
theorem ex_ok {P : Program} {w : World} {H : Hp} {h : Heap} {a : Addr} {cls : Value} {d : Option Addr} {oe : Obj} {vs : Array Value}
    (e : h.get? a = some oe) (z : Zc cls d oe) (q : oe.data = .fields vs) : ObjOk P w H h a (EX a cls d) :=
  ⟨⟨oe, vs, e, z, q⟩, ⟨oe, e⟩, fun _ _ ⟨o, v, p, r⟩ k => ⟨o, v, k o p, r⟩⟩
theorem ex_at {P : Program} {w : World} {H : Hp} {h : Heap} {a : Addr} {cls : Value} {d : Option Addr} (ok : HOk P w H h)
    (e : H a = some (EX a cls d)) : ∃ oe vs, h.get? a = some oe ∧ Zc cls d oe ∧ oe.data = .fields vs := (ok a _ e).1
/-- the state is another one, its heap the same -/
theorem inv_same {X : Cx} {pins : List (Addr × Obj)} {σ : St} {H : Hp} {s s' : Shared} (I : Inv X pins σ H s) (e : s'.heap = s.heap)
    (os : s'.os = s.os) (bare : AllBare s'.gens) : Inv X pins σ H s' := by
  obtain ⟨h, g, dr, tk, o⟩ := s
  obtain ⟨h', g', dr', tk', o'⟩ := s'
  obtain rfl : h' = h := e
  obtain rfl : o' = o := os
  exact ⟨I.ok, I.os, bare, I.base, I.loc, I.cell, I.free, I.freeC, I.pin, I.hok, I.len⟩
/-- what makes an exception, as a value: it is tracked from now on -/
theorem pe_mk {X : Cx} {e : Expr} {t : St → Hp → XK → Prop} (he : PMk X e t) :
    PE X e (fun σ H Q => t σ H fun cls d H1 => ∀ a, H1 a = none → Q (.ref a) (upd H1 a (EX a cls d))) := by
  refine ⟨fun pins s σ H Q I h => ?_⟩
  refine wpAny_mono (he pins s σ H _ I h) (fun u s1 hu => ?_) fun _ _ x => x
  obtain ⟨a, oe, vs, sI, H', cls, d, rfl, J, k, hne, ha, hz, hd, _, na, os, ag, _, q⟩ := hu
  have J2 := J.laidN (t' := s1.toks) (h' := s1.heap) k hne na (ex_ok (P := X.prog) (w := X.w) (H := upd H' a (EX a cls d)) ha hz hd)
  exact ⟨.ref a, _, inv_same J2 rfl os ag, rfl, q a na⟩

/-- the own dict of an error that keeps v -/
abbrev xv (v : V) : HO := .xd [(("value" : Str), v)]
theorem look_xv {v : V} : List.lookup ("value" : Str) [(("value" : Str), v)] = some v := by simp [List.lookup]
theorem rel_xv {v : V} {u : Value} (r : RelV v u) (f : Str) :
    RelO (List.lookup f [(("value" : Str), v)]) (if f = "value" then some u else none) := by
  by_cases hf : f = "value"
  · subst hf
    rw [if_pos rfl, look_xv]
    exact r
  · rw [if_neg hf]
    have q : (f == ("value" : Str)) = false := by simpa using hf
    have q2 : List.lookup f [(("value" : Str), v)] = none := by simp [List.lookup, q]
    rw [q2]
    trivial

section
variable {X : Cx} {C fI : Addr}

/-- the call of an error class, whatever is made of it -/
theorem run_err {x : Str} {a : Expr} {ta : TA} {p pos : Pos} {k : Nat} (T : ErrT X.K C fI) (hm : X.mg x = some (.ref C))
    (hr : Room k X.A) (ha : PA X [a] ta) (hg : Gl X x) (hdb : (x == ("__debug__" : Str)) = false)
    (he : starEach (a :: []) X.env = (false, eval a X.env) :: starEach [] X.env)
    (hpl : (backTo pos (starEach [] X.env)).any (·.1) = false)
    {pins : List (Addr × Obj)} {s : Shared} {σ : St} {H : Hp} {Q : V → Hp → Prop} {R : Value → Shared → Prop} (I : Inv X pins σ H s)
    (h : ta σ H fun vs H1 => ∃ v, vs = [v] ∧ Q v H1)
    (fin : ∀ (v : V) (H1 : Hp) (e d : Addr) (G h' : Heap) (g : Array GenState) (dr : Drawn) (tk' : Nat) (os : OsState) (oe : Obj) (fv : Array Value),
      Inv X pins σ (upd H1 d (xv v)) ⟨G, g, dr, tk', os⟩ → (∀ b o, G.get? b = some o → h'.get? b = some o) → G.get? e = none →
      h'.get? e = some oe → Zc (.ref C) (some d) oe → oe.data = .fields fv → fv[1]? = some .none → H1 e = none → H1 d = none → d ≠ e → Q v H1 →
      AllBare g → R (.ref e) ⟨h', g, dr, tk', os⟩) :
    wpAny (model X.prog X.w) X.A (eval (.Call (.Name x p) [a] [] pos) X.env) R X.xe s := by
  refine wpAny_Call_Name_kw (ld_glob I hg hm ?_ hdb)
  refine PySem.W.callWith_K (h₀ := X.base) I.ok.mod.kin T.kC (thn (ha.run pos pins s σ H _ I h) fun us s1 hh => ?_) he hpl
  obtain ⟨vs, H1, I1, r1, v, ev, q1⟩ := hh
  subst ev
  refine ⟨I1.kIn, ?_⟩
  cases r1 with
  | cons rv rn =>
    rename_i v' us'
    cases rn
    have hlim := I1.nolimit
    obtain ⟨hp, g, dr, tk, os⟩ := s1
    refine wpAny_call (PySem.DrX.low_made T I1.kIn hlim (by have := hr.dp; omega) fun h' tk' e d M => ?_)
    obtain ⟨oe, fv, hoe, hc, hd, hdat, h1⟩ := M.obj
    obtain ⟨G', g1, g2⟩ := restrict h' fun b => decide (b ≠ e)
    have gk : ∀ b, b ≠ e → G'.get? b = h'.get? b := fun b hb => g1 b (decide_eq_true hb)
    have ge : G'.get? e = none := g2 e (by simp)
    have old : ∀ b o, hp.get? b = some o → G'.get? b = some o := fun b o q =>
      (gk b (Nat.ne_of_lt (Nat.lt_of_lt_of_le (Heap.lt_size q) M.new))).trans (M.keep b o q)
    have ob : ObjOk X.prog X.w (upd H1 d (xv v)) G' d (xv v) :=
      ⟨_, M.ns.at (fun o q => (gk d M.dne).trans q), fun f => rel_xv rv f⟩
    have J : Inv X pins σ (upd H1 d (xv v)) ⟨G', g, dr, tk', os⟩ := I1.laid (t' := tk') old M.dbig ob
    refine fin v H1 e d G' h' g dr tk' os oe fv J (fun b o q => ?_) ge hoe ⟨hc, hd⟩ hdat h1 (I1.hok.fresh M.new) (I1.hok.fresh M.dbig) M.dne q1 I1.bare
    by_cases hb : b = e
    · rw [hb, ge] at q
      cases q
    · exact (gk b hb).symm.trans q

/-- C(e), to be raised -/
def tMkE (C : Addr) (ta : TA) : St → Hp → XK → Prop := fun σ H Q => ta σ H fun vs H1 =>
  ∃ v, vs = [v] ∧ ∀ d, H1 d = none → Q (.ref C) (some d) (upd H1 d (xv v))
theorem pmk_err {x : Str} {a : Expr} {ta : TA} {p pos : Pos} {k : Nat} (T : ErrT X.K C fI) (hm : X.mg x = some (.ref C))
    (hr : Room k X.A) (ha : PA X [a] ta) (hg : Gl X x := by rfl) (hdb : (x == ("__debug__" : Str)) = false := by decide)
    (he : starEach (a :: []) X.env = (false, eval a X.env) :: starEach [] X.env := by rfl)
    (hpl : (backTo pos (starEach [] X.env)).any (·.1) = false := by rfl) :
    PMk X (.Call (.Name x p) [a] [] pos) (tMkE C ta) := by
  intro pins s σ H Q I h
  refine run_err T hm hr ha hg hdb he hpl I (Q := fun v H1 => ∀ d, H1 d = none → Q (.ref C) (some d) (upd H1 d (xv v))) h ?_
  intro v H1 e d G h' g dr tk' os oe fv J k ge hoe hz hdat h1 ne nd ned q hb
  have hn : upd H1 d (xv v) e = none := by rw [upd_ne (Ne.symm ned)]; exact ne
  exact ⟨e, oe, fv, _, _, .ref C, some d, rfl, J, k, ge, hoe, hz, hdat, h1, hn, rfl, hb, raises_own T.exC T.tyC, q d nd⟩
/-- raise C(e) -/
theorem ps_err {W : WX} {x : Str} {a : Expr} {ta : TA} {p pos pos2 : Pos} {k : Nat} (hc : X.calm = true) (T : ErrT X.K C fI)
    (hm : X.mg x = some (.ref C)) (hr : Room k X.A) (tk : Takes X W) (ha : PA X [a] ta) (hg : Gl X x := by rfl)
    (hdb : (x == ("__debug__" : Str)) = false := by decide)
    (he : starEach (a :: []) X.env = (false, eval a X.env) :: starEach [] X.env := by rfl)
    (hpl : (backTo pos (starEach [] X.env)).any (·.1) = false := by rfl) :
    PS X (.Raise (some (.Call (.Name x p) [a] [] pos)) none pos2) (fun _ σ H => tMkE C ta σ H fun cls d H' => W cls d σ H') :=
  ps_raise hc tk (pmk_err T hm hr ha hg hdb he hpl)

/-- C(e) as a value -/
def tExc (C : Addr) (ta : TA) : TE := fun σ H Q => tMkE C ta σ H fun cls d H1 => ∀ a, H1 a = none → Q (.ref a) (upd H1 a (EX a cls d))
theorem pe_exc {x : Str} {a : Expr} {ta : TA} {p pos : Pos} {k : Nat} (T : ErrT X.K C fI) (hm : X.mg x = some (.ref C))
    (hr : Room k X.A) (ha : PA X [a] ta) (hg : Gl X x := by rfl) (hdb : (x == ("__debug__" : Str)) = false := by decide)
    (he : starEach (a :: []) X.env = (false, eval a X.env) :: starEach [] X.env := by rfl)
    (hpl : (backTo pos (starEach [] X.env)).any (·.1) = false := by rfl) :
    PE X (.Call (.Name x p) [a] [] pos) (tExc C ta) := pe_mk (pmk_err T hm hr ha hg hdb he hpl)

/-- what is known of an error that is held: its class of one's own, its dict with the value; or a plain ValueError -/
def Held (K : PySem.W.Frag) (H : Hp) (a : Addr) (cls : Value) : Prop :=
  (∃ C d fI v, cls = .ref C ∧ H a = some (EX a cls (some d)) ∧ H d = some (xv v) ∧ ErrT K C fI) ∨
  (cls = .type "ValueError" ∧ H a = some (EX a cls none))
/-- e.value, e a tracked error -/
def tVal (K : PySem.W.Frag) (te : TE) : TE := fun σ H Q => te σ H fun x H1 => ∃ a C d fI v,
  x = .ref a ∧ H1 a = some (EX a (.ref C) (some d)) ∧ ErrT K C fI ∧ H1 d = some (xv v) ∧ Q v H1
theorem inst_ex {h : Heap} {a C d : Addr} {oe : Obj} {vs : Array Value} {mA : Str → Option Value} (ho : h.get? a = some oe)
    (hz : Zc (.ref C) (some d) oe) (hd : oe.data = .fields vs) (hns : h.Ns1 d mA) :
    ∃ od, PySem.W.InstAt h a oe C (some od) ∧ ∀ name, PySem.W.lookIn name od = some (mA name) := by
  obtain ⟨od, hod, hl⟩ := lookIn_ns hns
  exact ⟨od, ⟨ho, hz.1, by unfold PySem.W.notCls; rw [hd] <;> rfl, by rw [hz.2]; exact hod⟩, hl⟩
theorem pe_val {e : Expr} {te : TE} {pos : Pos} (he : PE X e te)
    (hb : attributeBase e "value" X.env (eval e X.env) = eval e X.env := by rfl) : PE X (.Attribute e "value" pos) (tVal X.K te) := by
  refine ⟨fun pins s σ H Q I h => ?_⟩
  refine attr_of hb (thn (he.run pins s σ H _ I h) fun u s1 hh => ?_)
  obtain ⟨x, H1, I1, rx, a, C, d, fI, v, ex, ea, T, ed, q⟩ := hh
  subst ex
  obtain rfl : u = Value.ref a := rx
  obtain ⟨oe, vs, ho, hz, hd⟩ := ex_at I1.hok ea
  have hx : ObjOk X.prog X.w H1 s1.heap d (xv v) := I1.hok d _ ed
  obtain ⟨mA, hns, hr⟩ := hx
  obtain ⟨od, J, hl⟩ := inst_ex ho hz hd hns
  obtain ⟨u, hu, ru⟩ := RelO.some_of (v := v) (o := mA "value") (by rw [← look_xv (v := v)]; exact hr "value")
  exact HandSPX.exc_get I1.kIn J T.ga T.gg T.exC (PySem.W.findObj_own T.hdC T.noN rfl (by rw [hl, hu])) (handed_of ru) ⟨v, H1, I1.tok _, ru, q⟩

/-- isinstance(e, c), e a tracked error -/
def rIsX (K : PySem.W.Frag) : List V → Hp → VK → Prop := fun xs H Q => ∃ (a : Addr) (cls : Value) (c : V) (cv : Value) (b : Bool),
  xs = [.ref a, c] ∧ Held K H a cls ∧ (∀ u, RelV c u → u = cv) ∧ PySem.W.kitOne K cls cv = some b ∧ Q (.bl b) H
theorem call_isX : CallR X (.builtin "isinstance") (rIsX X.K) := by
  intro pins s σ H xs us Q I r h
  obtain ⟨a, cls, c, cv, b, rfl, hh, hcv, e, q⟩ := h
  cases r with
  | cons rx rr =>
    cases rr with
    | cons rt rr =>
      cases rr
      cases rx
      have ec := hcv _ rt
      subst ec
      have fin : ∀ tk : Nat, EP X pins σ Q (.bool b) { s with toks := tk } := fun tk => ⟨.bl b, H, I.kept (t' := tk) fun _ _ z => z, rfl, q⟩
      rcases hh with ⟨C, d, fI, v, rfl, ea, ed, T⟩ | ⟨rfl, ea⟩
      · obtain ⟨oe, vs, ho, hz, hd⟩ := ex_at I.hok ea
        have hx : ObjOk X.prog X.w H s.heap d (xv v) := I.hok d _ ed
        obtain ⟨mA, hns, _⟩ := hx
        obtain ⟨od, J, _⟩ := inst_ex ho hz hd hns
        exact PySem.W.kia_one (PySem.W.kitx_exc T.cls' T.ga T.gg T.exC T.ha T.hn T.ht T.hm) I.kIn J e (fun z => nomatch z) fin
      · obtain ⟨oe, vs, ho, hz, hd⟩ := ex_at I.hok ea
        exact PySem.W.kia_one (PySem.W.kitx_bexc PySem.F.excAttr_ValueError PySem.F.lkClass_ValueError PySem.F.soClass_ValueError (by decide)) I.kIn ⟨oe, ho, hz.1⟩ e (fun z => nomatch z) fin
end
end L2.Vx

set_option Elab.async false
set_option linter.all false
set_option maxRecDepth 100000
set_option maxHeartbeats 2000000
namespace L2.Vx
open PySem PySem.Spec PyProof.Rows

/-! ### data at an address, dicts with it -/
def kd : Key → PyData
  | .inl i => .int i
  | .inr x => .str x
mutual
inductive Dd (K : PySem.W.Frag) (H : Hp) : V → PyData → Prop
  | non : Dd K H .non .none
  | bl (b : Bool) : Dd K H (.bl b) (.bool b)
  | int (i : Int) : Dd K H (.int i) (.int i)
  | str (x : Str) : Dd K H (.str x) (.str x)
  | lst {a : Addr} {xs : List V} {ds : List PyData} : SqL K H a xs → DdAll K H xs ds → Dd K H (.ref a) (.list ds)
  | tup {a : Addr} {xs : List V} {ds : List PyData} : SqT K H a xs → DdAll K H xs ds → Dd K H (.ref a) (.tuple ds)
  | dct {a : Addr} {kvs : List (Key × V)} {ds : List PyData} : H a = some (.dK kvs) → DdAll K H (kvs.map (·.2)) ds →
      Dd K H (.ref a) (.dict ((kvs.map fun p => kd p.1).zip ds))
inductive DdAll (K : PySem.W.Frag) (H : Hp) : List V → List PyData → Prop
  | nil : DdAll K H [] []
  | cons {v : V} {vs : List V} {d : PyData} {ds : List PyData} : Dd K H v d → DdAll K H vs ds → DdAll K H (v :: vs) (d :: ds)
end
/-! no list in it -/
mutual
def noL : PyData → Bool
  | .none | .bool _ | .int _ | .str _ => true
  | .list _ => false
  | .tuple xs => noLs xs
  | .dict kvs => noLk kvs
def noLs : List PyData → Bool
  | [] => true
  | x :: xs => noL x && noLs xs
def noLk : List (PyData × PyData) → Bool
  | [] => true
  | (_, v) :: r => noL v && noLk r
end
theorem noLk_zip : ∀ (ks ds : List PyData), ks.length = ds.length → noLk (ks.zip ds) = noLs ds
  | [], [], _ => rfl
  | k :: ks, d :: ds, h => by
    show (noL d && noLk (ks.zip ds)) = (noL d && noLs ds)
    rw [noLk_zip ks ds (Nat.succ.inj h)]
  | [], _ :: _, h => by cases h
  | _ :: _, [], h => by cases h
theorem DdAll.len {K : PySem.W.Frag} {H : Hp} : ∀ {vs : List V} {ds : List PyData}, DdAll K H vs ds → vs.length = ds.length
  | _, _, .nil => rfl
  | _, _, .cons _ t => congrArg (· + 1) t.len

theorem reads_keys {P : Program} {w : World} {h : Heap} : ∀ (es : List DictEntry) (kvs : List (Key × Value)), Pairs (mixKind P w) es kvs →
    ReadsAll h (es.map (·.key)) (kvs.map fun p => kd p.1) [] ∧ es.map (·.val) = kvs.map (·.2)
  | _, _, .nil => ⟨.nil, rfl⟩
  | e :: es, kv :: kvs, .cons hk hv t => by
    obtain ⟨r, q⟩ := reads_keys es kvs t
    refine ⟨?_, by rw [List.map_cons, List.map_cons, hv, q]⟩
    have r1 : Reads h e.key (kd kv.1) [] := by
      rcases keyIs_shape (show keyIs kv.1 e.key = true from hk) with ⟨i, t, e1, e2⟩ | ⟨x, t, e1, e2⟩
      · rw [e1, e2]; exact .int i t
      · rw [e1, e2]; exact .str x t
    exact ReadsAll.cons r1 r
theorem kv_keys {κ : Type} : ∀ (kvs : List (κ × V)) (us : List (κ × Value)), KV kvs us → kvs.map (·.1) = us.map (·.1) ∧ Vals (kvs.map (·.2)) (us.map (·.2))
  | _, _, .nil => ⟨rfl, .nil⟩
  | _, _, .cons r t => by
    obtain ⟨q1, q2⟩ := kv_keys _ _ t
    exact ⟨by rw [List.map_cons, List.map_cons, r.1, q1], .cons r.2 q2⟩

section
variable {X : Cx} {pins : List (Addr × Obj)} {σ : St} {H : Hp} {s : Shared}
mutual
theorem Dd.reads (I : Inv X pins σ H s) : ∀ {v : V} {d : PyData}, Dd X.K H v d → ∀ u : Value, RelV v u → ∃ as, Reads s.heap u d as ∧ (noL d = true → sysModules ∉ as)
  | _, _, .non, u, r => by
    obtain rfl : u = Value.none := r
    exact ⟨_, Reads.none, fun _ z => by cases z⟩
  | _, _, .bl b, u, r => by
    obtain rfl : u = Value.bool b := r
    exact ⟨_, Reads.bool b, fun _ z => by cases z⟩
  | _, _, .int i, u, r => by
    obtain ⟨t, rfl⟩ := (show ∃ t, u = Value.int i t from r)
    exact ⟨_, Reads.int i t, fun _ z => by cases z⟩
  | _, _, .str x, u, r => by
    obtain ⟨t, rfl⟩ := (show ∃ t, u = Value.str x t from r)
    exact ⟨_, Reads.str x t, fun _ z => by cases z⟩
  | _, _, .lst (a := a) hs ha, u, r => by
    obtain rfl : u = Value.ref a := r
    obtain ⟨its, rv, ⟨o, n, ho, hc, _, hd⟩, _⟩ := I.list hs
    obtain ⟨as, hr, _⟩ := Dd.readsAll I ha its rv
    exact ⟨_, Reads.list ho hc hd hr, fun z => by cases z⟩
  | _, _, .tup (a := a) hs ha, u, r => by
    obtain rfl : u = Value.ref a := r
    obtain ⟨its, rv, ⟨o, ho, hc, n, hd⟩, _⟩ := I.tuple hs
    obtain ⟨as, hr, hn⟩ := Dd.readsAll I ha its rv
    exact ⟨_, Reads.tuple ho hc hd hr, hn⟩
  | _, _, .dct (a := a) (kvs := pvs) (ds := ds) he ha, u, r => by
    obtain rfl : u = Value.ref a := r
    obtain ⟨_, hne, us, rk, ob, es, ep, ho, hx, hd, _, hp, _⟩ := I.hok _ _ he
    obtain ⟨rk1, rk2⟩ := kv_keys _ _ rk
    obtain ⟨q1, q2⟩ := reads_keys (h := s.heap) es.toList us hp
    have hl : (pvs.map fun p => kd p.1).length = ds.length := by
      rw [List.length_map]
      have := ha.len
      rw [List.length_map] at this
      exact this
    obtain ⟨as, hr, hn⟩ := Dd.readsAll I ha (us.map (·.2)) rk2
    have e1 : us.map (fun p => kd p.1) = pvs.map (fun p => kd p.1) := by
      have := congrArg (List.map kd) rk1
      rw [List.map_map, List.map_map] at this
      exact this.symm
    have f1 : ((pvs.map fun p => kd p.1).zip ds).map (·.1) = pvs.map fun p => kd p.1 := List.map_fst_zip (by rw [hl]; exact Nat.le_refl _)
    have f2 : ((pvs.map fun p => kd p.1).zip ds).map (·.2) = ds := List.map_snd_zip (by rw [hl]; exact Nat.le_refl _)
    refine ⟨_, Reads.dict ho hx.1 hd (as := []) (bs := as) (by rw [f1, ← e1]; exact q1) (by rw [f2, q2]; exact hr), fun z => ?_⟩
    intro hm
    rcases List.mem_cons.mp (show sysModules ∈ a :: ([] ++ as) from hm) with e | hm
    · rw [← e] at hne
      simp at hne
    · exact hn (by rw [← noLk_zip _ _ hl]; exact z) hm
theorem Dd.readsAll (I : Inv X pins σ H s) : ∀ {vs : List V} {ds : List PyData}, DdAll X.K H vs ds → ∀ us : List Value, Vals vs us → ∃ as, ReadsAll s.heap us ds as ∧ (noLs ds = true → sysModules ∉ as)
  | _, _, .nil, us, r => by
    cases r
    exact ⟨_, ReadsAll.nil, fun _ z => by cases z⟩
  | _, _, .cons h1 h2, us, r => by
    cases r with
    | cons r1 r2 =>
      obtain ⟨as, q1, n1⟩ := Dd.reads I h1 _ r1
      obtain ⟨bs, q2, n2⟩ := Dd.readsAll I h2 _ r2
      refine ⟨_, ReadsAll.cons q1 q2, fun z hm => ?_⟩
      obtain ⟨z1, z2⟩ := Bool.and_eq_true_iff.mp z
      rcases List.mem_append.mp hm with m | m
      · exact n1 z1 m
      · exact n2 z2 m
end
end
/-- what repr may be asked of -/
def shOk (d : PyData) : Bool := d.showable && (!d.hasDict || noL d)
/-- repr(x) of data -/
def rRepr (K : PySem.W.Frag) : List V → Hp → VK → Prop := fun xs H Q => ∃ (x : V) (d : PyData),
  xs = [x] ∧ Dd K H x d ∧ shOk d = true ∧ d.depth ≤ 60 ∧ d.shown.length ≤ sizeLine ∧ Q (.str d.shown) H
theorem call_repr {X : Cx} (hg : X.A.guards = some []) (hu : X.A.units + 64 < cLine) : CallR X (.builtin "repr") (rRepr X.K) := by
  intro pins s σ H xs us Q I r h
  obtain ⟨x, d, rfl, hd, hs, hdep, hz, q⟩ := h
  cases r with
  | cons rx rr =>
    cases rr
    rename_i u
    obtain ⟨as, hr, hn⟩ := Dd.reads I hd u rx
    obtain ⟨s1, s2⟩ := Bool.and_eq_true_iff.mp (show (d.showable && (!d.hasDict || noL d)) = true from hs)
    have hsm : d.hasDict = true → sysModules ∉ as := fun z => hn (by rw [z] at s2; simpa using s2)
    have atRef : ∀ {a : Addr}, u = Value.ref a → wpAny (model X.prog X.w) X.A (call (.builtin "repr") [u]) (EP X pins σ Q) X.xe s := fun {a} e => by
      subst e
      exact repr_of_reads' hr s1 hsm hg (by omega) (fun _ _ e => e) (fun h' v tk hk => ⟨.str _, H, I.kept hk, ⟨_, rfl⟩, q⟩) hz
    cases hd with
    | non =>
      obtain rfl : u = Value.none := rx
      exact PySem.P.repr_of_none ⟨.str _, H, I.tok _, ⟨_, rfl⟩, q⟩
    | bl b =>
      obtain rfl : u = Value.bool b := rx
      exact PySem.P.repr_of_bool ⟨.str _, H, I.tok _, ⟨_, rfl⟩, q⟩
    | int i =>
      obtain ⟨t, rfl⟩ := (show ∃ t, u = Value.int i t from rx)
      exact PySem.P.repr_of_int (of_decide_eq_true s1) ⟨.str _, H, I.tok _, ⟨_, rfl⟩, q⟩
    | str x =>
      obtain ⟨t, rfl⟩ := (show ∃ t, u = Value.str x t from rx)
      exact PySem.P.repr_of_str ⟨.str _, H, I.tok _, ⟨_, rfl⟩, q⟩ hz
    | lst _ _ => exact atRef rx
    | tup _ _ => exact atRef rx
    | dct _ _ => exact atRef rx

/-! ### defs that are called where nothing shows itself: the guards are told -/
structure FnG (P : Program) (w : World) (K : PySem.W.Frag) (mg : Str → Option Value) (base : Heap) (CX : CXT) (k : Nat) (f : Addr)
    (fd : FuncData) (ps : List Str) (sp : Sp) : Prop where
  len : ∀ vs H Q E, sp vs H Q E → vs.length = ps.length
  run : ∀ (A : Around) (outer : List Env) (s : Shared) (H : Hp) (args : Args) (us : List Value) (vs : List V) (Q : VK) (E : XK), A.guards = some [] →
    Room k A → Env0 P w K mg base A outer s H → BindsTo s fd args (ps.zip us) → Vals vs us → sp vs H Q E →
      codeAny (model P w) A (.call (.ref f) args) (CR CX outer P w H s Q E) s
section
variable {X : Cx} {CX : CXT} {k : Nat} {f : Addr} {fd : FuncData} {ps : List Str} {sp : Sp} {dvs : List V} {ds : List Value} {E : XK} {x : Str}
  {p pos : Pos} {e : Expr} {es : List Expr} {t : TA}
theorem run_g {pins : List (Addr × Obj)} {σ : St} {H : Hp} {s : Shared} {Q : VK} {us : List Value} {vs : List V}
    (F : FnG X.prog X.w X.K X.mg X.base CX k f fd ps sp) (gd : X.A.guards = some []) (hr : Room k X.A) (hb : Binds X.K fd ps ds) (hd : Vals dvs ds)
    (hx : Passes CX X E) (I : Inv X pins σ H s) (r : Vals vs us) (h : sp (vs ++ dvs) H Q E) :
    wpAny (model X.prog X.w) X.A (call (.ref f) us) (EP X pins σ Q) X.xe s := by
  have r2 := r.append hd
  have hl : (us ++ ds).length = ps.length := r2.length.symm.trans (F.len _ _ _ _ h)
  have hc := F.run X.A X.stack s H ⟨us, []⟩ (us ++ ds) (vs ++ dvs) Q E gd hr I.env0 (hb s us I.kIn hl) r2 h
  refine wpAny_call (codeAny_mono hc fun r s' hq => ?_)
  match r, hq with
  | .error e, hq => exact hx pins σ H s e s' I hq
  | .ok (.ret u), hq => exact I.after hq
  | .ok .next, hq => exact hq.elim
  | .ok .brk, hq => exact hq.elim
  | .ok .cont, hq => exact hq.elim
/-- f(e, ..), f such a def -/
theorem pe_callG (F : FnG X.prog X.w X.K X.mg X.base CX k f fd ps sp) (gd : X.A.guards = some []) (hr : Room k X.A) (hg : Gl X x)
    (hm : X.mg x = some (.ref f)) (hk : PySem.W.keepIn X.K (.ref f) = true) (hb : Binds X.K fd ps ds) (hd : Vals dvs ds) (hx : Passes CX X E)
    (ha : PA X (e :: es) t) (hdb : (x == ("__debug__" : Str)) = false := by decide)
    (he : starEach (e :: es) X.env = (false, eval e X.env) :: starEach es X.env := by rfl)
    (hpl : (backTo pos (starEach es X.env)).any (·.1) = false := by rfl) :
    PE X (.Call (.Name x p) (e :: es) [] pos) (tCall sp dvs E t) := by
  refine ⟨fun pins s σ H Q I h => wpAny_Call_Name_kw (ld_glob I hg hm ?_ hdb)⟩
  have ht := ha.run pos pins s σ H _ I h
  exact PySem.W.callWith_K (h₀ := X.base) I.ok.mod.kin hk
    (thn ht fun us s1 ⟨vs, H1, I1, r, q⟩ => ⟨I1.kIn, run_g F gd hr hb hd hx I1 r q⟩) he hpl
end
section
variable {P : Program} {w : World} {K : PySem.W.Frag} {mg : Str → Option Value} {base : Heap}
/-- a def's promise by its body, the guards told -/
theorem okG {CX : CXT} {x qual : Str} {st : Stmt} {f : Addr} {fd : FuncData} {N ps : List Str} {k : Nat} {sp : Sp} (F : Fun K x qual st f fd)
    (S : FnScope N ps (defScope st)) (len : ∀ vs H Q E, sp vs H Q E → vs.length = ps.length)
    (hbody : ∀ (cdv : Value) (A : Around) (outer : List Env) (s : Shared) (H : Hp) (vs : List V) (Q : VK) (E : XK), A.guards = some [] →
      Room k (A.deeper (envOfC qual (defScope st) s.heap.objs.size f cdv)) → sp vs H Q E →
      ∃ t, PSs (cxOf CX P w K mg base N qual (defScope st) f cdv A outer s H E) (defBody st) t ∧
        t { nx := fun _ H' => Q .non H', rt := Q } (start N vs) H) : FnG P w K mg base CX (k + 1) f fd ps sp := by
  obtain ⟨oc, od, kV, doc, pm, an, cdv, ct, osl, rfl, lk, hcd⟩ := F.ex
  refine ⟨len, fun A outer s H args us vs Q E gd hr e0 hb r hsp => ?_⟩
  have old : ∀ b o, base.get? b = some o → s.heap.get? b = some o := fun b o e => (e0.bs b o e).1
  have KX : K.In s.heap := e0.mod.kin.keeps old
  have par : ∀ y ∈ ps.zip us, (defScope st).names.lookup y.1 = some .local ∨
      ((defScope st).names.lookup y.1 = some .cell ∧ ((cellsFrom (s.heap.objs.size + 1) (defScope st).names []).lookup y.1).isSome = true) := by
    intro y hy
    obtain ⟨n, v⟩ := y
    rcases S.par n (List.of_mem_zip hy).1 with q | q
    · exact .inl q
    · exact .inr ⟨q, PySem.W.cellsFrom_some _ _ _ (.inl q)⟩
  refine codeAny_call_function hr.depth (KX _ _ lk) rfl S.co S.gen rfl (PySem.W.codeRec_of KX hcd) (hb _ _ _ _ ?_)
  refine wpAny_newFunctionEnv_cells S.kind par fun env he s1 ic => ?_
  subst he
  refine ⟨(e0.mod.nolimit.keeps old).keeps ic.toInCall.keep, codeAny_func ?_⟩
  obtain ⟨t, ht, hq⟩ := hbody cdv A outer s H vs Q E gd (hr.deeper _) hsp
  have I := inv_start (CX := CX) (E := E) S hr.hd e0 (len _ _ _ _ hsp) r ic
  refine wpAny_mono (ht.run [] s1 _ H _ I hq) (fun fl s' hs => ?_) fun _ _ z => z
  match fl, hs with
  | .ret u, ⟨v, σ', H', J, rv, q⟩ => exact ⟨v, H', J.os, J.bare, J.base, J.hok, rv, q⟩
  | .next, ⟨σ', H', J, q⟩ => exact ⟨V.non, H', J.os, J.bare, J.base, J.hok, rfl, q⟩
  | .brk, ⟨_, _, _, q⟩ => exact q.elim
  | .cont, ⟨_, _, _, q⟩ => exact q.elim
/-- .. one that lets nothing out -/
theorem okG0 {x qual : Str} {st : Stmt} {f : Addr} {fd : FuncData} {N ps : List Str} {k : Nat} {sp : Sp} (F : Fun K x qual st f fd)
    (S : FnScope N ps (defScope st)) (len : ∀ vs H Q E, sp vs H Q E → vs.length = ps.length)
    (hbody : ∀ (cdv : Value) (A : Around) (outer : List Env) (s : Shared) (H : Hp) (vs : List V) (Q : VK) (E : XK), A.guards = some [] →
      Room k (A.deeper (envOfC qual (defScope st) s.heap.objs.size f cdv)) → sp vs H Q E →
      ∃ t, PSs (cxOf CX0 P w K mg base N qual (defScope st) f cdv A outer s H E).nox (defBody st) t ∧
        t { nx := fun _ H' => Q .non H', rt := Q } (start N vs) H) : FnG P w K mg base CX0 (k + 1) f fd ps sp :=
  okG F S len fun cdv A outer s H vs Q E gd hr hsp => by
    obtain ⟨t, h, q⟩ := hbody cdv A outer s H vs Q E gd hr hsp
    exact ⟨t, h.nox, q⟩
end
end L2.Vx

set_option Elab.async false
set_option linter.all false
set_option maxRecDepth 100000
set_option maxHeartbeats 2000000
namespace L2.Vx
open PySem PySem.Spec PyProof.Rows

/-- the end of a law whose def is told the guards -/
theorem law_callG {P : Program} {w : World} {K : PySem.W.Frag} {mg mb : Str → Option Value} {CX : CXT} {k : Nat} {fa a : Addr} {fd : FuncData} {x : Str} {sp : Sp}
    {s₁ : Shared} {vs : List Value} {ns : List Int}
    (KX : K.In s₁.heap) (hns : s₁.heap.Ns mainGlobals mg) (hb : s₁.heap.Ns builtinsNs mb) (hbb : ∀ x : Str, x ≠ "__name__" → mb x = bootBuiltins x)
    (hlim : s₁.heap.NoLimit) (hg : s₁.gens = #[]) (ha : s₁.heap.get? a = some { cls := .type "list", data := .seq vs.toArray }) (hi : IntsAre vs ns)
    (hl : ns.length ≤ sizeLine) (hr : Room k callerA)
    (F : ∀ base : Heap, K.In base → base.Ns mainGlobals mg → FnG P w K mg base CX k fa fd [x] sp)
    (hbind : ∀ (s : Shared) (u : Value), BindsTo s fd ⟨[u], []⟩ [(x, u)])
    (hsp : ∀ H : Hp, Only H → SqL K H a (ns.map V.int) → sp [.ref a] H (fun v _ => v = .bl true) fun _ _ _ => False)
    (hCX : ∀ H e s', CX [] H s₁ (fun _ _ _ => False) e s' → False) :
    codeAny (model P w) callerA (.call (.ref fa) ⟨[.ref a], []⟩)
      (fun r s' => r = .ok (.ret (.bool true)) ∧ OldK s₁.heap s'.heap ∧ s'.os = s₁.os ∧ AllBare s'.gens) s₁ := by
  have lenV := hi.length
  have rv := vals_ints hi
  -- whatever of the script is tracked
  have any : ∀ H : Hp, Only H → SqL K H a (ns.map V.int) → HOk P w H s₁.heap → (∀ b u, H b = some u → b = a) → (∀ u, H a = some u → K.lookup a = none) →
      codeAny (model P w) callerA (.call (.ref fa) ⟨[.ref a], []⟩)
        (fun r s' => r = .ok (.ret (.bool true)) ∧ OldK s₁.heap s'.heap ∧ s'.os = s₁.os ∧ AllBare s'.gens) s₁ := by
    intro H hO hS hok only free
    have stays : ∀ {b : Addr} {o : Obj}, s₁.heap.get? b = some o → (∀ u, H b = some u → False) → (hidT s₁.heap H).get? b = some o := by
      intro b o e n
      refine hidT_get e ?_
      cases q : H b with
      | none => rfl
      | some u => exact (n u q).elim
    have dictStays : ∀ {b : Addr} {o : Obj} {es : Array DictEntry} {ep : Nat}, s₁.heap.get? b = some o → o.data = .dict es ep → (hidT s₁.heap H).get? b = some o := by
      intro b o es ep e d
      refine stays e fun u q => ?_
      have eb := only b u q
      subst eb
      rw [ha] at e
      cases e
      cases d
    have ns' : ∀ {b : Addr} {m : Str → Option Value}, s₁.heap.Ns b m → (hidT s₁.heap H).Ns b m := by
      intro b m h
      obtain ⟨o, es, ep, e, d, r⟩ := h
      exact ⟨o, es, ep, dictStays e d, d, r⟩
    have KB : K.In (hidT s₁.heap H) := by
      intro b o e
      refine stays (KX b o e) fun u q => ?_
      have eb := only b u q
      subst eb
      rw [free u q] at e
      cases e
    have M : Mod K mg (hidT s₁.heap H) := by
      obtain ⟨mc, h1, h2⟩ := hlim
      exact ⟨KB, ns' hns, ⟨mb, ns' hb, hbb⟩, ⟨mc, ns' h1, h2⟩⟩
    have e0 : Env0 P w K mg (hidT s₁.heap H) callerA [] s₁ H :=
      { frames := rfl, mod := M, bs := fun b o e => of_hidT e, bsz := Nat.le_of_eq (hidT_size _ _), funs := trivial, frf := fun b z => (by cases z), hok := hok, bare := .of_eq hg }
    have run := (F _ KB (ns' hns)).run callerA [] s₁ H ⟨[.ref a], []⟩ [.ref a] [.ref a] _ _ rfl hr e0 (hbind s₁ (.ref a)) (.cons rfl .nil) (hsp H hO hS)
    refine codeAny_mono run fun r s' h => ?_
    match r, h with
    | .error e, h => exact (hCX H e s' h).elim
    | .ok .next, h => exact h.elim
    | .ok .brk, h => exact h.elim
    | .ok .cont, h => exact h.elim
    | .ok (.ret u), ⟨v, H', os, bare, un, hok', r', q⟩ =>
      obtain rfl : v = .bl true := q
      obtain rfl : u = Value.bool true := r'
      refine ⟨rfl, OldK.of_keep fun b o e => ?_, os, bare⟩
      rcases hO b with z | ⟨ob, xs, z⟩
      · exact un.keep b o e z (fun z => by cases z) (fun z => by cases z)
      · obtain ⟨e1, _⟩ := hok b _ z
        obtain ⟨e2, _⟩ := hok' b _ (un.frzs b ob _ z)
        rw [e] at e1
        cases e1
        exact e2
  cases hk : K.lookup a with
  | some o =>
    have e := KX a o hk
    rw [ha] at e
    cases e
    refine any (fun _ => none) (fun _ => .inl rfl) (.inr ⟨_, vs.toArray, _, hk, rfl, rfl, rfl, ?_, by simpa using rv⟩) (fun b u z => by cases z) (fun b u z => by cases z) (fun u z => by cases z)
    rw [List.size_toArray, lenV]
    exact hl
  | none =>
    refine any (fun b => if b = a then some (.frz { cls := .type "list", data := .seq vs.toArray } (.lst (ns.map V.int))) else none) (fun b => ?_)
      (.inl (.inr ⟨{ cls := .type "list", data := .seq vs.toArray }, if_pos rfl⟩)) (fun b u z => ?_) (fun b u z => ?_) (fun _ _ => hk)
    · by_cases q : b = a
      · exact .inr ⟨_, _, if_pos q⟩
      · exact .inl (if_neg q)
    · by_cases q : b = a
      · subst q
        have z := (if_pos rfl).symm.trans z
        cases z
        exact ⟨ha, by rw [List.length_map]; exact hl, vs, _, rv, ha⟩
      · have z := (if_neg q).symm.trans z
        cases z
    · by_cases q : b = a
      · exact q
      · have z := (if_neg q).symm.trans z
        cases z
theorem walk_ofG {l : PySem.W.OpenLaw} {n k : Nat} {q : Program} {loose : List Str} {XP : (Str → Option Value) → Heap → Prop} {YP : World → Heap → Prop} {d : DefRec}
    {K : Params → PySem.W.Frag} {CX : World → CXT} {sp : World → Sp} {x : Str}
    (hn : l.most = some n) (hn2 : n ≤ sizeLine) (hdf : d.params.defaults = []) (hr : Room k callerA) (hY : ∀ (w : World) (h : Heap), YP w h → (K w.params).In h)
    (F : ∀ (w : World) (mg : Str → Option Value) (fa : Addr) (h : Heap), (K w.params).In h → h.Ns mainGlobals mg → mg d.name = some (.ref fa) →
      ∃ fd : FuncData, (∀ (s : Shared) (u : Value), BindsTo s fd ⟨[u], []⟩ [(x, u)]) ∧
        ∀ base : Heap, (K w.params).In base → base.Ns mainGlobals mg → FnG l.prog w (K w.params) mg base (CX w) k fa fd [x] (sp w))
    (hsp : ∀ (w : World) (H : Hp) (a : Addr) (ns : List Int), ns.length ≤ n → Only H → SqL (K w.params) H a (ns.map V.int) →
      sp w [.ref a] H (fun v _ => v = .bl true) fun _ _ _ => False)
    (hCX : ∀ (w : World) (H : Hp) (s : Shared) (e : Value) (s' : Shared), CX w [] H s (fun _ _ _ => False) e s' → False) :
    PySem.W.WalkO q loose XP YP l.row.toRowW d [] (fun f vs => PySem.call f vs) := by
  refine Att.attach_call hn hdf fun w s₀ s₁ mg mb fa o pm cd doc a vs ns G Y ho hd hcd hmg hobj hints hlen hg => ?_
  have KX := hY w _ Y
  obtain ⟨fd, hb, hF⟩ := F w mg fa _ KX G.T.g hmg
  refine law_callG KX G.T.g G.T.b G.T.builtins G.T.nolimit hg hobj hints (Nat.le_trans hlen hn2) hr hF hb (fun H hO hS => ?_) fun H e s' => hCX w H s₁ e s'
  exact hsp w H a ns hlen hO hS
end L2.Vx

set_option Elab.async false
set_option linter.all false
set_option maxRecDepth 100000
set_option maxHeartbeats 2000000
namespace L2.Vx
open PySem PySem.Spec PyProof.Rows
open PySem.W (Frag)

/-! ### the facts of an error class as one Bool -/
/-- the class object itself -/
def ecB (K : Frag) (C : Addr) : Bool := match K.lookup C with
  | some ⟨.type t, _, .cls cd, sl⟩ => decide (t = "type") && (match cd.mro, sl.toList with
    | .ref D :: bm, [_, _, _, _, some (.builtin n), _] => decide (D = C) && (decide (n = "ValueError.__new__") && (!cd.hasDel && (PySem.HandSPX.refsVE bm && cd.hasDict)))
    | _, _ => false)
  | _ => false
theorem ec_ok {K : Frag} {C : Addr} (h : ecB K C = true) : ∃ nm q N bs bm sn sub ab col dd k0 k1 k2 k3 k5,
    K.lookup C = some (excClassObj nm q C N bs bm true sn sub ab col dd k0 k1 k2 k3 k5 "ValueError.__new__") ∧ PySem.HandSPX.refsVE bm = true := by
  unfold ecB at h
  split at h
  · rename_i t dd cd sl ho
    obtain ⟨h0, h⟩ := Bool.and_eq_true_iff.mp h
    split at h
    · rename_i D bm k0 k1 k2 k3 n k5 hm hs
      obtain ⟨h1, h⟩ := Bool.and_eq_true_iff.mp h
      obtain ⟨h2, h⟩ := Bool.and_eq_true_iff.mp h
      obtain ⟨h3, h⟩ := Bool.and_eq_true_iff.mp h
      obtain ⟨h4, h5⟩ := Bool.and_eq_true_iff.mp h
      have e0 := of_decide_eq_true h0
      have e1 := of_decide_eq_true h1
      have e2 := of_decide_eq_true h2
      obtain ⟨nm, bs, mro, ns, qn, hd, sn, sub, ab, col, del⟩ := cd
      dsimp only at hm h3 h4 h5
      have h3' : del = false := by simpa using h3
      subst hm h3' h5 e0 e1 e2
      have hsl : sl = #[k0, k1, k2, k3, some (.builtin "ValueError.__new__"), k5] := by
        rw [← hs]
      subst hsl
      exact ⟨nm, qn, ns, bs, bm, sn, sub, ab, col, dd, k0, k1, k2, k3, k5, ho, h4⟩
    · cases h
  · cases h
def eqV1 (a b : Option (Option Value)) : Bool := decide (a = b)
def errB (K : Frag) (C fI : Addr) : Bool :=
  ecB K C && (eqV1 (PySem.W.findIn K (.ref C) "__setattr__") (some (some (.builtin "object.__setattr__"))) &&
  (eqV1 (PySem.W.findIn K (.ref C) "__getattribute__") (some (some (.builtin "BaseException.__getattribute__"))) &&
  (eqV1 (PySem.W.findIn K (.ref C) "__getattr__") (some none) && (eqV1 (PySem.W.findIn K (.ref C) "value") (some none) &&
  (eqV1 (PySem.W.findIn K (.ref C) "__init__") (some (some (.ref fI))) && (decide (PySem.W.typeIn K (.ref fI) = some (.type "function")) &&
  (PySem.W.keepIn K (.ref C) && (decide (PySem.W.subIn K (.ref C) (.type "BaseException") = some true) &&
  (decide (PySem.W.typeIn K (.ref C) = some (.type "type")) && (PySem.W.hasDictIn K C && ((PySem.W.clsIn K C).isSome &&
  (eqV1 (PySem.W.findIn K (.ref C) "__class__") (some (some (.builtin "object.__class__"))) &&
  (eqV1 (PySem.W.specialIn K (.builtin "object.__class__") "__get__") (some (some (.builtin "getset_descriptor.__get__"))) &&
  (decide (PySem.W.takesIn K (.builtin "object.__class__") = some true) && decide (PySem.W.mroIn K C (.type "object") = some true)))))))))))))))
/-- the own __init__ of all of them -/
def InitF (K : Frag) (fI : Addr) : Prop := ∃ (oc : Value) (od : Option Addr) (kV doc pm : Value) (an : Option Addr) (cdv ct : Value)
  (osl : Array (Option Value)) (p1 p2 q1 q2 q3 q4 : Pos), K.lookup fI = some ⟨oc, od, .func (PySem.W.fnOf "__init__" "DrawError.__init__"
    (PySem.DrX.iA p1 p2) (PySem.DrX.iB q1 q2 q3 q4) PySem.DrX.iS .none kV doc pm an cdv ct), osl⟩ ∧ PySem.W.codeIn K cdv "DrawError.__init__" = true
theorem err_ok {K : Frag} {C fI : Addr} (h : errB K C fI = true) (fn : InitF K fI) : ErrT K C fI := by
  have ba := @Bool.and_eq_true_iff
  obtain ⟨h1, h⟩ := ba.mp h
  obtain ⟨h2, h⟩ := ba.mp h
  obtain ⟨h3, h⟩ := ba.mp h
  obtain ⟨h4, h⟩ := ba.mp h
  obtain ⟨h5, h⟩ := ba.mp h
  obtain ⟨h6, h⟩ := ba.mp h
  obtain ⟨h7, h⟩ := ba.mp h
  obtain ⟨h8, h⟩ := ba.mp h
  obtain ⟨h9, h⟩ := ba.mp h
  obtain ⟨h10, h⟩ := ba.mp h
  obtain ⟨h11, h⟩ := ba.mp h
  obtain ⟨h12, h⟩ := ba.mp h
  obtain ⟨h13, h⟩ := ba.mp h
  obtain ⟨h14, h⟩ := ba.mp h
  obtain ⟨h15, h16⟩ := ba.mp h
  exact { cls := ec_ok h1, sa := of_decide_eq_true h2, ga := of_decide_eq_true h3, gg := of_decide_eq_true h4, noN := of_decide_eq_true h5,
          iC := of_decide_eq_true h6, tC := of_decide_eq_true h7, kC := h8, exC := of_decide_eq_true h9, tyC := of_decide_eq_true h10, hdC := h11,
          cls' := h12, ha := of_decide_eq_true h13, hn := of_decide_eq_true h14, ht := of_decide_eq_true h15, hm := of_decide_eq_true h16, fn := fn }
/-! ### a reading, one step -/
section
variable {t u : TS} {D : Ends} {σ : St} {H : Hp} {te tv : TE} {ta : TA} {g : TG} {Q : VK} {c : TT}
theorem rd_seq (h : t { D with nx := u D } σ H) : tSeq t u D σ H := h
theorem rd_asg (h : te σ H fun x H1 => g x σ H1 D.nx) : tAsg te g D σ H := h
theorem rd_set {i : Nat} (h : te σ H fun x H1 => D.nx (σ.set i (some x)) H1) : tAsg te (gName i) D σ H := h
theorem rd_lst (h : ta σ H fun xs H1 => xs.length ≤ sizeLine ∧ ∀ p, H1 p = none → Q (.ref p) (upd H1 p (.lst xs))) : tLst ta σ H Q := h
theorem rd_tup (h : ta σ H fun xs H1 => xs.length ≤ sizeLine ∧ ∀ p, H1 p = none → Q (.ref p) (upd H1 p (.tup xs))) : tTup ta σ H Q := h
theorem rd_yes {F : Bool → Hp → Prop} {A B : Prop} (e : F true H = if true = true then A else B) (h : A) : tYes σ H F := by
  show F true H
  rw [e, if_pos rfl]
  exact h
theorem rd_drop (h : te σ H fun _ H1 => D.nx σ H1) : tDrop te D σ H := h
theorem rd_ret (h : te σ H D.rt) : tRet te D σ H := h
theorem rd_if (h : c σ H fun b H1 => if b = true then t D σ H1 else u D σ H1) : tIfS c t u D σ H := h
theorem rd_cons {tr : TA} {Q : List V → Hp → Prop} (h : te σ H fun x H1 => tr σ H1 fun xs H2 => Q (x :: xs) H2) : tCons te tr σ H Q := h
theorem rd_op {r : R2} {tb : TE} (h : te σ H fun x H1 => tb σ H1 fun y H2 => r x y H2 Q) : tOp r te tb σ H Q := h
theorem rd_cb {r : List V → Hp → VK → Prop} (h : ta σ H fun vs H1 => r vs H1 Q) : tCB r ta σ H Q := h
theorem rd_bm {K : PySem.W.Frag} {T : String} {r : V → List V → Hp → VK → Prop} (h : te σ H fun x H1 => tyV K T x H1 ∧ ta σ H1 fun xs H2 => r x xs H2 Q) : tBM K T r te ta σ H Q := h
end
/-- a class, a def as a value -/
theorem pe_ref {X : Cx} {x : Str} {a : Addr} {pos : Pos} (hm : X.mg x = some (.ref a)) (hg : Gl X x := by rfl) (hd : (x == ("__debug__" : Str)) = false := by decide) :
    PE X (.Name x pos) (tC (.ref a)) := pe_glob hg hm rfl hd
theorem same_new {H : Hp} {p : Addr} {o : HO} (h : H p = none) : Same H (upd H p o) := fun b u e => by
  rw [upd_ne (ne_of_none e h)]
  exact e
/-- what did not stand before may change -/
theorem _root_.L2.Same.mut {H H' : Hp} {p : Addr} {o : HO} (e : Same H H') (h : H p = none) : Same H (upd H' p o) := fun b u q => by
  rw [upd_ne (ne_of_none q h)]
  exact e _ _ q
end L2.Vx

set_option Elab.async false
set_option linter.all false
set_option maxRecDepth 100000
set_option maxHeartbeats 2000000
namespace L2.Vx
open PySem PySem.Spec PyProof.Rows

section
variable {X : Cx} {pins : List (Addr × Obj)} {σ : St} {H : Hp} {s : Shared}
/-- a pinned exception, new since the entry, is tracked from now on -/
theorem inv_track {a : Addr} {oe : Obj} {vs : Array Value} {cls : Value} {d : Option Addr} (I : Inv X ((a, oe) :: pins) σ H s)
    (new : X.s_0.heap.get? a = none) (hz : Zc cls d oe) (hd : oe.data = .fields vs) (ap : ∀ p ∈ X.pn ++ pins, p.1 ≠ a) :
    Inv X pins σ (upd H a (EX a cls d)) s := by
  obtain ⟨ha, na, nL, nF, ncell⟩ := I.pin (a, oe) (List.mem_append_right _ List.mem_cons_self)
  have off : ∀ {b : Addr} {o : Obj}, X.s_0.heap.get? b = some o → b ≠ a := fun {b o} e z => by
    rw [z, new] at e
    cases e
  have low : ∀ {b : Addr} {u : HO}, H b = some u → upd H a (EX a cls d) b = some u := fun {b u} e => by
    rw [upd_ne (ne_of_none e na)]
    exact e
  have pin' : ∀ p ∈ X.pn ++ pins, p ∈ X.pn ++ (a, oe) :: pins := fun p hp => by
    rcases List.mem_append.mp hp with m | m
    · exact List.mem_append_left _ m
    · exact List.mem_append_right _ (List.mem_cons_of_mem _ m)
  refine ⟨I.ok, I.os, I.bare, ⟨I.base.keep, I.base.slot, fun b o e n hx => ?_, I.base.there, fun b xs q => low (I.base.tups b xs q), fun b o u q => low (I.base.frzs b o u q), fun b ps q => ?_⟩, I.loc, I.cell, ?_, fun x c e => ?_, fun p hp => ?_, I.hok.laidN (fun _ _ e => e) na (ex_ok ha hz hd), I.len⟩
  · rw [upd_ne (off e)]
    exact I.base.free b o e n hx
  · obtain ⟨more, q'⟩ := I.base.tbls b ps q
    exact ⟨more, low q'⟩
  · rw [upd_ne (Ne.symm nL)]
    exact I.free
  · have hc : c ≠ a := fun z => by
      obtain ⟨v, o, e1, e2⟩ := I.cell x c e
      rw [z, show s.heap.get? a = some oe from ha] at e1
      cases e1
      exact ncell _ e2
    rw [upd_ne hc]
    exact I.freeC x c e
  · obtain ⟨e1, e2, e3, e4, e5⟩ := I.pin p (pin' p hp)
    exact ⟨e1, by rw [upd_ne (ap p hp)]; exact e2, e3, e4, e5⟩
end

/-- what 'except x as n: m = n' wishes of an exception of the body: slot i is n's, j is m's -/
def wHold (K : PySem.W.Frag) (c : Value) (i j : Nat) (Wout : WX) (D : Ends) : WX := fun cls d σ H =>
  ∃ b, PySem.W.exmOne K cls c = some b ∧ (b = true → ∀ a, H a = none → D.nx (((σ.set i (some (.ref a))).set j (some (.ref a))).set i none) (upd H a (EX a cls d))) ∧
    (b = false → Wout cls d σ H)
section
variable {X : Cx} {x n m : Str} {c : Value} {i j : Nat} {body : List Stmt} {np pos pos' q1 q2 q3 : Pos} {tb : WX → TS} {Wout : WX}
theorem ps_try_hold (hs : X.stack = X.env :: X.outer) (hf : X.env.frame = some X.env.locals) (hex : X.ex = []) (hN : X.N.Nodup) (hi : X.N[i]? = some n) (hj : X.N[j]? = some m)
    (hln : X.env.kindOf n = some .local) (hlm : X.env.kindOf m = some .local) (hc : Names X x c) (tk : Takes X Wout) (hdn : (n == ("__debug__" : Str)) = false := by decide) (hdc : (n == ("__classdict__" : Str)) = false := by decide)
    (hb : ∀ (W : WX) (pn : List (Addr × Obj)) (xe : Value → Shared → Prop), Takes (X.tr pn xe) W → PassesOwn (model X.prog X.w) X.A X.env xe → PSs (X.tr pn xe) body (tb W))
    (hsw : ∀ (a : Addr) (pn : List (Addr × Obj)), swapsWith (.Name n q2) (some (.Name m q1)) q3.line (X.suite a pn).env = pure false := by intro _ _; rfl) :
    PS X (.Try body [.ExceptHandler (some (.Name x np)) (some n) [.Assign [.Name m q1] (.Name n q2) q3] pos'] [] [] pos) (fun D σ H => tb (wHold X.K c i j Wout D) D σ H) := by
  refine ⟨fun pins s σ H D I h => ?_⟩
  have ok := I.ok
  have hfr : X.A.frames = some (X.env :: X.outer) := ok.frames.trans (congrArg some hs)
  have hloc : Loc X.env.scope n := .inl hln
  have hlom : Loc X.env.scope m := .inl hlm
  refine wpAny_Try_except ?_
  let hs_ : List ExceptHandler := [.ExceptHandler (some (.Name x np)) (some n) [.Assign [.Name m q1] (.Name n q2) q3] pos']
  let xe' : Value → Shared → Prop := fun e s₁ => wpAny (model X.prog X.w) X.A (noteFrame e X.env) (fun _ s₂ => wpAny (model X.prog X.w) X.A (setFlight e none) (fun _ s₃ =>
    wpAny (model X.prog X.w) X.A (handleBy e X.env hs_) (SP X pins D) X.xe s₃) X.xe s₂) X.xe s₁
  have hbody := hb (wHold X.K c i j Wout D) (X.pn ++ pins) xe' (fun u s' xx => ?_) PassesOwn.looking
  · refine wpAny_mono (hbody.run [] s σ H D (I.toTry _) h) (fun f s1 hsp => ?_) (fun e s1 he => he)
    match f, hsp with
    | .next, ⟨σ', H', J', q⟩ => exact wpAny_execs_nil ⟨σ', H', J'.ofTry ok, q⟩
    | .brk, ⟨σ', H', J', q⟩ => exact ⟨σ', H', J'.ofTry ok, q⟩
    | .cont, ⟨σ', H', J', q⟩ => exact ⟨σ', H', J'.ofTry ok, q⟩
    | .ret u, ⟨v, σ', H', J', r, q⟩ => exact ⟨v, σ', H', J'.ofTry ok, r, q⟩
  · -- caught
    obtain ⟨a, B, sI, pins', σ', H', cls, d, rfl, J', nb, up, sky, na, os, ag, b, hb1, hyes, hno⟩ := xx
    have J : Inv X pins σ' H' sI := J'.ofTry ok
    rw [hs] at sky
    show wpAny (model X.prog X.w) X.A (noteFrame (.ref a) X.env) _ _ _
    refine Sky.land Zc.steady hfr hf sky fun h3 fl3 up3 => ?_
    have J3 : Inv X pins σ' H' { s' with heap := h3 } := J.landed nb fl3.1 (up.trans up3) os ag
    obtain ⟨oe3, vs3, he3, hz3, hd3⟩ := fl3.there
    have nfr : a ∉ frs (X.env :: X.outer) := fun hm => by
      obtain ⟨_, o', e', hnf⟩ := fl3.2.2.1.mem hm
      rw [he3] at e'
      cases e'
      exact hnf _ hd3
    have nL : a ≠ X.env.locals := fun z => nfr (List.mem_filterMap.mpr ⟨X.env, List.mem_cons_self, hf.trans (congrArg some z.symm)⟩)
    have nF : a ∉ X.fs := fun hm => by
      obtain ⟨e, he, q⟩ := List.mem_filterMap.mp hm
      exact nfr (List.mem_filterMap.mpr ⟨e, List.mem_cons_of_mem _ he, q⟩)
    -- the exception is new
    have outI : sI.heap.get? a = none := by
      cases q : sI.heap.get? a with
      | none => rfl
      | some o =>
        have z := nb a o q (by rw [hs]; exact nfr)
        rw [fl3.2.1] at z
        cases z
    have new : X.s_0.heap.get? a = none := by
      cases q : X.s_0.heap.get? a with
      | none => rfl
      | some o =>
        obtain ⟨o', z⟩ := J.base.there a o q (by rw [hex]; simp)
        rw [outI] at z
        cases z
    have apart : ∀ p ∈ X.pn ++ pins, p.1 ≠ a := fun p hp z => by
      have q := (J.pin p hp).1
      rw [z, outI] at q
      cases q
    have S3 := J3.suite he3 hd3 na nL nF
    refine wpAny_handleBy_cons (codeAny_handlers_test ?_) (by intro q; cases q)
    have LT : PySem.W.Looks (model X.prog X.w) h3 (typeOf (.ref a)) cls := fun A Q E s k q => wpAny_typeOf_ref (k _ _ he3) (by rw [hz3.1]; exact q)
    have LM := PySem.W.exm_one (M := model X.prog X.w) J3.kIn LT hb1
    have test : ∀ {Q : Value → Shared → Prop} {E : Value → Shared → Prop}, Q c { s' with heap := h3 } →
        wpAny (model X.prog X.w) (X.A.mark (some (.ref a))) (eval (.Name x np) X.env) Q E { s' with heap := h3 } := by
      intro Q E q
      obtain ⟨hg, hdbg, hm | ⟨hm, hv, hnn⟩⟩ := hc
      · exact ld_glob (X := X.suite a ((a, oe3) :: (X.pn ++ pins))) S3 hg hm q hdbg
      · exact ld_blt (X := X.suite a ((a, oe3) :: (X.pn ++ pins))) S3 hg hm hv q hnn hdbg
    refine test (LM.here ?_)
    cases b with
    | true =>
      refine codeAny_handlers_suite_as ?_
      refine HandSPX.lands_againZ fl3 fun h4 fl4 up4 => ?_
      have J4 : Inv X pins σ' H' { s' with heap := h4 } := J.landed nb fl4.1 ((up.trans up3).trans up4) os ag
      obtain ⟨oe4, vs4, he4, hz4, hd4⟩ := fl4.there
      have S4 := J4.suite he4 hd4 na nL nF
      refine store_ok (X := X.suite a ((a, oe4) :: (X.pn ++ pins))) (v := .ref a) S4 hN hi hloc rfl (fun s5 S5 => ?_) (.inr hln)
      have li : i < σ'.length := by
        rw [J.len]
        exact (List.getElem?_eq_some_iff.mp hi).1
      have asg : PSs (X.suite a ((a, oe4) :: (X.pn ++ pins))) [.Assign [.Name m q1] (.Name n q2) q3] (tAsg (tVar i) (gName j)) :=
        pss_one (ps_set hN hj hlom (pe_var hi (.inl hln) hdn hdc) (hsw a _) (.inr hlm))
      refine wpAny_mono (asg.run [] s5 _ H' { nx := fun σ6 H6 => σ6 = (σ'.set i (some (.ref a))).set j (some (.ref a)) ∧ H6 = H', rt := fun _ _ => False } S5 ?_) (fun f s6 hsp => ?_) (fun _ _ z => False.elim z)
      · exact ⟨.ref a, by rw [List.getElem?_set_self li], rfl, rfl⟩
      · match f, hsp with
        | .ret u, ⟨_, _, _, _, _, z⟩ => exact z.elim
        | .brk, ⟨_, _, _, z⟩ => exact z.elim
        | .cont, ⟨_, _, _, z⟩ => exact z.elim
        | .next, ⟨σ6, H6, S6, e6, eH⟩ =>
          subst e6
          subst eH
          have J6 : Inv X ((a, oe4) :: pins) ((σ'.set i (some (.ref a))).set j (some (.ref a))) H6 s6 :=
            ⟨ok, S6.os, S6.bare, S6.base, S6.loc, S6.cell, S6.free, S6.freeC, fun p hp => S6.pin p (by
              rw [List.append_nil]
              rcases List.mem_append.mp hp with q | q
              · exact List.mem_cons_of_mem _ (List.mem_append_left _ q)
              · rcases List.mem_cons.mp q with q | q
                · rw [q]; exact List.mem_cons_self
                · exact List.mem_cons_of_mem _ (List.mem_append_right _ q)), S6.hok, S6.len⟩
          refine gone_ok J6 hN hi hln fun s7 J7 => ⟨_, _, inv_track J7 new hz4 hd4 apart, hyes rfl a na⟩
    | false =>
      show wpAny _ X.A (handleBy (.ref a) X.env []) _ _ _
      refine wpAny_handleBy_nil ?_
      obtain ⟨k1, k2, k3, oe, vs, T, oT, ts', he, hz, hd, h1, hr⟩ := id fl3
      unfold PySem.passOn
      refine wpAny_bind (wpAny_field he hd h1 ?_)
      rw [if_neg (show ¬ ((Value.ref T == Value.none) = true) from by simp)]
      have fin : wpAny (model X.prog X.w) X.A (setFlight (.ref a) X.env.frame) (fun _ s4 => wpAny (model X.prog X.w) X.A (throw (.ref a) : Sem Flow) (SP X pins D) X.xe s4) X.xe { s' with heap := h3 } := by
        rw [hf]
        refine HandSPX.setFlight_upZ fl3 fun h4 hh4 up4 => wpAny_throw (tk _ _ ?_)
        exact ⟨a, B, sI, pins, σ', H', cls, d, rfl, J, nb, (up.trans up3).trans up4, .inr (.inr (by rw [hs]; exact hh4)), na, os, ag, hno rfl⟩
      first
        | exact wpAny_bind (wpAny_pure (wpAny_bind fin))
        | exact wpAny_bind fin
end
end L2.Vx

set_option Elab.async false
set_option linter.all false
set_option maxRecDepth 100000
set_option maxHeartbeats 2000000
namespace L2.Vx
open PySem PySem.Spec PyProof.Rows
open LamX (CodeO Tabs TabS TabB ExtN LamS lamEnv lamCx lam_make2 lam_start2 lamS_by)

section
variable {X : Cx} {pins : List (Addr × Obj)} {σ : St} {H : Hp} {s : Shared}
/-- the call of a lambda that was handed in, what it raises being wished for at the slots as they stand -/
theorem pe_act2 {CXg : CXT} {Eg : XK} {Ng : List Str} {qg : Str} {sg : Scope} {g f c' : Addr} {cdg pm ctv : Value} {params : Arguments} {body : Expr} {scope : Scope} {k i : Nat} {a : Str}
    {pn : List (Addr × Obj)} {xe : Value → Shared → Prop} {W : WX} {E : XK} {tb : TE} {p1 p2 : Pos}
    (I : Inv X pins σ H s) (L : LamS X.env.scope scope)
    (hf : s.heap.get? f = some (PySem.W.kla_obj "<lambda>" (X.env.qual ++ "<lambda>") params body scope (cloFrom X.env.cells scope.names []) pm c' ctv)) (hfn : H f = none) (hfr : f ∉ frs X.stack)
    (hbind : bindArgs (PySem.W.kla_fn "<lambda>" (X.env.qual ++ "<lambda>") params body scope (cloFrom X.env.cells scope.names []) pm (.ref c') ctv) ⟨[], []⟩ = pure [])
    (tk : Takes ((cxOf CXg X.prog X.w X.K X.mg X.base Ng qg sg g cdg X.A X.stack s H Eg).tr pn xe) W) (hr : Room (k + 1) (X.A.deeper (envOfC qg sg s.heap.objs.size g cdg)))
    (hbody : ∀ (A : Around) (outer : List Env) (s : Shared) (H : Hp), Room k (A.deeper (lamEnv X scope s.heap.objs.size f c')) → PE (lamCx X A outer s H E scope f c') body tb)
    (hN : Ng[i]? = some a) (hv : Vis sg a) (hd : (a == ("__debug__" : Str)) = false := by decide) (hcd : (a == ("__classdict__" : Str)) = false := by decide) :
    PE ((cxOf CXg X.prog X.w X.K X.mg X.base Ng qg sg g cdg X.A X.stack s H Eg).tr pn xe) (.Call (.Name a p1) [] [] p2)
      (fun σZ HZ Q => (∀ cls d H', E cls d H' → W cls d σZ H') ∧ σZ[i]? = some (some (.ref f)) ∧ HZ c' = some (CodeO c' (X.env.qual ++ "<lambda>")) ∧ tb σ HZ Q) := by
  refine ⟨fun pinsZ sZ σZ HZ Q IZ h => ?_⟩
  obtain ⟨hW, hs, hc, ht⟩ := h
  have rd := (pe_var (pos := p1) (i := i) hN hv hd hcd).run pinsZ sZ σZ HZ (fun v H1 => v = .ref f ∧ H1 = HZ) IZ ⟨.ref f, hs, rfl, rfl⟩
  refine wpAny_Call_Name_kw (thn rd fun u s1 q0 => ?_)
  obtain ⟨v, H1, I1, r1, ev, eH⟩ := q0
  subst ev
  subst eH
  obtain rfl : u = Value.ref f := r1
  have of1 := I1.base.keep f _ hf hfn hfr (fun z => nomatch (show f ∈ ([] : List Addr) from z))
  refine PySem.W.callWith_F0 ⟨_, _, _, _, of1⟩ ?_
  obtain ⟨⟨oc, vs, t, hoc, hdc, hvc⟩, _, _⟩ := I1.hok c' _ hc
  have rc : codeAny (model X.prog X.w) (X.A.deeper (envOfC qg sg s.heap.objs.size g cdg)) (.call (.ref f) ⟨[], []⟩)
      (CR (L2.CX X.prog X.w) (envOfC qg sg s.heap.objs.size g cdg :: X.stack) X.prog X.w H1 s1 Q E) s1 := by
    refine PySem.W.kla_callFunE hr.depth of1 rfl L.co L.gen rfl ⟨c', oc, vs, t, rfl, hoc, hdc, hvc⟩ ?_
    rw [hbind]
    refine wpAny_pure (wpAny_newFunctionEnv (fun y hy => (L.own y hy).2) (fun y hy => absurd hy (by simp)) (fun h₁ hns hsb => ⟨I1.nolimit.fresh _ hsb, ?_⟩) L.kind)
    show codeAny _ _ (.expr body (lamEnv X scope s1.heap.objs.size f c')) _ _
    have kp : ∀ b o, s1.heap.get? b = some o → h₁.get? b = some o := fun b o e => hsb.extBut b o (Nat.ne_of_lt (Heap.lt_size e)) (Heap.get?_push_of_some _ e)
    have J := lam_start2 (E := E) (f := f) (c' := c') (tk := s1.toks + ([] : List (Str × Value)).length) I L I1.env0 hr.hd I1.base hns kp
    refine PySem.W.kla_codeExpr (wpAny_mono ((hbody _ _ s1 H1 (hr.deeper _)).run [] _ _ H1 Q J ht) (fun v s' hq => ?_) fun e s' hq => hq)
    obtain ⟨w', H', J', rv, q⟩ := hq
    exact ⟨w', H', J'.os, J'.bare, J'.base, J'.hok, rv, q⟩
  refine wpAny_call (codeAny_mono rc fun r s' hq => ?_)
  match r, hq with
  | .error e, hq => exact tk e s' (XE.of_call I1 (fun cls d H' z => hW cls d H' z) hq)
  | .ok (.ret u), hq => exact I1.after hq
  | .ok .next, hq => exact hq.elim
  | .ok .brk, hq => exact hq.elim
  | .ok .cont, hq => exact hq.elim
end
/-- the def that calls what it got; TT: what it makes of the lambda's reading -/
def Gives (X : Cx) (Ng : List Str) (x : Str) (sg : Scope) (g : Addr) (cdg : Value) (bg : List Stmt) (a : Str) (q : Str) (TT : (XK → Hp → VK → Prop) → Hp → VK → Prop) : Prop :=
  ∀ (f c' : Addr) (s : Shared) (H : Hp) (Q : VK) (tl : XK → Hp → VK → Prop),
    (∀ (W : WX) (pn : List (Addr × Obj)) (xe : Value → Shared → Prop) (E : XK) (p1 p2 : Pos), Takes ((cxOf CX0 X.prog X.w X.K X.mg X.base Ng x sg g cdg X.A X.stack s H E0).tr pn xe) W →
      PE ((cxOf CX0 X.prog X.w X.K X.mg X.base Ng x sg g cdg X.A X.stack s H E0).tr pn xe) (.Call (.Name a p1) [] [] p2)
        (fun σZ HZ Q => (∀ cls d H', E cls d H' → W cls d σZ H') ∧ σZ[0]? = some (some (.ref f)) ∧ HZ c' = some (CodeO c' q) ∧ tl E HZ Q)) →
    H c' = some (CodeO c' q) → TT tl H Q →
    ∃ t, PSs (cxOf CX0 X.prog X.w X.K X.mg X.base Ng x sg g cdg X.A X.stack s H E0).nox bg t ∧ t { nx := fun _ H' => Q .non H', rt := Q } (start Ng [.ref f]) H
def tLam2 (T : List (Addr × Str)) (TT : (XK → Hp → VK → Prop) → Hp → VK → Prop) (t : XK → TE) : TE := fun σ H Q =>
  Tabs T H ∧ ∀ H1, ExtN H H1 → Tabs T H1 → TT (fun E H' Q' => t E σ H' Q') H1 Q
section
variable {X : Cx}
/-- x(lambda: body) -/
theorem pe_lam2 {T : List (Addr × Str)} {TT : (XK → Hp → VK → Prop) → Hp → VK → Prop} {x a : Str} {g c P : Addr} {k : Nat} {pg : Arguments} {bg : List Stmt} {sg : Scope} {dV kV doc pm cdv ct oc : Value} {an od : Option Addr} {osl : Array (Option Value)} {Ng : List Str}
    {params : Arguments} {body : Expr} {scope : Scope} {t : XK → TE} {p lpos pos : Pos} (hg : Gl X x) (hm : X.mg x = some (.ref g)) (hk : PySem.W.keepIn X.K (.ref g) = true)
    (lk : X.K.lookup g = some ⟨oc, od, .func (PySem.W.fnOf x x pg bg sg dV kV doc pm an cdv ct), osl⟩) (hcg : PySem.W.codeIn X.K cdv x = true)
    (hb : Binds X.K (PySem.W.fnOf x x pg bg sg dV kV doc pm an cdv ct) [a] []) (Sg : FnScope Ng [a] sg) (hNg : Ng[0]? = some a) (hva : Vis sg a)
    (hG : Gives X Ng x sg g cdv bg a (X.env.qual ++ "<lambda>") TT)
    (TB : TabB X.base X.mg c P) (hcode : X.env.code = .ref c) (hmT : (P, X.env.qual ++ "<lambda>") ∈ T) (hu : ∀ p ∈ T, p.1 = P → p.2 = X.env.qual ++ "<lambda>") (hr : Room (k + 2) X.A) (L : LamS X.env.scope scope) (hdef : defaultsOf params X.env = ([], []))
    (hbind : ∀ (q : Str) (cl : List (Str × Addr)) (pm cv ctv : Value), bindArgs (PySem.W.kla_fn "<lambda>" q params body scope cl pm cv ctv) ⟨[], []⟩ = pure [])
    (hbody : ∀ (A : Around) (outer : List Env) (s : Shared) (H : Hp) (E : XK) (f c' : Addr), Room k (A.deeper (lamEnv X scope s.heap.objs.size f c')) → PE (lamCx X A outer s H E scope f c') body (t E))
    (hdb : (x == ("__debug__" : Str)) = false := by decide) (hd : (a == ("__debug__" : Str)) = false := by decide) (hcd : (a == ("__classdict__" : Str)) = false := by decide) :
    PE X (.Call (.Name x p) [.Lambda params body scope lpos] [] pos) (tLam2 T TT t) := by
  refine ⟨fun pins s σ H Q I h => ?_⟩
  obtain ⟨hT, h⟩ := h
  refine wpAny_Call_Name_kw (ld_glob I hg hm ?_ hdb)
  refine PySem.W.callWith_K (h₀ := X.base) I.ok.mod.kin hk ?_ (by rfl) (by rfl)
  show wpAny _ _ (spliced ((false, eval (.Lambda params body scope lpos) X.env) :: backTo pos (starEach [] X.env))) _ _ s
  refine Calls.spliced_cons (lam_make2 I TB hcode hmT hu hT hdef (L.has I.ok) fun f c' pm' ctv H1 s' I1 eN T1 hf hfn hfr hco => ?_)
  refine Calls.spliced_nil ⟨I1.kIn, ?_⟩
  have rc : codeAny (model X.prog X.w) X.A (.call (.ref g) ⟨[.ref f], []⟩) (CR CX0 X.stack X.prog X.w H1 s' Q E0) s' := by
    refine LamX.run_ofS (N := Ng) (ps := [a]) (us := [.ref f]) (vs := [.ref f]) lk hcg Sg hr I1.env0 (hb s' [.ref f] I1.kIn rfl) (.cons rfl .nil) rfl fun hr' => ?_
    have act := fun (W : WX) (pn : List (Addr × Obj)) (xe : Value → Shared → Prop) (E : XK) (p1 p2 : Pos) (tk : Takes ((cxOf CX0 X.prog X.w X.K X.mg X.base Ng x sg g cdv X.A X.stack s' H1 E0).tr pn xe) W) =>
      pe_act2 (p1 := p1) (p2 := p2) (i := 0) I1 L hf hfn hfr (hbind _ _ _ _ _) tk hr' (fun A outer s H hr2 => hbody A outer s H E f c' hr2) hNg hva hd hcd
    obtain ⟨t', ht', hq'⟩ := hG f c' s' H1 Q (fun E H' Q' => t E σ H' Q') act hco (h H1 eN T1)
    exact ⟨t', ht'.nox, hq'⟩
  refine wpAny_call (codeAny_mono rc fun r s2 hq => ?_)
  match r, hq with
  | .error e, hq => exact (show False from hq).elim
  | .ok (.ret u), hq => exact I1.after hq
  | .ok .next, hq => exact hq.elim
  | .ok .brk, hq => exact hq.elim
  | .ok .cont, hq => exact hq.elim

/-- what is wished for may be weakened -/
theorem pe_weak {e : Expr} {t : TE} (h : PE X e t) : PE X e (fun σ H Q => ∃ R : VK, (∀ v H', R v H' → Q v H') ∧ t σ H R) := by
  refine ⟨fun pins s σ H Q I hh => ?_⟩
  obtain ⟨R, hR, ht⟩ := hh
  refine thn (h.run pins s σ H R I ht) fun u s1 hu => ?_
  obtain ⟨v, H1, I1, r1, q1⟩ := hu
  exact ⟨v, H1, I1, r1, hR v H1 q1⟩
/-! ### told: the error, or what came back -/
def toldN : List Str := ["look", "caught", "back", "error"]
def toldB (a1 a2 a3 a4 a5 a6 a7 b1 b2 b3 b4 b5 c1 c2 c3 c4 c5 d1 d2 d3 d4 : Pos) : List Stmt :=
  [.Assign [.Tuple [.Name "caught" a1, .Name "back" a2] 0 a3] (.Tuple [.Constant .none 0 a4, .Constant .none 0 a5] 0 a6) a7,
   .Try [.Assign [.Name "back" b1] (.Call (.Name "look" b2) [] [] b3) b4] [.ExceptHandler (some (.Name "DrawError" c1)) (some "error") [.Assign [.Name "caught" c2] (.Name "error" c3) c4] c5] [] [] b5,
   .Return (some (.Tuple [.Name "caught" d1, .Name "back" d2] 0 d3)) d4]
def toldS : Scope := { kind := .function, names := [("look", .local), ("caught", .local), ("back", .local), ("error", .local), ("DrawError", .globalImplicit)], isGenerator := false, isCoroutine := false, more := [] }
/-- what comes of a lambda's reading -/
def TTold (K : PySem.W.Frag) (CS : Addr) : (XK → Hp → VK → Prop) → Hp → VK → Prop := fun tl H Q =>
  ∀ t, H t = none → tl (fun cls d H' => PySem.W.exmOne K cls (.ref CS) = some true ∧ ∀ a, H' a = none → ∀ p, upd H' a (EX a cls d) p = none →
      Q (.ref p) (upd (upd H' a (EX a cls d)) p (.tup [.ref a, .non]))) (upd H t (.tup [.non, .non]))
    fun v H' => ∀ p, H' p = none → Q (.ref p) (upd H' p (.tup [.non, v]))
theorem told_gives2 {q x : Str} {g CS : Addr} {cdg : Value} {a1 a2 a3 a4 a5 a6 a7 b1 b2 b3 b4 b5 c1 c2 c3 c4 c5 d1 d2 d3 d4 : Pos} (hme : X.mg "DrawError" = some (.ref CS))
    (hw : ∀ n : Nat, swappedStores [.Tuple [.Name "caught" a1, .Name "back" a2] 0 a3] (.Tuple [.Constant .none 0 a4, .Constant .none 0 a5] 0 a6) (envOfC x toldS n g cdg) = pure none) :
    Gives X toldN x toldS g cdg (toldB a1 a2 a3 a4 a5 a6 a7 b1 b2 b3 b4 b5 c1 c2 c3 c4 c5 d1 d2 d3 d4) "look" q (TTold X.K CS) := by
  intro f c' s H Q tl act hc h
  have nd : toldN.Nodup := by decide +kernel
  refine ⟨_, pss_cons (ps_asg (pe_tup (pa_cons pe_non (pa_cons pe_non pa_nil))) (pg_tup rfl (pgs_cons (pg_name (i := 1) nd rfl (Or.inl rfl)) (pgs_cons (pg_name (i := 2) nd rfl (Or.inl rfl)) pgs_nil))) (hw := hw _))
    (pss_cons (ps_try_hold (X := (cxOf CX0 X.prog X.w X.K X.mg X.base toldN x toldS g cdg X.A X.stack s H E0).nox) (c := .ref CS) (x := "DrawError") (n := "error") (m := "caught") (i := 3) (j := 1) (Wout := fun _ _ _ _ => False)
      (tb := fun W D σ H => ∃ (Ech : XK) (R : VK), (∀ v H', R v H' → D.nx (σ.set 2 (some v)) H') ∧ (∀ cls d H', Ech cls d H' → W cls d σ H') ∧ σ[0]? = some (some (.ref f)) ∧ H c' = some (CodeO c' q) ∧ tl Ech H R)
      rfl rfl rfl nd rfl rfl rfl rfl ⟨rfl, by decide, .inl hme⟩ takes0 (hb := fun W pn xe tk _ => ?_))
    (pss_one (ps_ret (pe_tup (pa_cons (pv 1) (pa_cons (pv 2) pa_nil)))))), ?_⟩
  · refine ⟨fun pins s' σ H' D I h' => ?_⟩
    obtain ⟨Ech, R, hR, hW, h1, h2, h3⟩ := h'
    have hp := pe_weak (act W pn xe Ech b2 b3 tk)
    have hq := pss_one (ps_set (pos := b4) (i := 2) (pos' := b1) nd rfl (Or.inl rfl) hp)
    exact hq.run pins s' σ H' D I ⟨R, hR, hW, h1, h2, h3⟩
  · refine ⟨(by exact (by decide : 2 ≤ sizeLine)), fun t ht => ⟨t, _, rfl, SqT.of upd_same, rfl, _, _, rfl, _, _, rfl, rfl, ?_⟩⟩
    refine ⟨fun cls d H' => PySem.W.exmOne X.K cls (.ref CS) = some true ∧ ∀ a, H' a = none → ∀ p, upd H' a (EX a cls d) p = none →
      Q (.ref p) (upd (upd H' a (EX a cls d)) p (.tup [.ref a, .non])), fun v H' => ∀ p, H' p = none → Q (.ref p) (upd H' p (.tup [.non, v])), fun v H' z => ⟨_, rfl, _, rfl, (by exact (by decide : 2 ≤ sizeLine)), fun p hp => z p hp⟩, fun cls d H' z => ?_, rfl, same_new ht _ _ hc, h t ht⟩
    obtain ⟨z1, z2⟩ := z
    exact ⟨true, z1, fun _ a ha => ⟨_, rfl, _, rfl, (by exact (by decide : 2 ≤ sizeLine)), fun p hp => z2 a ha p hp⟩, fun z => by cases z⟩
end
end L2.Vx

set_option Elab.async false
set_option linter.all false
set_option maxRecDepth 100000
set_option maxHeartbeats 2000000
namespace L2.Vx
open PySem PySem.Spec PyProof.Rows
/-! ### for n, x in enumerate(list, start) -/
def IteF (K : PySem.W.Frag) (a : Addr) (k : Int) : It :=
  ⟨fun i H => ∃ (xs : List V) (x : V), SqL K H a xs ∧ xs[i]? = some x, fun i H v H' => ∃ T x, v = .ref T ∧ H T = none ∧ H' = upd H T (.tup [.int (k + (i : Nat)), x]) ∧ ∀ xs, SqL K H a xs → xs[i]? = some x, fun i H => ∃ xs : List V, SqL K H a xs ∧ xs.length = i⟩
theorem list_enum_ne {h : Heap} {e it a : Addr} {n : Int} {old : Value} {items : Array Value} (he : IsEnum h e it n old) (hl : h.IsList a items) : e ≠ a := by
  intro z
  subst z
  obtain ⟨o, ho, hc, _⟩ := hl
  rw [Option.some.inj (ho.symm.trans he)] at hc
  injection hc with h
  exact absurd h (by decide)
theorem list_iter_ne {h : Heap} {it a : Addr} {i : Nat} {items : Array Value} (hit : h.IsListIter it a i) (hl : h.IsList a items) : a ≠ it := by
  intro z
  subst z
  obtain ⟨o, ho, hc, _⟩ := hl
  obtain ⟨o2, ho2, hc2, _⟩ := hit
  rw [Option.some.inj (ho2.symm.trans ho), hc] at hc2
  injection hc2 with h
  exact absurd h (by decide)
theorem turn_enumF {P : Program} {w : World} {K : PySem.W.Frag} {elts : List Expr} {kk : Nat} {tpos : Pos} (a e it : Addr) (k : Int) :
    Turn P w K (.Tuple elts kk tpos) (IteF K a k) [e, it] e (fun i h => (∃ old, IsEnum h e it (k + ((i : Nat) : Int)) old) ∧ h.IsListIter it a i ∧ e ≠ it) where
  mem := by simp
  obj := fun i h st b hb => by
    obtain ⟨⟨old, he⟩, ⟨o, ho, hc, hd⟩, _⟩ := st
    have e' : b = e ∨ b = it := by simpa using hb
    rcases e' with z | z
    · rw [z]; exact ⟨_, he, fun v q => nomatch q⟩
    · rw [z]; exact ⟨o, ho, fun v q => by rw [hd] at q; cases q⟩
  keep := fun i h h' st q => let ⟨⟨old, he⟩, hi, hne⟩ := st; ⟨⟨old, q e (by simp) _ he⟩, hi.at fun o r => q it (by simp) o r, hne⟩
  item := by
    intro X hP hw hK hc i pins s σ H E I hf st hg
    subst hP hw hK
    obtain ⟨⟨old, he⟩, hit, hne⟩ := st
    obtain ⟨xs, x, hq, hx⟩ := hg
    obtain ⟨its, rv, p, hz⟩ := I.list hq
    obtain ⟨u, hu, ru⟩ := rv.get hx
    have hel : e < s.heap.objs.size := Heap.lt_size he
    have hil : it < s.heap.objs.size := by obtain ⟨_, q, _⟩ := hit; exact Heap.lt_size q
    have hea := list_enum_ne he p.isList
    have hai := list_iter_ne hit p.isList
    have hlt : i < its.toArray.size := by
      have hl := rv.length
      have := (List.getElem?_eq_some_iff.mp hx).1
      rw [List.size_toArray]
      omega
    refine PySem.wpAny_pyNext_enum_itemC (Draws.list (A := X.A.in1) (I.ok.hd hc) it a hai its.toArray) he ⟨hit, p.isList⟩ hlt hne (by simp [hne, hea]) fun x1 h' tk hx1 ho st' hT hsz hk => ?_
    have hxu : x1 = u := by
      have h1 : its[i]? = some x1 := by simpa using hx1
      exact Option.some.inj (h1.symm.trans hu)
    subst hxu
    refine ⟨_, rfl, wpAny_letOwnedTupleGo_enum (s := { s with heap := h', toks := tk + 1 }) ho fun h'' he' sb => ?_⟩
    have hT2 : h''.get? s.heap.objs.size = some { cls := .type "tuple", data := .seq #[.int (k + (i : Int)) tk, x1] } := (sb.2 _ (Nat.ne_of_gt hel)).trans hT
    have new : ObjOk X.prog X.w (upd H s.heap.objs.size (.tup [.int (k + (i : Nat)), x])) h'' s.heap.objs.size (.tup [.int (k + (i : Nat)), x]) :=
      ⟨by show 2 ≤ sizeLine; decide, [.int (k + (i : Int)) tk, x1], .cons ⟨_, rfl⟩ (.cons ru .nil), ⟨_, hT2, rfl, _, rfl⟩⟩
    have I1 : Inv X pins σ (upd H s.heap.objs.size (.tup [.int (k + (i : Nat)), x])) { s with heap := h'', toks := tk + 1 } :=
      I.turnedNew (ch := [e, it]) (fun b ob hb q => (sb.2 b (fun z => hb (by simp [z]))).trans (hk b ob (fun z => hb (by simp [z])) (fun z => hb (by simp [z])) q)) hf (Nat.le_refl _) new
    refine ⟨.ref s.heap.objs.size, _, I1, rfl, ⟨_, x, rfl, I.hok.fresh (Nat.le_refl _), rfl, fun ys hy => by rw [I.list_inj hy hq]; exact hx⟩, ⟨⟨x1, ?_⟩, st'.1.at fun o q => (sb.2 it (Ne.symm hne)).trans q, hne⟩, fun b hb => ?_⟩
    · have e1 : k + ((i + 1 : Nat) : Int) = k + (i : Int) + 1 := by omega
      rw [e1]; exact he'
    · have hb' : b < s.heap.objs.size := by
        have e' : b = e ∨ b = it := by simpa using hb
        rcases e' with z | z
        · rw [z]; exact hel
        · rw [z]; exact hil
      rw [upd_ne (Nat.ne_of_lt hb')]
      exact (hf b hb).1
  done := by
    intro X hP hw hK hc i pins s σ H E I hf st hg
    subst hP hw hK
    obtain ⟨⟨old, he⟩, hit, hne⟩ := st
    obtain ⟨xs, hq, hx⟩ := hg
    obtain ⟨its, rv, p, hz⟩ := I.list hq
    obtain ⟨f0, f1, f2, f3, f4, f5⟩ := hf it (by simp)
    have hl := rv.length
    have hn : its.toArray.size = i := by
      rw [List.size_toArray]
      omega
    have hst : s.heap.IsListIter it a its.toArray.size := by rw [hn]; exact hit
    exact wpAny_pyNext_enum_endD (Draws.list (A := X.A.in1) (I.ok.hd hc) it a (list_iter_ne hit p.isList) its.toArray) he ⟨hst, p.isList⟩ fun h' eb => ⟨rfl, I.turned (t' := s.toks) (fun b o hb q => eb b o hb q) f0 f1 f3 f4 f5⟩
  self := fun A i s Q E st h => let ⟨⟨_, he⟩, _⟩ := st; wpAny_pyIter_enum he h
def iEnumF (K : PySem.W.Frag) (ta : TA) : TI := fun σ H R => ta σ H fun vs H1 => ∃ a xs k, vs = [.ref a, .int k] ∧ SqL K H1 a xs ∧ 0 ≤ k ∧ k < 2 ^ 62 ∧ R (IteF K a k) H1
theorem pi_enumF {X : Cx} {e e2 : Expr} {ta : TA} {p pos tpos : Pos} {elts : List Expr} {kk : Nat} (hg : Gl X "enumerate") (hm : X.mg "enumerate" = none) (ha : PA X [e, e2] ta)
    (hs : starEach [e, e2] X.env = (false, eval e X.env) :: starEach [e2] X.env := by rfl) (hpl : (backTo pos (starEach [e2] X.env)).any (·.1) = false := by rfl) :
    PI X (.Tuple elts kk tpos) (.Call (.Name "enumerate" p) [e, e2] [] pos) (iEnumF X.K ta) := by
  refine ⟨fun pins s σ H R I h => ?_⟩
  refine Call_ (ld_blt I hg hm boot_enumerate (PyProof.Rows.callWith_type1 (thn (ha.run pos pins s σ H _ I h) fun us s1 ⟨vs, H1, I1, r1, q1⟩ => ?_) hs hpl))
  obtain ⟨a, xs, k, ex, hq, k0, k1, q⟩ := q1
  subst ex
  cases r1 with
  | cons r rr =>
    cases rr with
    | cons r2 rr =>
    cases rr
    cases r
    obtain ⟨t, rfl⟩ := r2
    obtain ⟨its, rv, p', hz⟩ := I1.list hq
    refine enum_begins (begins_list a its.toArray) p'.isList (by omega) (by omega) fun h' he hit hsz hk => wpAny_pyIter_enum he ?_
    have I2 : Inv X pins σ H1 { s1 with heap := h' } := I1.kept (t' := s1.toks) hk
    refine ⟨s1.heap.objs.size + 1, [s1.heap.objs.size + 1, s1.heap.objs.size], _, _, H1, rfl, I2, turn_enumF a (s1.heap.objs.size + 1) s1.heap.objs.size k, ⟨⟨.none, ?_⟩, ⟨_, hit, rfl, rfl⟩, Nat.succ_ne_self _⟩, fun b hb => ?_, q⟩
    · have e1 : k + ((0 : Nat) : Int) = k := by omega
      rw [e1]
      exact he
    have e' : b = s1.heap.objs.size + 1 ∨ b = s1.heap.objs.size := by simpa using hb
    have hle : s1.heap.objs.size ≤ b := by
      rcases e' with z | z
      · rw [z]; exact Nat.le_add_right _ _
      · rw [z]; exact Nat.le_refl _
    exact I1.fpOk hle (I1.hok.fresh hle)
theorem walk_enumF {K : PySem.W.Frag} {a : Addr} {xs : List V} {k : Int} : Walk (IteF K a k) xs.length (fun H => SqL K H a xs) (YPair (fun i => some (.int (k + (i : Nat)))) (fun i => xs[i]?)) := by
  refine ⟨fun i _ hi q => ⟨xs, xs[i], q, by simp [hi]⟩, fun _ q => ⟨xs, q, rfl⟩, fun i H v H' _ q y => ?_⟩
  obtain ⟨T, x, h1, h2, h3, h4⟩ := y
  exact ⟨T, .int (k + (i : Nat)), x, h1, h2, h3, rfl, h4 xs q⟩
end L2.Vx

set_option Elab.async false
set_option linter.all false
set_option maxRecDepth 100000
set_option maxHeartbeats 2000000
namespace L2.Vx
open PySem PySem.Spec PyProof.Rows
open TL (tl spl pre)
/-! ### a text, cut at one sign -/
def cutAt (s : Nat) : List Nat → List Nat → List (List Nat)
  | acc, [] => [acc]
  | acc, c :: r => if c = s then acc :: cutAt s [] r else cutAt s (acc ++ [c]) r
theorem pre_one (s c : Nat) (r : List Nat) : pre [s] (c :: r) = decide (c = s) := by
  unfold TL.pre
  rw [Bool.eq_iff_iff]
  simp
theorem spl_cut (s : Nat) : ∀ (l acc : List Nat), spl [s] 0 acc l = cutAt s acc l
  | [], acc => by
    unfold TL.spl cutAt
    rfl
  | c :: r, acc => by
    unfold TL.spl cutAt
    rw [pre_one]
    by_cases h : c = s
    · rw [if_pos (decide_eq_true h), if_pos h, ← spl_cut s r []]
      rfl
    · rw [if_neg (by rw [decide_eq_false h]; decide), if_neg h, spl_cut s r]
theorem split_cut (z : Str) {s : Nat} (hs : s < 256) : (Txt.split z ⟨#[s]⟩).map tl = cutAt s [] (tl z) := by
  rw [TL.split_spl z ⟨#[s]⟩ (by simp [tl]) (TL.kind_ok (by simpa using hs))]
  exact spl_cut s _ _
/-- put together again -/
def glue (s : Nat) : List (List Nat) → List Nat
  | [] => []
  | [p] => p
  | p :: q :: r => p ++ s :: glue s (q :: r)
theorem cut_ne (s : Nat) : ∀ (l acc : List Nat), cutAt s acc l ≠ []
  | [], acc => by unfold cutAt; simp
  | c :: r, acc => by
    unfold cutAt
    split
    · simp
    · exact cut_ne s r _
theorem glue_cons {s : Nat} {p : List Nat} {q : List (List Nat)} (h : q ≠ []) : glue s (p :: q) = p ++ s :: glue s q := by
  cases q with
  | nil => exact absurd rfl h
  | cons a b => rfl
theorem glue_cut (s : Nat) : ∀ (l acc : List Nat), glue s (cutAt s acc l) = acc ++ l
  | [], acc => by unfold cutAt glue; simp
  | c :: r, acc => by
    unfold cutAt
    split
    · rename_i h
      rw [glue_cons (cut_ne s r []), glue_cut s r [], h]
      rfl
    · rw [glue_cut s r]
      simp
theorem split_ne (z : Str) {s : Nat} (hs : s < 256) : Txt.split z ⟨#[s]⟩ ≠ [] := fun e => by
  have h := split_cut z hs
  rw [e] at h
  exact cut_ne s _ _ h.symm
theorem split_glue (z : Str) {s : Nat} (hs : s < 256) : glue s ((Txt.split z ⟨#[s]⟩).map tl) = tl z := by
  rw [split_cut z hs, glue_cut]
  rfl
theorem split_inj {x y : Str} {s : Nat} (hs : s < 256) (h : Txt.split x ⟨#[s]⟩ = Txt.split y ⟨#[s]⟩) : x = y :=
  TL.ext_tl (by rw [← split_glue x hs, ← split_glue y hs, h])
theorem glue_len (s : Nat) : ∀ (ps : List (List Nat)), ∀ p ∈ ps, p.length ≤ (glue s ps).length
  | [], _, h => by cases h
  | [q], p, h => by
    rw [List.mem_singleton.mp h]
    exact Nat.le_refl _
  | a :: b :: r, p, h => by
    have ih := glue_len s (b :: r)
    show p.length ≤ (a ++ s :: glue s (b :: r)).length
    rw [List.length_append, List.length_cons]
    rcases List.mem_cons.mp h with rfl | h
    · omega
    · have := ih p h
      omega
theorem glue_count (s : Nat) : ∀ (ps : List (List Nat)), ps.length ≤ (glue s ps).length + 1
  | [] => Nat.zero_le _
  | [q] => by show 1 ≤ _; omega
  | a :: b :: r => by
    have ih := glue_count s (b :: r)
    show (b :: r).length + 1 ≤ (a ++ s :: glue s (b :: r)).length + 1
    simp only [List.length_append, List.length_cons] at ih ⊢
    omega
theorem split_len (z : Str) {s : Nat} (hs : s < 256) : (Txt.split z ⟨#[s]⟩).length ≤ z.length + 1 := by
  have h := glue_count s ((Txt.split z ⟨#[s]⟩).map tl)
  rw [split_glue z hs, List.length_map] at h
  rw [TL.len_tl]
  exact h
theorem split_part {z p : Str} {s : Nat} (hs : s < 256) (h : p ∈ Txt.split z ⟨#[s]⟩) : p.length ≤ z.length := by
  have h1 := glue_len s ((Txt.split z ⟨#[s]⟩).map tl) (tl p) (List.mem_map.mpr ⟨p, h, rfl⟩)
  rw [split_glue z hs] at h1
  rw [TL.len_tl, TL.len_tl]
  exact h1
/-! ### a test's answer, turned about -/
theorem nt {p : Prop} [Decidable p] (h : p) : ¬ (!decide p) = true := by rw [decide_eq_true h]; decide
theorem nf {p : Prop} [Decidable p] (h : ¬ p) : (!decide p) = true := by rw [decide_eq_false h]; rfl
theorem rd_nx {D : Ends} {σ : St} {H : Hp} (h : D.nx σ H) : tNext D σ H := h
theorem inV_str (x : Str) (ys : List Str) : inV (.str x) (ys.map V.str) = decide (x ∈ ys) := by
  unfold inV
  rw [Bool.eq_iff_iff, List.any_eq_true, decide_eq_true_iff]
  constructor
  · rintro ⟨v, hv, e⟩
    obtain ⟨y, hy, rfl⟩ := List.mem_map.mp hv
    have : y = x := by simpa [eqV] using e
    exact this ▸ hy
  · intro h
    exact ⟨.str x, List.mem_map.mpr ⟨x, h, rfl⟩, by simp [eqV]⟩
theorem flat_strs (ys : List Str) : (ys.map V.str).all flatV = true := by
  rw [List.all_eq_true]
  intro v hv
  obtain ⟨y, _, rfl⟩ := List.mem_map.mp hv
  rfl
end L2.Vx

set_option Elab.async false
set_option linter.all false
set_option maxRecDepth 100000
set_option maxHeartbeats 2000000
namespace L2.Vx
open PySem PySem.Spec PyProof.Rows
/-! ### data that are newly made -/
/-- what stands in H' and did not in H -/
def nw (H H' : Hp) : Hp := fun a => match H a with
  | none => H' a
  | some _ => none
theorem nw_at {H H' : Hp} {a : Addr} (h : H a = none) : nw H H' a = H' a := by
  unfold nw
  rw [h]
theorem nw_old {H H' : Hp} {a : Addr} {o : HO} (h : H a = some o) : nw H H' a = none := by
  unfold nw
  rw [h]
theorem nw_up {H H1 H2 : Hp} (s : Same H1 H2) : Same (nw H H1) (nw H H2) := fun b o e => by
  cases h : H b with
  | some u => rw [nw_old h] at e; cases e
  | none =>
    rw [nw_at h] at e ⊢
    exact s _ _ e
theorem nw_in {H H1 H2 : Hp} (s : Same H H1) : Same (nw H1 H2) (nw H H2) := fun b o e => by
  cases h : H1 b with
  | some u => rw [nw_old h] at e; cases e
  | none =>
    rw [nw_at h] at e
    rw [nw_at (s.free h)]
    exact e
theorem nw_le {H H' : Hp} : Same (nw H H') H' := fun b o e => by
  cases h : H b with
  | some u => rw [nw_old h] at e; cases e
  | none =>
    rw [nw_at h] at e
    exact e
theorem _root_.L2.Same.tup {K : PySem.W.Frag} {H H' : Hp} {a : Addr} {xs : List V} (k : Same H H') (h : SqT K H a xs) : SqT K H' a xs := by
  rcases h with (h | ⟨o, h⟩) | h
  · exact .inl (.inl (k _ _ h))
  · exact .inl (.inr ⟨o, k _ _ h⟩)
  · exact .inr h
mutual
theorem Dd_keep {K : PySem.W.Frag} {H H' : Hp} (k : Same H H') : ∀ {x : V} {d : PyData}, Dd K H x d → Dd K H' x d
  | _, _, .non => .non
  | _, _, .bl b => .bl b
  | _, _, .int i => .int i
  | _, _, .str x => .str x
  | _, _, .lst h t => .lst (k.seq h) (ddAll_keep k t)
  | _, _, .tup h t => .tup (k.tup h) (ddAll_keep k t)
  | _, _, .dct h t => .dct (k _ _ h) (ddAll_keep k t)
theorem ddAll_keep {K : PySem.W.Frag} {H H' : Hp} (k : Same H H') : ∀ {xs : List V} {ds : List PyData}, DdAll K H xs ds → DdAll K H' xs ds
  | _, _, .nil => .nil
  | _, _, .cons h t => .cons (Dd_keep k h) (ddAll_keep k t)
end
/-- an expression that makes the data d -/
def GD (K : PySem.W.Frag) (te : TE) (d : PyData) : Prop := ∀ (σ : St) (H : Hp) (Q : VK), (∀ v H', Same H H' → Dd K (nw H H') v d → Q v H') → te σ H Q
def GA (K : PySem.W.Frag) (ta : TA) (ds : List PyData) : Prop := ∀ (σ : St) (H : Hp) (Q : List V → Hp → Prop), (∀ vs H', Same H H' → DdAll K (nw H H') vs ds → Q vs H') → ta σ H Q
section
variable {K : PySem.W.Frag} {te : TE} {ta : TA} {d : PyData} {ds : List PyData}
theorem gd_const {v : V} (h : ∀ H, Dd K H v d) : GD K (tC v) d := fun σ H Q q => q v H (Same.refl H) (h _)
theorem ga_nil : GA K tNil [] := fun σ H Q q => q [] H (Same.refl H) .nil
theorem ga_cons (h : GD K te d) (t : GA K ta ds) : GA K (tCons te ta) (d :: ds) := fun σ H Q q =>
  h σ H _ fun v H1 s1 g1 => t σ H1 _ fun vs H2 s2 g2 => q (v :: vs) H2 (s1.trans s2) (.cons (Dd_keep (nw_up s2) g1) (ddAll_keep (nw_in s1) g2))
theorem ddAll_len {H : Hp} : ∀ {vs : List V} {ds : List PyData}, DdAll K H vs ds → vs.length = ds.length
  | _, _, .nil => rfl
  | _, _, .cons _ t => congrArg Nat.succ (ddAll_len t)
theorem gd_lst (h : GA K ta ds) (hl : ds.length ≤ 1000) : GD K (tLst ta) (.list ds) := fun σ H Q q => h σ H _ fun vs H1 s1 g => by
  refine ⟨Nat.le_trans (by rw [ddAll_len g]; exact hl) (by decide), fun p hp => ?_⟩
  refine q (.ref p) _ (s1.trans (same_new hp)) (.lst (SqL.of (by rw [nw_at (s1.free hp)]; exact upd_same)) (ddAll_keep (nw_up (same_new hp)) g))
theorem gd_tup (h : GA K ta ds) (hl : ds.length ≤ 1000) : GD K (tTup ta) (.tuple ds) := fun σ H Q q => h σ H _ fun vs H1 s1 g => by
  refine ⟨Nat.le_trans (by rw [ddAll_len g]; exact hl) (by decide), fun p hp => ?_⟩
  refine q (.ref p) _ (s1.trans (same_new hp)) (.tup (SqT.of (by rw [nw_at (s1.free hp)]; exact upd_same)) (ddAll_keep (nw_up (same_new hp)) g))
theorem gd_dnew : GD K tDNewK (.dict []) := fun σ H Q q p hp => q (.ref p) _ (same_new hp) (.dct (kvs := []) (by rw [nw_at hp]; exact upd_same) .nil)
/-- no text -/
def NoStr (K : PySem.W.Frag) (H : Hp) (v : V) : Prop := ∃ n : String, TyX K H v (.type n) ∧ kitB n "str" = some false
def isS : PyData → Bool
  | .str _ => true
  | _ => false
theorem tyX_list {H : Hp} {a : Addr} {xs : List V} (h : SqL K H a xs) : TyX K H (.ref a) (.type "list") := by
  rcases h with (h | ⟨o, h⟩) | ⟨o, its, n, h1, h2, _⟩
  · exact .base (.lst h)
  · exact .base (.frz h)
  · exact .kList h1 h2
theorem tyX_tup {H : Hp} {a : Addr} {xs : List V} (h : SqT K H a xs) : TyX K H (.ref a) (.type "tuple") := by
  rcases h with (h | ⟨o, h⟩) | ⟨o, its, n, h1, h2, _⟩
  · exact .base (.tup h)
  · exact .fTuple h
  · exact .kTuple h1 h2
theorem noStr_of {H : Hp} {v : V} {d : PyData} (h : Dd K H v d) (hs : isS d = false) : NoStr K H v := by
  cases h with
  | non => exact ⟨_, .base .non, by decide +kernel⟩
  | bl b => exact ⟨_, .base (.bl b), by decide +kernel⟩
  | int i => exact ⟨_, .base (.int i), by decide +kernel⟩
  | str x => cases hs
  | lst h t => exact ⟨_, tyX_list h, by decide +kernel⟩
  | tup h t => exact ⟨_, tyX_tup h, by decide +kernel⟩
  | dct h t => exact ⟨_, .base (.dK h), by decide +kernel⟩
end
end L2.Vx

set_option Elab.async false
set_option linter.all false
set_option maxRecDepth 100000
set_option maxHeartbeats 2000000
namespace L2.Vx
open PySem PySem.Spec PyProof.Rows
open TL (tl joinL)
/-! ### how long lists of texts are, put together -/
def tot (ys : List Str) : Nat := (ys.map fun y => y.length + 1).sum
theorem tot_nil : tot [] = 0 := rfl
theorem tot_cons (y : Str) (ys : List Str) : tot (y :: ys) = y.length + 1 + tot ys := by
  unfold tot
  rw [List.map_cons, List.sum_cons]
theorem tot_append : ∀ (a b : List Str), tot (a ++ b) = tot a + tot b
  | [], b => by rw [List.nil_append, tot_nil, Nat.zero_add]
  | x :: a, b => by rw [List.cons_append, tot_cons, tot_cons, tot_append a b]; omega
theorem tot_take (ys : List Str) (n : Nat) : tot (ys.take n) ≤ tot ys := by
  have := tot_append (ys.take n) (ys.drop n)
  rw [List.take_append_drop] at this
  omega
theorem tot_drop (ys : List Str) (n : Nat) : tot (ys.drop n) ≤ tot ys := by
  have := tot_append (ys.take n) (ys.drop n)
  rw [List.take_append_drop] at this
  omega
theorem tot_cut (ys : List Str) (n : Nat) : tot (ys.take n) + tot (ys.drop n) = tot ys := by
  have := tot_append (ys.take n) (ys.drop n)
  rw [List.take_append_drop] at this
  omega
theorem tot_mem : ∀ {ys : List Str} {y : Str}, y ∈ ys → y.length + 1 ≤ tot ys
  | x :: ys, y, h => by
    rw [tot_cons]
    rcases List.mem_cons.mp h with rfl | h
    · omega
    · have := tot_mem h
      omega
theorem tot_erase : ∀ (ys : List Str) (n : Nat), tot (ys.eraseIdx n) ≤ tot ys
  | [], _ => by simp
  | y :: ys, 0 => by rw [List.eraseIdx_cons_zero, tot_cons]; omega
  | y :: ys, n + 1 => by
    rw [List.eraseIdx_cons_succ, tot_cons, tot_cons]
    have := tot_erase ys n
    omega
theorem tot_erase_at : ∀ (ys : List Str) (n : Nat) (y : Str), ys[n]? = some y → tot (ys.eraseIdx n) + (y.length + 1) = tot ys
  | [], _, _, h => by simp at h
  | x :: ys, 0, y, h => by
    simp at h
    subst h
    rw [List.eraseIdx_cons_zero, tot_cons]; omega
  | x :: ys, n + 1, y, h => by
    rw [List.eraseIdx_cons_succ, tot_cons, tot_cons]
    have := tot_erase_at ys n y (by simpa using h)
    omega
theorem tot_set : ∀ (ys : List Str) (n : Nat) (v : Str), tot (ys.set n v) ≤ tot ys + v.length
  | [], _, _ => by simp [tot_nil]
  | y :: ys, 0, v => by rw [List.set_cons_zero, tot_cons, tot_cons]; omega
  | y :: ys, n + 1, v => by
    rw [List.set_cons_succ, tot_cons, tot_cons]
    have := tot_set ys n v
    omega
theorem tot_len (ys : List Str) : ys.length ≤ tot ys := by
  induction ys with
  | nil => simp
  | cons y ys ih =>
    rw [List.length_cons, tot_cons]
    omega
theorem tot_sum (ys : List Str) {a : Str} (ha : a.length = 1) : (ys.map (·.length)).sum + ys.length * a.length = tot ys := by
  rw [ha, Nat.mul_one]
  induction ys with
  | nil => rfl
  | cons y ys ih =>
    rw [List.map_cons, List.sum_cons, List.length_cons, tot_cons, ← ih]
    omega
theorem joinL_len (s : List Nat) (hs : s.length = 1) : ∀ ys : List Str, (joinL s (ys.map tl)).length ≤ tot ys
  | [] => by simp [joinL]
  | [y] => by
    show (tl y).length ≤ tot [y]
    rw [tot_cons, ← TL.len_tl]
    omega
  | x :: y :: r => by
    show (tl x ++ (s ++ joinL s ((y :: r).map tl))).length ≤ _
    have ih := joinL_len s hs (y :: r)
    rw [List.length_append, List.length_append, hs, tot_cons, ← TL.len_tl]
    omega
theorem join_tot {a : Str} (ha : a.length = 1) (ys : List Str) : (Txt.join a ys).length ≤ tot ys := by
  rw [TL.join_eq, TL.len_tl, TL.tl_join]
  exact joinL_len _ (by rw [← TL.len_tl]; exact ha) ys
theorem glue_tot (s : Nat) : ∀ (ys : List Str), ys ≠ [] → tot ys = (glue s (ys.map tl)).length + 1
  | [], h => absurd rfl h
  | [y], _ => by
    show tot [y] = (tl y).length + 1
    rw [tot_cons, tot_nil, ← TL.len_tl]
  | x :: y :: r, _ => by
    show tot (x :: y :: r) = (tl x ++ s :: glue s ((y :: r).map tl)).length + 1
    rw [tot_cons, glue_tot s (y :: r) (by simp), List.length_append, List.length_cons, ← TL.len_tl]
    omega
theorem split_tot (z : Str) {s : Nat} (hs : s < 256) : tot (Txt.split z ⟨#[s]⟩) = z.length + 1 := by
  rw [glue_tot s _ (split_ne z hs), split_glue z hs, ← TL.len_tl]
theorem nl1 : ("\n" : Str).length = 1 := by decide +kernel
theorem sp1 : (" " : Str).length = 1 := by decide +kernel
end L2.Vx

set_option Elab.async false
set_option linter.all false
set_option maxRecDepth 100000
set_option maxHeartbeats 2000000
namespace L2.Vx
open PySem PySem.Spec PyProof.Rows
open SlX (run_at cmpback)
/-! ### operators by an own def of the class: in, not in, len, o[i], == -/
section
variable {X : Cx} {CX : CXT} {C g : Addr} {n : Nat} {sp : Sp} {E : XK}
theorem ins_at {pins : List (Addr × Obj)} {σ : St} {H : Hp} {s : Shared} {a dx : Addr} {fs : List (Str × V)} (I : Inv X pins σ H s) (e : H a = some (.ins C dx fs)) : ∃ od, PySem.W.InstAt s.heap a (PySem.W.instObj C dx) C (some od) := by
  obtain ⟨mA, O, _⟩ := ins_get I.hok e
  obtain ⟨od, J, _⟩ := O.look
  exact ⟨od, J⟩
/-- x in o, o.__contains__ at g gives a bool -/
def rInOwn (C : Addr) (sp : Sp) (E : XK) : R2 := fun x y H Q => ∃ a dx fs, y = .ref a ∧ H a = some (.ins C dx fs) ∧ sp [.ref a, x] H (fun r H' => ∃ b, r = .bl b ∧ Q (.bl b) H') E
theorem op_inOwn (hs : PySem.W.findIn X.K (.ref C) "__contains__" = some (some (.ref g))) (hf : PySem.W.isFn X.K (.ref g) = true) (F : FnR X.prog X.w X.K X.mg X.base CX n g sp) (hr : Room n X.A) (hx : Passes CX X E) :
    OpR X (compareOp .In) (rInOwn C sp E) := by
  intro pins s σ H x y v u Q I rx ry h
  obtain ⟨a, dx, fs, rfl, ha, q⟩ := h
  cases (show u = Value.ref a from ry)
  obtain ⟨od, J⟩ := ins_at I ha
  obtain ⟨m, hF⟩ := I.fr
  refine PySem.W.in_K hF I.ok.mod.kin J hs hf (wpAny_mono (wpAny_call (run_fnR (us := [.ref a, v]) (vs := [.ref a, x]) F hr hx I (.cons rfl (.cons rx .nil)) q)) (fun w s' z => ?_) fun _ _ e => e)
  obtain ⟨z', H', I', rz, b, eb, qz⟩ := z
  subst eb
  cases (show w = Value.bool b from rz)
  exact wpAny_truthy_bool ⟨.bl b, H', I', rfl, qz⟩
/-- len(o), o.__len__ at g gives an int -/
def rLenOwn (C : Addr) (sp : Sp) (E : XK) : List V → Hp → VK → Prop := fun xs H Q => ∃ a dx fs, xs = [V.ref a] ∧ H a = some (.ins C dx fs) ∧ sp [.ref a] H (fun z H' => ∃ i : Int, z = .int i ∧ 0 ≤ i ∧ i < 2 ^ 63 ∧ Q (.int i) H') E
theorem call_lenOwn (hs : PySem.W.findIn X.K (.ref C) "__len__" = some (some (.ref g))) (hf : PySem.W.isFn X.K (.ref g) = true) (F : FnR X.prog X.w X.K X.mg X.base CX n g sp) (hr : Room (n + 1) X.A) (hx : Passes CX X E) :
    CallR X (.builtin "len") (rLenOwn C sp E) := by
  intro pins s σ H xs us Q I r h
  obtain ⟨a, dx, fs, rfl, ha, q⟩ := h
  obtain ⟨u, rfl, ru⟩ := r.one
  cases (show u = Value.ref a from ru)
  obtain ⟨od, J⟩ := ins_at I ha
  obtain ⟨m, hF⟩ := I.fr
  refine PySem.W.len_K hF I.ok.mod.kin J hs hf (wpAny_mono (wpAny_call (run_at (us := [.ref a]) (ws := [.ref a]) F (Room.in1 hr) I.env0.in1 hx I (.cons rfl .nil) q)) (fun w s' z => ?_) fun _ _ x => x)
  obtain ⟨z', H', I', rz, i, ei, i0, i1, qz⟩ := z
  subst ei
  obtain ⟨t, e⟩ := (show ∃ t, w = Value.int i t from rz)
  subst e
  exact ⟨⟨i0, i1⟩, .int i, H', I'.tok _, ⟨_, rfl⟩, qz⟩
/-- o[i], o.__getitem__ at g (which may raise: E) -/
def tItemOwn (C : Addr) (sp : Sp) (E : XK) (ta tb : TE) : TE := fun σ H Q => ta σ H fun x H1 => tb σ H1 fun y H2 => ∃ a dx fs, x = .ref a ∧ H2 a = some (.ins C dx fs) ∧ sp [.ref a, y] H2 Q E
theorem pe_itemOwn {a b : Expr} {ta tb : TE} {pos : Pos} (hs : PySem.W.findIn X.K (.ref C) "__getitem__" = some (some (.ref g))) (hfn : PySem.W.fnIn X.K g = true) (hf : PySem.W.isFn X.K (.ref g) = true) (F : FnR X.prog X.w X.K X.mg X.base CX n g sp)
    (hr : Room (n + 1) X.A) (hx : Passes CX X E) (ha : PE X a ta) (hb : PE X b tb)
    (hsl : ∀ v u, subscripted b true v u = runValue (.builtin "lifetime.subscript" ⟨[v, u], []⟩) := by intro _ _; with_unfolding_all rfl) : PE X (.Subscript a b pos) (tItemOwn C sp E ta tb) := by
  refine ⟨fun pins s σ H Q I h => ?_⟩
  refine Subscript_ (binT ha hb I h fun v u s2 x y H2 I2 rx ry q => ?_)
  obtain ⟨a0, dx, fs, rfl, hins, q⟩ := q
  cases (show v = Value.ref a0 from rx)
  obtain ⟨od, J⟩ := ins_at I2 hins
  obtain ⟨m, hF⟩ := I2.fr
  exact PySem.W.sub_K hF I2.ok.mod.kin J hs hfn hf (wpAny_mono (wpAny_call (run_at (us := [.ref a0, u]) (ws := [.ref a0, y]) F (Room.in1 hr) I2.env0.in1 hx I2 (.cons rfl (.cons ry .nil)) q)) (fun w s' z => z) fun _ _ x => x) (hsl _ _)
/-- what stands right of ==: None, a text, an instance of an own class -/
def RightOf (K : PySem.W.Frag) (C : Addr) (H : Hp) (y : V) : Prop := (y = .non ∧ PySem.W.notFirst K C (.type "NoneType") = true) ∨ ((∃ z, y = .str z) ∧ PySem.W.notFirst K C (.type "str") = true) ∨
  ∃ b C' dy gs, y = .ref b ∧ H b = some (.ins C' dy gs) ∧ PySem.W.notFirst K C (.ref C') = true
def rEqOwn (K : PySem.W.Frag) (C : Addr) (sp : Sp) (E : XK) : R2 := fun x y H Q => ∃ a dx fs, x = .ref a ∧ H a = some (.ins C dx fs) ∧ RightOf K C H y ∧ sp [x, y] H Q E
theorem op_eqOwn (hs : PySem.W.findIn X.K (.ref C) (cmpInfo .Eq).2.1 = some (some (.ref g))) (hf : PySem.W.isFn X.K (.ref g) = true) (F : FnR X.prog X.w X.K X.mg X.base CX n g sp)
    (hr : Room n X.A) (hx : Passes CX X E) : OpR X (compareOp .Eq) (rEqOwn X.K C sp E) := by
  intro pins s σ H x y v u Q I rx ry h
  obtain ⟨a, dx, fs, rfl, ha, hy, q⟩ := h
  cases (show v = Value.ref a from rx)
  obtain ⟨od, J⟩ := ins_at I ha
  obtain ⟨m, hF⟩ := I.fr
  have tb : ∃ t, PySem.W.Looks (model X.prog X.w) s.heap (typeOf u) t ∧ PySem.W.notFirst X.K C t = true := by
    rcases hy with ⟨rfl, h⟩ | ⟨⟨z, rfl⟩, h⟩ | ⟨b, C', dy, gs, rfl, hb, h⟩
    · cases (show u = Value.none from ry)
      exact ⟨_, PySem.W.Looks.of_pure rfl, h⟩
    · obtain ⟨t, rfl⟩ := ry
      exact ⟨_, PySem.W.Looks.of_pure rfl, h⟩
    · cases (show u = Value.ref b from ry)
      obtain ⟨od', J'⟩ := ins_at I hb
      exact ⟨_, J'.type, h⟩
  obtain ⟨t, ht, hn⟩ := tb
  show wpAny _ _ (richCompare .Eq (.ref a) u) _ _ _
  refine PySem.W.cmp_K (op := .Eq) (tb := t) hr.units0 hF I.ok.mod.kin J ht hn hs hf ?_
  refine wpAny_mono (wpAny_call (run_fnR (us := [.ref a, u]) (vs := [.ref a, y]) F hr hx I (.cons rfl (.cons ry .nil)) q)) (fun w s' z => ?_) fun _ _ x => x
  obtain ⟨z', H', I', rz, qz⟩ := z
  exact cmpback rz ⟨z', H', I', rz, qz⟩
end
end L2.Vx

set_option Elab.async false
set_option linter.all false
set_option maxRecDepth 100000
set_option maxHeartbeats 2000000
namespace L2.Vx
open PySem PySem.Spec PyProof.Rows PySem.SeqAt
open AutoSeq1 (wpAny_loadPart')
open MeetsSeq
/-! ### a dict == a text: False -/
theorem dict_declines_str (l : Addr) (es : Array DictEntry) (ep : Nat) (dd : Option Addr) (sl : Array (Option Value)) (b : Str) (u : Tok) :
    Meets (Builtin.«dict.__eq__» ⟨[.ref l, .str b u], []⟩) (fun _ R s => s.heap.get? l = some { cls := .type "dict", dict := dd, data := .dict es ep, slots := sl } ∧ R (.ok (.ret .notImplemented)) s) :=
  .of_wp fun prog w A R s h => by
    obtain ⟨hp, g, d, tk, os⟩ := s
    obtain ⟨hl, h⟩ := h
    have f1 := F.sub_str_dict
    wp_walk using wpAny_loadPart' hl, wpAny_load hl
    exact ⟨_, rfl, h⟩
theorem str_declines_dict (b : Str) (u : Tok) (l : Addr) (es : Array DictEntry) (ep : Nat) (dd : Option Addr) (sl : Array (Option Value)) :
    Meets (Builtin.«str.__eq__» ⟨[.str b u, .ref l], []⟩) (fun _ R s => s.heap.get? l = some { cls := .type "dict", dict := dd, data := .dict es ep, slots := sl } ∧ R (.ok (.ret .notImplemented)) s) :=
  .of_wp fun prog w A R s h => by
    obtain ⟨hp, g, d, tk, os⟩ := s
    obtain ⟨hl, h⟩ := h
    wp_walk using wpAny_loadPart' hl, wpAny_load hl
    exact ⟨_, rfl, h⟩
def rEqDictStr : R2 := fun x y H Q => ∃ a kvs z, x = .ref a ∧ y = .str z ∧ H a = some (.dK kvs) ∧ Q (.bl false) H
theorem op_eqDictStr {X : Cx} (hu : X.A.units < cLine) : OpR X (compareOp .Eq) rEqDictStr := by
  intro pins s σ H x y v u Q I rx ry h
  obtain ⟨a, kvs, z, rfl, rfl, ha, q⟩ := h
  cases (show v = Value.ref a from rx)
  obtain ⟨t, rfl⟩ := ry
  obtain ⟨_, _, vs, _, p⟩ := (show ObjOk X.prog X.w H s.heap a (.dK kvs) from I.hok a _ ha)
  obtain ⟨⟨cls, dd, data, sl⟩, es, ep, ho, hx, hd, _⟩ := p
  have hc : cls = .type "dict" := hx.1
  have hd2 : data = .dict es ep := hd
  subst hc hd2
  show wpAny _ _ (richCompare .Eq (.ref a) (.str z t)) _ _ _
  exact rc_eq_decline_or (k := false) ⟨_, ho, rfl⟩ (typeIs_str s z t) (by decide) F.sub_str_dict F.slot_dict_eq F.slot_str_eq_refl
    (fun _ hq => call_meets F.slot_dict_eq ⟨_, ho, rfl⟩ F.entry_dict_eq (F.args_dict_eq_2 _ _) (dict_declines_str a es ep dd sl z t) ⟨ho, hq⟩)
    (fun _ hq => call_meets F.slot_str_eq_refl (typeIs_str s z t) F.entry_str_eq (F.args_str_eq_2 _ _) (str_declines_dict z t a es ep dd sl) ⟨ho, hq⟩)
    (fun _ hq => wpAny_of_eq (rfl : isSame (.ref a) (.str z t) = pure false) hq) (.inr hu) ⟨.bl false, H, I, rfl, q⟩
end L2.Vx

set_option Elab.async false
set_option linter.all false
set_option maxRecDepth 100000
set_option maxHeartbeats 2000000
namespace L2.Vx
open PySem PySem.Spec PyProof.Rows
open LamX (TabB)
/-- the end of a law whose def is told the guards, with one table of code objects, at PT, of the code object c -/
theorem law_callTG {P : Program} {w : World} {K : PySem.W.Frag} {mg mb : Str → Option Value} {CX : CXT} {k : Nat} {fa a c PT : Addr} {fd : FuncData} {x : Str} {sp : Sp}
    {s₁ : Shared} {vs : List Value} {ns : List Int}
    (KX : K.In s₁.heap) (hns : s₁.heap.Ns mainGlobals mg) (hb : s₁.heap.Ns builtinsNs mb) (hbb : ∀ x : Str, x ≠ "__name__" → mb x = bootBuiltins x)
    (hlim : s₁.heap.NoLimit) (hg : s₁.gens = #[]) (hT : s₁.heap.get? PT = some { cls := .none, data := .fields #[] }) (nT : K.lookup PT = none) (CH : PySem.W.CodeHd s₁.heap c PT)
    (hbm : ∃ (bm : Addr) (ob : Obj), mg "__builtins__" = some (.ref bm) ∧ bm ≠ builtinsNs ∧ s₁.heap.get? bm = some ob ∧ ob.cls = .type "module" ∧ ob.dict = some builtinsNs ∧ ob.data = .plain)
    (ha : s₁.heap.get? a = some { cls := .type "list", data := .seq vs.toArray }) (hi : IntsAre vs ns)
    (hl : ns.length ≤ sizeLine) (hr : Room k callerA)
    (F : ∀ base : Heap, K.In base → base.Ns mainGlobals mg → TabB base mg c PT → FnG P w K mg base CX k fa fd [x] sp)
    (hbind : ∀ (s : Shared) (u : Value), BindsTo s fd ⟨[u], []⟩ [(x, u)])
    (hsp : ∀ H : Hp, H PT = some (.tbl #[]) → SqL K H a (ns.map V.int) → sp [.ref a] H (fun v _ => v = .bl true) fun _ _ _ => False)
    (hCX : ∀ H e s', CX [] H s₁ (fun _ _ _ => False) e s' → False) :
    codeAny (model P w) callerA (.call (.ref fa) ⟨[.ref a], []⟩)
      (fun r s' => r = .ok (.ret (.bool true)) ∧ OldK s₁.heap s'.heap ∧ s'.os = s₁.os ∧ AllBare s'.gens) s₁ := by
  have lenV := hi.length
  have rv := vals_ints hi
  have aPT : a ≠ PT := fun z => by
    rw [z, hT] at ha
    cases ha
  have any : ∀ H : Hp, H PT = some (.tbl #[]) → SqL K H a (ns.map V.int) → HOk P w H s₁.heap → (∀ b u, H b = some u → b = PT ∨ (b = a ∧ ∃ o xs, u = .frz o (.lst xs))) → (∀ u, H a = some u → K.lookup a = none) →
      codeAny (model P w) callerA (.call (.ref fa) ⟨[.ref a], []⟩)
        (fun r s' => r = .ok (.ret (.bool true)) ∧ OldK s₁.heap s'.heap ∧ s'.os = s₁.os ∧ AllBare s'.gens) s₁ := by
    intro H hP hS hok only free
    have stays : ∀ {b : Addr} {o : Obj}, s₁.heap.get? b = some o → (∀ u, H b = some u → False) → (hidT s₁.heap H).get? b = some o := by
      intro b o e n
      refine hidT_get e ?_
      cases q : H b with
      | none => rfl
      | some u => exact (n u q).elim
    have other : ∀ {b : Addr} {o : Obj}, s₁.heap.get? b = some o → (∀ vs n, o.data ≠ .seq vs n) → o.data ≠ .fields #[] → (hidT s₁.heap H).get? b = some o := by
      intro b o e n1 n2
      refine stays e fun u q => ?_
      rcases only b u q with eb | ⟨eb, _⟩
      · rw [eb, hT] at e
        cases e
        exact n2 rfl
      · rw [eb, ha] at e
        cases e
        exact n1 _ _ rfl
    have ns' : ∀ {b : Addr} {m : Str → Option Value}, s₁.heap.Ns b m → (hidT s₁.heap H).Ns b m := by
      intro b m h
      obtain ⟨o, es, ep, e, d, r⟩ := h
      exact ⟨o, es, ep, other e (fun _ _ z => by rw [d] at z; cases z) (fun z => by rw [d] at z; cases z), d, r⟩
    have KB : K.In (hidT s₁.heap H) := by
      intro b o e
      refine stays (KX b o e) fun u q => ?_
      rcases only b u q with eb | ⟨eb, _⟩
      · rw [eb, nT] at e
        cases e
      · rw [eb] at q e
        rw [free u q] at e
        cases e
    have M : Mod K mg (hidT s₁.heap H) := by
      obtain ⟨mc, h1, h2⟩ := hlim
      exact ⟨KB, ns' hns, ⟨mb, ns' hb, hbb⟩, ⟨mc, ns' h1, h2⟩⟩
    have TB : TabB (hidT s₁.heap H) mg c PT := by
      refine ⟨?_, ?_, fun z => ?_⟩
      · obtain ⟨o, us, file, tf, flags, tg, inF, text, tt, q1, qc, q2, q3, rest⟩ := CH
        refine ⟨o, us, file, tf, flags, tg, inF, text, tt, other q1 (fun _ _ z => by rw [q2] at z; cases z) (fun z => ?_), qc, q2, q3, rest⟩
        rw [q2] at z
        cases z
        simp at q3
      · obtain ⟨bm, ob, b1, b2, b3, b4, b5, b6⟩ := hbm
        refine ⟨bm, ob, b1, b2, fun q => ?_, fun q => ?_, other b3 (fun _ _ z => by rw [b6] at z; cases z) (fun z => by rw [b6] at z; cases z), b4, b5, b6⟩
        · obtain ⟨o, es, ep, e, d, _⟩ := hns
          rw [q, e] at b3
          cases b3
          rw [d] at b6
          cases b6
        · rw [q, hT] at b3
          cases b3
          cases b6
      · obtain ⟨o, es, ep, e, d, _⟩ := hns
        rw [z, hT] at e
        cases e
        cases d
    have e0 : Env0 P w K mg (hidT s₁.heap H) callerA [] s₁ H :=
      { frames := rfl, mod := M, bs := fun b o e => of_hidT e, bsz := Nat.le_of_eq (hidT_size _ _), funs := trivial, frf := fun b z => (by cases z), hok := hok, bare := .of_eq hg }
    have run := (F _ KB (ns' hns) TB).run callerA [] s₁ H ⟨[.ref a], []⟩ [.ref a] [.ref a] _ _ rfl hr e0 (hbind s₁ (.ref a)) (.cons rfl .nil) (hsp H hP hS)
    refine codeAny_mono run fun r s' h => ?_
    match r, h with
    | .error e, h => exact (hCX H e s' h).elim
    | .ok .next, h => exact h.elim
    | .ok .brk, h => exact h.elim
    | .ok .cont, h => exact h.elim
    | .ok (.ret u), ⟨v, H', os, bare, un, hok', r', q⟩ =>
      obtain rfl : v = .bl true := q
      obtain rfl : u = Value.bool true := r'
      have kept : ∀ b o, b ≠ PT → s₁.heap.get? b = some o → s'.heap.get? b = some o := fun b o nb e => by
        cases z : H b with
        | none => exact un.keep b o e z (fun z => by cases z) (fun z => by cases z)
        | some u =>
          rcases only b u z with eb | ⟨_, ob, xs, eu⟩
          · exact absurd eb nb
          · subst eu
            obtain ⟨e1, _⟩ := hok b _ z
            obtain ⟨e2, _⟩ := hok' b _ (un.frzs b ob _ z)
            rw [e] at e1
            cases e1
            exact e2
      obtain ⟨more, hm⟩ : ∃ more : Array Value, s'.heap.get? PT = some { cls := .none, data := .fields more } := by
        obtain ⟨more, z⟩ := un.tbls PT #[] hP
        exact ⟨_, hok' PT _ z⟩
      refine ⟨rfl, ⟨fun b o e => ?_, fun b o e => ?_⟩, os, bare⟩
      · by_cases hbP : b = PT
        · subst hbP
          rw [hT] at e
          cases e
          exact .inr (.inl ⟨(CH.tab hT).isCodeTable, rfl, #[], more, rfl, by rw [Array.empty_append]; exact hm⟩)
        · exact .inl (kept b o hbP e)
      · by_cases hbP : b = PT
        · subst hbP
          exact ⟨_, hm⟩
        · exact ⟨o, kept b o hbP e⟩
  have tblOk : ∀ {H : Hp}, ObjOk P w H s₁.heap PT (.tbl #[]) := fun {H} => hT
  cases hk : K.lookup a with
  | some o =>
    have e := KX a o hk
    rw [ha] at e
    cases e
    refine any (fun b => if b = PT then some (.tbl #[]) else none) (if_pos rfl) (.inr ⟨_, vs.toArray, _, hk, rfl, rfl, rfl, ?_, by simpa using rv⟩) (fun b u z => ?_) (fun b u z => ?_) (fun u z => ?_)
    · rw [List.size_toArray, lenV]
      exact hl
    · by_cases q : b = PT
      · subst q
        have z := (if_pos rfl).symm.trans z
        cases z
        exact tblOk
      · have z := (if_neg q).symm.trans z
        cases z
    · by_cases q : b = PT
      · exact .inl q
      · have z := (if_neg q).symm.trans z
        cases z
    · have z := (if_neg aPT).symm.trans z
      cases z
  | none =>
    refine any (fun b => if b = PT then some (.tbl #[]) else if b = a then some (.frz { cls := .type "list", data := .seq vs.toArray } (.lst (ns.map V.int))) else none) (if_pos rfl)
      (.inl (.inr ⟨{ cls := .type "list", data := .seq vs.toArray }, (if_neg aPT).trans (if_pos rfl)⟩)) (fun b u z => ?_) (fun b u z => ?_) (fun _ _ => hk)
    · by_cases q : b = PT
      · subst q
        have z := (if_pos rfl).symm.trans z
        cases z
        exact tblOk
      · have z := (if_neg q).symm.trans z
        by_cases q2 : b = a
        · subst q2
          have z := (if_pos rfl).symm.trans z
          cases z
          exact ⟨ha, by rw [List.length_map]; exact hl, vs, _, rv, ha⟩
        · have z := (if_neg q2).symm.trans z
          cases z
    · by_cases q : b = PT
      · exact .inl q
      · have z := (if_neg q).symm.trans z
        by_cases q2 : b = a
        · subst q2
          have z := (if_pos rfl).symm.trans z
          cases z
          exact .inr ⟨rfl, _, _, rfl⟩
        · have z := (if_neg q2).symm.trans z
          cases z
theorem walk_ofTEG {l : PySem.W.OpenLaw} {n k : Nat} {q : Program} {loose : List Str} {XP : (Str → Option Value) → Heap → Prop} {YP : World → Heap → Prop} {d : DefRec} {CX : CXT} {x : Str}
    (hn : l.most = some n) (hn2 : n ≤ sizeLine) (hdf : d.params.defaults = []) (hr : Room k callerA)
    (F : ∀ (w : World) (mg : Str → Option Value) (fa : Addr) (h : Heap), YP w h → h.Ns mainGlobals mg → mg d.name = some (.ref fa) →
      ∃ (K : PySem.W.Frag) (c PT : Addr) (fd : FuncData) (sp : Sp), K.In h ∧ h.get? PT = some { cls := .none, data := .fields #[] } ∧ K.lookup PT = none ∧ PySem.W.CodeHd h c PT ∧
        (∀ (s : Shared) (u : Value), BindsTo s fd ⟨[u], []⟩ [(x, u)]) ∧
        (∀ (H : Hp) (a : Addr) (ns : List Int), ns.length ≤ n → H PT = some (.tbl #[]) → SqL K H a (ns.map V.int) → sp [.ref a] H (fun v _ => v = .bl true) fun _ _ _ => False) ∧
        ∀ base : Heap, K.In base → base.Ns mainGlobals mg → TabB base mg c PT → FnG l.prog w K mg base CX k fa fd [x] sp)
    (hCX : ∀ (H : Hp) (s : Shared) (e : Value) (s' : Shared), CX [] H s (fun _ _ _ => False) e s' → False) :
    PySem.W.WalkO q loose XP YP l.row.toRowW d [] (fun f vs => PySem.call f vs) := by
  refine Att.attach_callB hn hdf fun w s₀ s₁ mg mb fa o pm cd doc a vs ns G Y ho hd hcd hmg hobj hints hlen hbits hg => ?_
  obtain ⟨K, c, PT, fd, sp, KX, hT, nT, CH, hb, hsp, hF⟩ := F w mg fa _ Y G.T.g hmg
  exact law_callTG KX G.T.g G.T.b G.T.builtins G.T.nolimit hg hT nT CH G.T.bmain hobj hints (Nat.le_trans hlen hn2) hr hF hb (fun H hH hS => hsp H a ns hlen hH hS) fun H e s' => hCX H s₁ e s'
section
variable {P : Program} {w : World} {K : PySem.W.Frag} {mg : Str → Option Value} {base : Heap}
/-- a def that is told the guards, its code object known -/
theorem okGC {x qual : Str} {st : Stmt} {f c : Addr} {fd : FuncData} {N ps : List Str} {k : Nat} {sp : Sp} (F : Fun K x qual st f fd) (hc : fd.code = .ref c)
    (S : FnScope N ps (defScope st)) (len : ∀ vs H Q E, sp vs H Q E → vs.length = ps.length)
    (hbody : ∀ (A : Around) (outer : List Env) (s : Shared) (H : Hp) (vs : List V) (Q : VK) (E : XK), A.guards = some [] →
      Room k (A.deeper (envOfC qual (defScope st) s.heap.objs.size f (.ref c))) → sp vs H Q E →
      ∃ t, PSs (cxOf CX0 P w K mg base N qual (defScope st) f (.ref c) A outer s H E) (defBody st) t ∧
        t { nx := fun _ H' => Q .non H', rt := Q } (start N vs) H) : FnG P w K mg base CX0 (k + 1) f fd ps sp := by
  obtain ⟨oc, od, kV, doc, pm, an, cdv, ct, osl, rfl, lk, hcd⟩ := F.ex
  obtain rfl : cdv = .ref c := hc
  refine ⟨len, fun A outer s H args us vs Q E gd hr e0 hb r hsp => ?_⟩
  have old : ∀ b o, base.get? b = some o → s.heap.get? b = some o := fun b o e => (e0.bs b o e).1
  have KX : K.In s.heap := e0.mod.kin.keeps old
  have par : ∀ y ∈ ps.zip us, (defScope st).names.lookup y.1 = some .local ∨
      ((defScope st).names.lookup y.1 = some .cell ∧ ((cellsFrom (s.heap.objs.size + 1) (defScope st).names []).lookup y.1).isSome = true) := by
    intro y hy
    obtain ⟨n, v⟩ := y
    rcases S.par n (List.of_mem_zip hy).1 with q | q
    · exact .inl q
    · exact .inr ⟨q, PySem.W.cellsFrom_some _ _ _ (.inl q)⟩
  refine codeAny_call_function hr.depth (KX _ _ lk) rfl S.co S.gen rfl (PySem.W.codeRec_of KX hcd) (hb _ _ _ _ ?_)
  refine wpAny_newFunctionEnv_cells S.kind par fun env he s1 ic => ?_
  subst he
  refine ⟨(e0.mod.nolimit.keeps old).keeps ic.toInCall.keep, codeAny_func ?_⟩
  obtain ⟨t, ht, hq⟩ := hbody A outer s H vs Q E gd (hr.deeper _) hsp
  have I := inv_start (CX := CX0) (E := E) S hr.hd e0 (len _ _ _ _ hsp) r ic
  refine wpAny_mono (ht.run [] s1 _ H _ I hq) (fun fl s' hs => ?_) fun _ _ z => z
  match fl, hs with
  | .ret u, ⟨v, σ', H', J, rv, q⟩ => exact ⟨v, H', J.os, J.bare, J.base, J.hok, rv, q⟩
  | .next, ⟨σ', H', J, q⟩ => exact ⟨V.non, H', J.os, J.bare, J.base, J.hok, rfl, q⟩
  | .brk, ⟨_, _, _, q⟩ => exact q.elim
  | .cont, ⟨_, _, _, q⟩ => exact q.elim
end
end L2.Vx

set_option Elab.async false
set_option linter.all false
set_option maxRecDepth 100000
set_option maxHeartbeats 3200000
namespace L2.Vx
open PySem PySem.Spec PyProof.Rows
/-! ### set(xs) of a list of texts -/
section
variable {κ : Type} [DecidableEq κ]
/-- the unlike ones of a list, each where it comes first -/
def firsts (l : List κ) : List κ := l.foldl (fun acc x => if x ∈ acc then acc else acc ++ [x]) []
theorem firsts_snoc (l : List κ) (x : κ) : firsts (l ++ [x]) = if x ∈ firsts l then firsts l else firsts l ++ [x] := by
  unfold firsts
  rw [List.foldl_append]
  rfl
theorem snoc_ind {α : Type} {C : List α → Prop} (h0 : C []) (h1 : ∀ l x, C l → C (l ++ [x])) (l : List α) : C l := by
  have : ∀ n (l : List α), l.length = n → C l := by
    intro n
    induction n with
    | zero => intro l e; rw [List.length_eq_zero_iff.mp e]; exact h0
    | succ n ih =>
      intro l e
      have hne : l ≠ [] := fun z => by rw [z] at e; cases e
      rw [← List.dropLast_concat_getLast hne]
      refine h1 _ _ (ih _ ?_)
      rw [List.length_dropLast, e]
      rfl
  exact this _ l rfl
theorem mem_firsts (l : List κ) : ∀ x, x ∈ firsts l ↔ x ∈ l := by
  refine snoc_ind (C := fun l => ∀ x, x ∈ firsts l ↔ x ∈ l) (fun x => Iff.rfl) (fun l y ih x => ?_) l
  rw [firsts_snoc, List.mem_append, List.mem_singleton]
  by_cases h : y ∈ firsts l
  · rw [if_pos h, ih]
    exact ⟨Or.inl, fun q => q.elim id fun e => e ▸ (ih y).mp h⟩
  · rw [if_neg h, List.mem_append, List.mem_singleton, ih]
theorem firsts_nodup (l : List κ) : (firsts l).Nodup := by
  refine snoc_ind (C := fun l => (firsts l).Nodup) List.nodup_nil (fun l y ih => ?_) l
  rw [firsts_snoc]
  by_cases h : y ∈ firsts l
  · rw [if_pos h]
    exact ih
  · rw [if_neg h, List.nodup_append]
    refine ⟨ih, List.pairwise_singleton _ _, fun a ha b hb e => ?_⟩
    rw [List.mem_singleton.mp hb] at e
    exact h (e ▸ ha)
theorem firsts_le (l : List κ) : (firsts l).length ≤ l.length := by
  refine snoc_ind (C := fun l => (firsts l).length ≤ l.length) (Nat.le_refl _) (fun l y ih => ?_) l
  rw [firsts_snoc, List.length_append, List.length_singleton]
  by_cases h : y ∈ firsts l
  · rw [if_pos h]
    omega
  · rw [if_neg h, List.length_append, List.length_singleton]
    omega
theorem firsts_eq (l : List κ) : (firsts l).length = l.length ↔ l.Nodup := by
  refine snoc_ind (C := fun l => (firsts l).length = l.length ↔ l.Nodup) ⟨fun _ => List.nodup_nil, fun _ => rfl⟩ (fun l y ih => ?_) l
  have le := firsts_le l
  rw [firsts_snoc, List.length_append, List.length_singleton]
  by_cases h : y ∈ firsts l
  · rw [if_pos h]
    refine ⟨fun q => by omega, fun q => ?_⟩
    rw [List.nodup_append] at q
    exact absurd rfl (q.2.2 y ((mem_firsts l y).mp h) y (List.mem_singleton.mpr rfl))
  · rw [if_neg h, List.length_append, List.length_singleton, Nat.add_right_cancel_iff, ih, List.nodup_append]
    refine ⟨fun q => ⟨q, List.pairwise_singleton _ _, fun a ha b hb e => ?_⟩, fun q => q.1⟩
    rw [List.mem_singleton.mp hb] at e
    exact h ((mem_firsts l y).mpr (e ▸ ha))
end
section
variable {κ : Type} [DecidableEq κ] [BEq κ] [LawfulBEq κ] {prog : Program} {w : World} {knd : KeyKind prog w κ}
abbrev SetIs (knd : KeyKind prog w κ) (h : Heap) (a : Addr) (ks : List κ) : Prop := h.SetOf knd a (fun k => decide (k ∈ firsts ks)) (firsts ks).length
theorem setIs_snoc {h : Heap} {a : Addr} {ks : List κ} {x : κ} (S : h.SetOf knd a (fun k => decide (k ∈ firsts ks) || decide (k = x)) (if decide (x ∈ firsts ks) = true then (firsts ks).length else (firsts ks).length + 1)) : SetIs knd h a (ks ++ [x]) := by
  refine SetOf_congr S (fun k => ?_) ?_
  · rw [firsts_snoc]
    by_cases hx : x ∈ firsts ks
    · rw [if_pos hx]
      by_cases hk : k = x
      · rw [hk, decide_eq_true hx]; rfl
      · rw [decide_eq_false hk, Bool.or_false]
    · rw [if_neg hx, Bool.eq_iff_iff, Bool.or_eq_true, decide_eq_true_iff, decide_eq_true_iff, decide_eq_true_iff, List.mem_append, List.mem_singleton]
  · rw [firsts_snoc]
    by_cases hx : x ∈ firsts ks
    · rw [if_pos hx, if_pos (decide_eq_true hx)]
    · rw [if_neg hx, if_neg (fun q => hx (of_decide_eq_true q)), List.length_append]; rfl
theorem setIs_at {h h2 : Heap} {a : Addr} {ks : List κ} (S : SetIs knd h a ks) (k : ∀ o, h.get? a = some o → h2.get? a = some o) : SetIs knd h2 a ks := by
  obtain ⟨o, es, ep, t, ho, r⟩ := S
  exact ⟨o, es, ep, t, k o ho, r⟩
variable {A : Around} {R : Result → Shared → Prop} {I : Addr} {fp wr : List Addr} {G : Array GenState → Array GenState → Prop} {n : Nat} {Pv : Nat → Value → Prop} {St : Nat → Shared → Prop}
/-- the walk that puts all of them into the set -/
theorem upd_walk (W : WalksS prog w A.in1 I fp wr G n Pv St) (a : Addr) (out : a ∉ fp) (ks : List κ) (len : ks.length = n) (room : n + 1 < scanBound)
    (val : ∀ i v, Pv i v → ∃ k, ks[i]? = some k ∧ knd.is k v = true ∧ v.scannable = true) : ∀ (todo i : Nat) (s : Shared), i + todo = n → St i s → SetIs knd s.heap a (ks.take i) →
      (∀ z, Moved (a :: wr) G s z → SetIs knd z.heap a ks → R (.ok (.ret .none)) z) → codeAny (model prog w) A (.builtin "set.update.loop" ⟨[.ref a, .ref I], []⟩) R s := by
  have nwr : a ∉ wr := fun q => out (W.sub _ q)
  have wide : ∀ b ∈ wr, b ∈ a :: wr := fun b q => List.mem_cons_of_mem _ q
  intro todo
  induction todo with
  | zero =>
    intro i s e st S fin
    obtain rfl : i = n := e
    refine codeAny_builtin F.entry_set_update_loop ?_; rw [Around.under_plainId F.plain_set_update_loop _]
    show wpAny _ A.in1 (pyNext (.ref I) >>= _) _ _ _; refine wpAny_bind (W.done s _ _ st fun z mv => ?_)
    rw [← len, List.take_length] at S
    exact wpAny_pure (fin z (mv.mono wide) (setIs_at S fun o q => mv.heap a o nwr q))
  | succ todo ih =>
    intro i s e st S fin
    have lt : i < n := by omega
    refine codeAny_builtin F.entry_set_update_loop ?_; rw [Around.under_plainId F.plain_set_update_loop _]
    show wpAny _ A.in1 (pyNext (.ref I) >>= _) _ _ _; refine wpAny_bind (W.item i s _ _ lt st fun v z hv sz mv => ?_)
    obtain ⟨k, hk, isk, sck⟩ := val i v hv
    have S1 := setIs_at S fun o q => mv.heap a o nwr q
    show wpAny _ A.in1 (holding [v] (setAdd a v) >>= _) _ _ _; refine wpAny_bind (wpAny_holding ?_)
    unfold setAdd; refine wpAny_holding ?_; refine wpAny_bind (knd.pyHash isk ?_)
    have few : (firsts (ks.take i)).length + 1 < scanBound := by have := firsts_le (ks.take i); rw [List.length_take] at this; omega
    refine wpAny_setAddHashed_of (knd := knd) (s := { z with toks := z.toks + 1 }) isk sck S1 few fun h2 same S2 => ?_
    have S3 : SetIs knd h2 a (ks.take (i + 1)) := by
      rw [List.take_succ, hk]
      exact setIs_snoc S2
    refine wpAny_pure ⟨plainId_quiet F.plain_set_update_loop _, ih (i + 1) _ (by omega) (W.frame _ z _ _ sz (Nat.le_succ _) fun b q o eo => ?_) S3 fun y my S4 => ?_⟩
    · exact (same.2 b fun u : b = a => out (u ▸ q)).trans eo
    · exact fin y (Moved.trans W.gtrans ((mv.mono wide).then_heap (Nat.le_succ _) fun b o q eo => (same.2 b fun u : b = a => q (u ▸ List.mem_cons_self)).trans eo) my) S4
end
end L2.Vx
namespace L2.Vx
open PySem PySem.Spec PyProof.Rows
section
variable {κ : Type} [DecidableEq κ] [BEq κ] [LawfulBEq κ] {prog : Program} {w : World} {knd : KeyKind prog w κ} {A : Around} {E : Value → Shared → Prop} {s : Shared}
/-- the new set, empty as yet -/
abbrev void (led : Bool) : Obj := { cls := .type "set", dict := none, data := .set #[] 0 (.fresh 0 0 led) }
/-- set(xs), xs a list of keys of one kind -/
theorem set_of {l : Addr} {its : Array Value} (ks : List κ) {Q : Value → Shared → Prop} (hh : A.handled = none) (hl : s.heap.IsList l its) (sz : its.size = ks.length) (room : ks.length + 1 < scanBound)
    (val : ∀ (i : Nat) (v : Value), its[i]? = some v → ∃ k, ks[i]? = some k ∧ knd.is k v = true ∧ v.scannable = true)
    (fin : ∀ (h2 : Heap) (tk : Nat), SetIs knd h2 s.heap.objs.size ks → (∀ b o, b < s.heap.objs.size → s.heap.get? b = some o → h2.get? b = some o) → Q (.ref s.heap.objs.size) { s with heap := h2, toks := tk }) :
    wpAny (model prog w) A (call (.type "set") [.ref l]) Q E s := by
  obtain ⟨c, tl, hmro⟩ := PySem.F.called_set.mro; have made := PySem.F.called_set.made; have sub := PySem.F.called_set.sub
  refine wpAny_call (codeAny_of_tree ?_); show wpAny _ _ (callAny (.type "set") _) _ _ _
  refine wpAny_pure ⟨Code.quiet_builtin _ (by decide +kernel), codeAny_builtin PySem.F.entry_type_call ?_⟩; rw [Around.under_plain (weight_type_call_type "set" [.ref l] []) rfl]
  have n1 := PySem.F.called_set.notType; have n2 := PySem.F.called_set.canCreate; have n3 := PySem.F.typeCall_set_1 (.ref l)
  repeat (any_goals (first | assumption | wp_step))
  refine codeAny_mono (code_set_new_1 (.ref l) (E := E) (Q₁ := fun v z => ∃ led : Bool, v = .ref s.heap.objs.size ∧ z = { s with heap := s.heap.push (void led) }) fun led => ⟨led, rfl, rfl⟩) fun r z hr => ?_
  cases r with
  | error e => exact hr
  | ok f =>
    cases f with
    | ret v =>
      obtain ⟨led, rfl, rfl⟩ := hr
      have at0 : (s.heap.push (void led)).get? s.heap.objs.size = some (void led) := Heap.get?_push_size _ rfl
      have ty : Shared.TypeIs { s with heap := s.heap.push (void led) } (.ref s.heap.objs.size) "set" := ⟨_, at0, rfl⟩
      have il := PySem.F.called_set.init.lookup; have ib := PySem.F.called_set.init.bind (.ref s.heap.objs.size)
      repeat (any_goals (first | assumption | wp_step))
      refine codeAny_mono (codeAny_call_builtin (R := wants (fun r y => r = .none ∧ ∃ h2 tk, y = { s with heap := h2, toks := tk } ∧ SetIs knd h2 s.heap.objs.size ks ∧ (∀ b o, b < s.heap.objs.size → s.heap.get? b = some o → h2.get? b = some o)) E)
        PySem.F.called_set.init.plain PySem.F.entry_set_init (check_set_init_1 ty ?_)) fun r y hy => ?_
      · have lt : l < s.heap.objs.size := by
          obtain ⟨o, ho, _⟩ := hl
          exact Heap.lt_size ho
        have l1 : (s.heap.push (void led)).IsList l its := hl.push _
        obtain ⟨o, ho, oc, m, od⟩ := hl
        obtain ⟨oc', odi, oda, osl⟩ := o
        simp only at oc od; subst oc; subst od
        have ho1 : (s.heap.push (void led)).get? l = some { cls := .type "list", dict := odi, data := .seq its m, slots := osl } := Heap.get?_push_of_some _ ho
        have u1 := PySem.F.sub_list_set; have u2 := PySem.F.sub_list_frozenset; have u3 : (Value.type "list" == Value.type "dict") = false := by decide
        unfold Builtin.«set.__init__» noKeywords Builtin.Frozenset.updateFrom; generalize hp : pyIter = PI
        wp_walk
        subst hp
        refine wpAny_pyIter_list l1 ?_; refine wpAny_bind (wpAny_runValue ?_)
        have h3 : A.in1.in1.in1.handled = none := by simp [hh]
        have big : (s.heap.push (void led)).objs.size = s.heap.objs.size + 1 := Heap.size_push ..
        have ne : l ≠ (s.heap.push (void led)).objs.size := by rw [big]; exact Nat.ne_of_lt (Nat.lt_succ_of_lt lt)
        have out : s.heap.objs.size ∉ [(s.heap.push (void led)).objs.size, l] := by
          rw [big]; intro q; rcases List.mem_cons.mp q with q | q
          · exact Nat.ne_of_lt (Nat.lt_succ_self _) q
          · exact Nat.ne_of_gt lt (List.mem_singleton.mp q)
        refine upd_walk (knd := knd) ((Walks.list h3 _ l ne its).toS) s.heap.objs.size out ks sz.symm (by rw [sz]; exact room) val its.size 0 _ (Nat.zero_add _) ⟨⟨_, Heap.get?_push_size _ rfl, rfl, rfl⟩, (l1.push _)⟩ ?S0 ?done
        case S0 =>
          have g : ((s.heap.push (void led)).push { cls := .type "list_iterator", data := .fields #[.ref l, .int 0 0] }).get? s.heap.objs.size = some (void led) := Heap.get?_push_of_some _ at0
          exact SetOf_congr ((setObjOf_fresh (knd := knd) led).setOf g (by unfold scanBound; omega)) (fun _ => rfl) rfl
        case done =>
          intro z mv S
          obtain ⟨h2, g2, d2, t2, o2⟩ := z
          obtain rfl : g2 = s.gens := mv.gens
          obtain rfl : d2 = s.drawn := mv.drawn
          obtain rfl : o2 = s.os := mv.os
          show wpAny _ _ _ _ _ _; refine wpAny_pure ?_; show wpAny _ _ (ret Value.none) _ _ _
          refine wpAny_pure ⟨rfl, h2, t2, rfl, S, fun b o hb e => mv.heap b o (fun q => ?_) (Heap.get?_push_of_some _ (Heap.get?_push_of_some _ e))⟩
          rcases List.mem_cons.mp q with q | q
          · exact Nat.ne_of_lt hb q
          · have := List.mem_singleton.mp q
            rw [big] at this; exact Nat.ne_of_lt (Nat.lt_succ_of_lt hb) this
      · cases r with
        | error e => exact hy
        | ok f =>
          cases f with
          | ret r =>
            obtain ⟨rfl, h2, tk, rfl, S, old⟩ := hy
            repeat (any_goals (first | assumption | wp_step))
            exact fin _ _ S old
          | _ => exact hy.elim
    | _ => exact hr.elim
end
end L2.Vx

set_option Elab.async false
set_option linter.all false
set_option maxRecDepth 100000
set_option maxHeartbeats 3200000
namespace L2.Vx
open PySem PySem.Spec PyProof.Rows
/-! ### sets of texts, on the hand layer -/
/-- the set of these texts at a -/
def SetL (P : Program) (w : World) (a : Addr) (xs : List Str) : HO := .ext fun h => SetIs (PySem.strKind P w) h a xs
section
variable {X : Cx}
theorem setL_new {P : Program} {w : World} {H : Hp} {h : Heap} {a : Addr} {xs : List Str} (S : SetIs (PySem.strKind P w) h a xs) : ObjOk P w H h a (SetL P w a xs) := by
  have ⟨o, _, _, _, ho, _⟩ := S
  exact ⟨S, ⟨o, ho⟩, fun _ _ p k => setIs_at p k⟩
theorem str_at : ∀ {xs : List Str} {us : List Value}, Vals (xs.map V.str) us → ∀ (i : Nat) (v : Value), us[i]? = some v → ∃ x t, xs[i]? = some x ∧ v = .str x t
  | [], _, .nil, i, v, h => by simp at h
  | x :: xs, _, .cons r t, 0, v, h => by
    obtain ⟨k, rfl⟩ := r
    simp at h
    exact ⟨x, k, rfl, h.symm⟩
  | x :: xs, _, .cons r t, i + 1, v, h => by
    simp only [List.getElem?_cons_succ] at h ⊢
    exact str_at t i v h
def rSetS (K : PySem.W.Frag) (P : Program) (w : World) : List V → Hp → VK → Prop := fun vs H Q => ∃ (l : Addr) (xs : List Str), vs = [.ref l] ∧ SqL K H l (xs.map V.str) ∧ xs.length + 1 < scanBound ∧ ∀ p, H p = none → Q (.ref p) (upd H p (SetL P w p xs))
theorem cr_setS (hc : X.calm = true) : CallR X (.type "set") (rSetS X.K X.prog X.w) := by
  intro pins s σ H vs us Q I r h
  obtain ⟨l, xs, rfl, hq, room, q⟩ := h
  cases r with
  | cons ry rt =>
    cases rt
    cases ry
    obtain ⟨its, rv, pl, hz⟩ := I.list hq
    refine set_of (knd := PySem.strKind X.prog X.w) xs (I.ok.hd hc) pl.isList (by rw [List.size_toArray, ← rv.length, List.length_map]) room (fun i v hv => ?_) fun h2 tk S old => ?_
    · obtain ⟨x, t, hx, rfl⟩ := str_at rv i v (by simpa using hv)
      exact ⟨x, hx, strKind_is _ _ _ _, rfl⟩
    · exact ⟨.ref _, upd H s.heap.objs.size (SetL X.prog X.w s.heap.objs.size xs), I.laid (t' := tk) (fun b u e => old b u (Heap.lt_size e) e) (Nat.le_refl _) (setL_new S), rfl, q _ (I.hok.fresh (Nat.le_refl _))⟩
/-- len(found) -/
def rLenS (P : Program) (w : World) : List V → Hp → VK → Prop := fun vs H Q => ∃ (a : Addr) (xs : List Str), vs = [.ref a] ∧ H a = some (SetL P w a xs) ∧ xs.length < scanBound ∧ Q (.int ((firsts xs).length : Nat)) H
theorem call_lenS : CallR X (.builtin "len") (rLenS X.prog X.w) := by
  intro pins s σ H vs us Q I r h
  obtain ⟨a, xs, rfl, ha, room, q⟩ := h
  cases r with
  | cons ry rt =>
    cases rt
    cases ry
    obtain ⟨o, es, ep, t, ho, hex, hd, _, _, _, hf, hn⟩ : SetIs (PySem.strKind X.prog X.w) s.heap a xs := (I.hok a _ ha).1
    have le := firsts_le xs
    refine call_len_set ho hex hd hf (by rw [hn]; unfold scanBound at room; omega) ⟨.int ((firsts xs).length : Nat), H, I.tok _, ⟨_, by rw [hn]⟩, q⟩
end
end L2.Vx

set_option Elab.async false
set_option linter.all false
set_option maxRecDepth 100000
set_option maxHeartbeats 3200000
namespace L2.Vx
open PySem PySem.Spec PyProof.Rows
open SlX (run_at cmpback)
/-! ### o != x by an own __eq__ -/
section
open PySem.W
variable {prog : Program} {w : World} {A A₀ : Around} {E : Value → Shared → Prop} {s : Shared} {K : Frag} {x C L f : Addr} {h₀ : Heap} {m : Str → Option Value} {ox : Obj} {od : Option Obj} {name : Str} {b tb : Value}
theorem objNe_K (X : K.In s.heap) (I : InstAt s.heap x ox C od) (hs : findIn K (.ref C) "__eq__" = some (some (.ref f))) (hf : isFn K (.ref f) = true) (hu : A.units < cLine) {Q : Fin → Shared → Prop}
    (hcall : wpAny (model prog w) A (call (.ref f) [.ref x, b]) (fun v s' => ∃ c, v = .bool c ∧ Q (.done (.ret (.bool (!c)))) s') E s) :
    wpAny (model prog w) A (Builtin.«object.__ne__» ⟨[.ref x, b], []⟩) Q E s := by
  unfold Builtin.«object.__ne__»
  repeat (first
    | with_reducible refine wpAny_cRoomFor hu ?_
    | (refine wpAny_bind (m := callSpecialIfBound? (.ref x) (Str.ofString "__eq__") [b])
        (ifBound_K X I hs hf (wpAny_mono hcall (fun r s' hr => by
          obtain ⟨c, rfl, hq⟩ := hr
          repeat (first | exact hq | exact wpAny_pure hq | exact wpAny_truthy_bool hq | (refine wpAny_bind (m := truthy (.bool _)) (wpAny_truthy_bool ?_)) | wp_step)) fun _ _ e => e)))
    | wp_step)
theorem ne_K {Q : Value → Shared → Prop} (hu : A.units + 1 < cLine) (F : Fr h₀ L s.heap m) (X₀ : K.In h₀) (I : InstAt s.heap x ox C od) (hb : Looks (model prog w) s.heap (typeOf b) tb) (hn : notFirst K C tb = true)
    (hm : mroIn K C (.type "object") = some true) (hN : findIn K (.ref C) "__ne__" = some (some (.builtin "object.__ne__"))) (hs : findIn K (.ref C) "__eq__" = some (some (.ref f))) (hf : isFn K (.ref f) = true)
    (h : wpAny (model prog w) A.in1 (call (.ref f) [.ref x, b]) (fun v s' => ∃ c, v = .bool c ∧ Q (.bool (!c)) s') E s) : wpAny (model prog w) A (richCompare .NotEq (.ref x) b) Q E s := by
  have X := X₀.keeps F.keep
  have one : wpAny (model prog w) A (tryCompare (.ref x) (cmpInfo .NotEq).2.1 b) (fun r s' => ∃ v, r = some v ∧ Q v s') E s := by
    unfold tryCompare
    have step : wpAny (model prog w) A (callSpecialIfBound? (.ref x) "__ne__" [b]) (fun r s' => ∃ c : Bool, r = some (.bool c) ∧ Q (.bool c) s') E s := by
      simp only [callSpecialIfBound?, bindSpecialIfBound?]
      refine wpAny_holding (wpAny_bind (wpAny_bind (wpAny_bind (I.type.here ((looks_findIn X hN).here ?_)))))
      refine wpAny_bind (wpAny_askSetting (wpAny_ite ?_))
      have fin : wpAny (model prog w) A (call (.builtin "object.__ne__") ([.ref x] ++ [b]) >>= fun v => pure (some v)) (fun r s' => ∃ c : Bool, r = some (.bool c) ∧ Q (.bool c) s') E s := by
        refine wpAny_bind (wpAny_mono (wpAny_call (codeAny_call_builtin PySem.F.cmp_object.ne.plain PySem.F.cmpEntry_ne (check_slot PySem.F.cmpKind_ne PySem.F.cmpSplit_ne (I.type.andThen (looks_mroIn X hm)) (PySem.F.cmpArgs_ne _ _)
          (objNe_K (A := A.in1) X I hs hf hu (wpAny_mono h (fun v s' hv => ?_) fun _ _ e => e))))) (fun v s' h' => wpAny_pure h') fun _ _ h' => h')
        obtain ⟨c, rfl, hq⟩ := hv
        exact ⟨c, rfl, _, rfl, hq⟩
      simp only [PySem.F.cmp_object.ne.bind]
      split
      · exact wpAny_bind (wpAny_pure (wpAny_pure fin))
      · exact wpAny_tryCatch (wpAny_bind (wpAny_pure (wpAny_pure fin)))
    refine wpAny_bind (wpAny_mono step (fun r s' hr => ?_) fun _ _ e => e)
    obtain ⟨c, rfl, hq⟩ := hr
    exact wpAny_pure ⟨_, rfl, hq⟩
  unfold richCompare
  simp only [oneThing_ref]
  refine wpAny_holding (wpAny_bind (wpAny_cRoomFor (Nat.lt_of_succ_lt hu) ?_))
  refine wpAny_bind (I.type.here (wpAny_bind (hb.here ?_)))
  split
  · rename_i q
    have e : subIn K tb (.ref C) = some false := by
      rcases Bool.or_eq_true_iff.mp hn with e | e
      · rw [beq_iff_eq.mp e] at q; simp at q
      · exact beq_iff_eq.mp e
    refine wpAny_bind ((looks_subIn X e).here ?_)
    simp only [Bool.false_eq_true, if_false]
    refine wpAny_bind (wpAny_mono one (fun r s' z => ?_) fun _ _ e => e)
    obtain ⟨v, rfl, hq⟩ := z
    exact wpAny_pure hq
  · refine wpAny_bind (wpAny_pure ?_)
    simp only [Bool.false_eq_true, if_false]
    refine wpAny_bind (wpAny_mono one (fun r s' z => ?_) fun _ _ e => e)
    obtain ⟨v, rfl, hq⟩ := z
    exact wpAny_pure hq
end
section
variable {X : Cx} {CX : CXT} {C g : Addr} {n : Nat} {sp : Sp} {E : XK}
/-- what stands right of == and !=: any value of a known type, not of a class below C -/
def RightX (K : PySem.W.Frag) (C : Addr) (H : Hp) (y : V) : Prop := ∃ t, TyX K H y t ∧ PySem.W.notFirst K C t = true
def rEqOwnX (K : PySem.W.Frag) (C : Addr) (sp : Sp) (E : XK) : R2 := fun x y H Q => ∃ a dx fs, x = .ref a ∧ H a = some (.ins C dx fs) ∧ RightX K C H y ∧ sp [x, y] H Q E
theorem op_eqOwnX (hs : PySem.W.findIn X.K (.ref C) (cmpInfo .Eq).2.1 = some (some (.ref g))) (hf : PySem.W.isFn X.K (.ref g) = true) (F : FnR X.prog X.w X.K X.mg X.base CX n g sp)
    (hr : Room n X.A) (hx : Passes CX X E) : OpR X (compareOp .Eq) (rEqOwnX X.K C sp E) := by
  intro pins s σ H x y v u Q I rx ry h
  obtain ⟨a, dx, fs, rfl, ha, ⟨t, hy, hn⟩, q⟩ := h
  cases (show v = Value.ref a from rx)
  obtain ⟨od, J⟩ := ins_at I ha
  obtain ⟨m, hF⟩ := I.fr
  obtain ⟨Pk, Z, p, _⟩ := kit_of I ry hy
  have ht : PySem.W.Looks (model X.prog X.w) s.heap (typeOf u) t := Z.ty _ _ I.kIn p
  show wpAny _ _ (richCompare .Eq (.ref a) u) _ _ _
  refine PySem.W.cmp_K (op := .Eq) (tb := t) hr.units0 hF I.ok.mod.kin J ht hn hs hf ?_
  refine wpAny_mono (wpAny_call (run_fnR (us := [.ref a, u]) (vs := [.ref a, y]) F hr hx I (.cons rfl (.cons ry .nil)) q)) (fun w s' z => ?_) fun _ _ x => x
  obtain ⟨z', H', I', rz, qz⟩ := z
  exact cmpback rz ⟨z', H', I', rz, qz⟩
def rNeOwnX (K : PySem.W.Frag) (C : Addr) (sp : Sp) (E : XK) : R2 := fun x y H Q => ∃ a dx fs, x = .ref a ∧ H a = some (.ins C dx fs) ∧ RightX K C H y ∧ sp [x, y] H (fun r H' => ∃ b, r = .bl b ∧ Q (.bl (!b)) H') E
theorem op_neOwnX (hm : PySem.W.mroIn X.K C (.type "object") = some true) (hN : PySem.W.findIn X.K (.ref C) "__ne__" = some (some (.builtin "object.__ne__"))) (hs : PySem.W.findIn X.K (.ref C) "__eq__" = some (some (.ref g))) (hf : PySem.W.isFn X.K (.ref g) = true) (F : FnR X.prog X.w X.K X.mg X.base CX n g sp)
    (hr : Room (n + 1) X.A) (hx : Passes CX X E) : OpR X (compareOp .NotEq) (rNeOwnX X.K C sp E) := by
  intro pins s σ H x y v u Q I rx ry h
  obtain ⟨a, dx, fs, rfl, ha, ⟨t, hy, hn⟩, q⟩ := h
  cases (show v = Value.ref a from rx)
  obtain ⟨od, J⟩ := ins_at I ha
  obtain ⟨m, hF⟩ := I.fr
  obtain ⟨Pk, Z, p, _⟩ := kit_of I ry hy
  have ht : PySem.W.Looks (model X.prog X.w) s.heap (typeOf u) t := Z.ty _ _ I.kIn p
  show wpAny _ _ (richCompare .NotEq (.ref a) u) _ _ _
  refine ne_K (tb := t) (by have := hr.units; omega) hF I.ok.mod.kin J ht hn hm hN hs hf ?_
  refine wpAny_mono (wpAny_call (run_at (us := [.ref a, u]) (ws := [.ref a, y]) F (Room.in1 hr) I.env0.in1 hx I (.cons rfl (.cons ry .nil)) q)) (fun w s' z => ?_) fun _ _ x => x
  obtain ⟨z', H', I', rz, b, eb, qz⟩ := z
  subst eb
  cases (show w = Value.bool b from rz)
  exact ⟨b, rfl, .bl (!b), H', I', rfl, qz⟩
end
end L2.Vx

set_option Elab.async false
set_option linter.all false
set_option maxRecDepth 100000
set_option maxHeartbeats 0
namespace L2.K40
open PySem PySem.Spec PyProof.Rows L2.Vx
open PySem.W (Frag)
def top (i : Nat) : Stmt := PySem.Challenge.pw_wobblesnap_k40_bays_as_told.main.body.getD i (.Pass ⟨0, 0, 0, 0⟩)
abbrev sDErr : Stmt := inClass (top 1) 0
abbrev sBInit : Stmt := inClass (top 34) 0
abbrev sBEq : Stmt := inClass (top 34) 1
abbrev sPot : Stmt := top 36
abbrev sTake : Stmt := top 37
abbrev sOf : Stmt := top 38
abbrev sSome : Stmt := top 39
abbrev sCells : Stmt := top 40
abbrev sOdd : Stmt := top 41
abbrev sNames : Stmt := top 42
abbrev sLine : Stmt := top 43
abbrev sPNames : Stmt := top 44
abbrev sBAim : Stmt := top 45
abbrev sBay : Stmt := top 46
abbrev sBText : Stmt := top 47
abbrev sRight : Stmt := top 48
abbrev sLaw : Stmt := top 49
abbrev sIsName : Stmt := top 8
abbrev sCons : Stmt := top 9
abbrev sNum : Stmt := top 10
abbrev sSgn : Stmt := top 11
abbrev sHand : Stmt := top 16
abbrev sWall : Stmt := top 17
abbrev sPoint : Stmt := top 18
abbrev sAim : Stmt := top 19
abbrev sCross : Stmt := top 20
abbrev sBound : Stmt := top 21
abbrev sRBay : Stmt := top 27
abbrev sRStarts : Stmt := top 28
abbrev sStart : Stmt := top 29
abbrev sRest : Stmt := top 30
abbrev sOwn : Stmt := top 31
abbrev sGoes : Stmt := top 32
end L2.K40

set_option Elab.async false
set_option linter.all false
set_option maxRecDepth 100000
set_option maxHeartbeats 4000000
namespace L2.K40
open PySem PySem.Spec PyProof.Rows L2.Vx
open PySem.W (Frag)
/-! ### heaps in which one list may change -/
/-- all but what stands at p is as it was -/
def But (p : Addr) (H H' : Hp) : Prop := ∀ b o, b ≠ p → H b = some o → H' b = some o
theorem But.refl (p : Addr) (H : Hp) : But p H H := fun _ _ _ e => e
theorem But.trans {p : Addr} {H H1 H2 : Hp} (a : But p H H1) (b : But p H1 H2) : But p H H2 := fun c o n e => b c o n (a c o n e)
theorem But.of {p : Addr} {H H' : Hp} (s : Same H H') : But p H H' := fun b o _ e => s b o e
theorem But.upd {p : Addr} {H : Hp} {o : HO} : But p H (upd H p o) := fun b u n e => by
  rw [upd_ne n]
  exact e
theorem But.seq {p a : Addr} {K : Frag} {H H' : Hp} {xs : List V} (k : But p H H') (n : a ≠ p) (h : SqL K H a xs) : SqL K H' a xs := by
  rcases h with (h | ⟨o, h⟩) | h
  · exact .inl (.inl (k _ _ n h))
  · exact .inl (.inr ⟨o, k _ _ n h⟩)
  · exact .inr h
theorem But.tup {p a : Addr} {K : Frag} {H H' : Hp} {xs : List V} (k : But p H H') (n : a ≠ p) (h : SqT K H a xs) : SqT K H' a xs := by
  rcases h with (h | ⟨o, h⟩) | h
  · exact .inl (.inl (k _ _ n h))
  · exact .inl (.inr ⟨o, k _ _ n h⟩)
  · exact .inr h
theorem But.free {p b : Addr} {H H' : Hp} {o : HO} (k : But p H H') (h : H' b = none) (hp : H' p = some o) : H b = none := by
  cases e : H b with
  | none => rfl
  | some u =>
    have n : b ≠ p := fun z => by rw [z, hp] at h; cases h
    rw [k b u n e] at h
    cases h
/-- a pot of draws, of which not more than k mixed numbers have come -/
def Pot (H : Hp) (p : Addr) (k : Int) : Prop := ∃ own b c : Int, H p = some (.lst [.int own, .int b, .int c]) ∧ 0 ≤ own ∧ 0 ≤ b ∧ b < 2305843009213693921 ∧ 0 ≤ c ∧ c ≤ k
theorem Pot.same {H H' : Hp} {p : Addr} {k : Int} (h : Pot H p k) (s : Same H H') : Pot H' p k := by
  obtain ⟨o, b, c, e, r⟩ := h
  exact ⟨o, b, c, s _ _ e, r⟩
theorem Pot.mono {H : Hp} {p : Addr} {k j : Int} (h : Pot H p k) (l : k ≤ j) : Pot H p j := by
  obtain ⟨o, b, c, e, r1, r2, r3, r4, r5⟩ := h
  exact ⟨o, b, c, e, r1, r2, r3, r4, by omega⟩
theorem Pot.ne {H : Hp} {p a : Addr} {k : Int} (h : Pot H p k) (e : H a = none) : a ≠ p := by
  obtain ⟨o, b, c, e', _⟩ := h
  exact fun z => by rw [z, e'] at e; cases e
theorem Pot.some {H : Hp} {p : Addr} {k : Int} (h : Pot H p k) : ∃ o, H p = some o := by
  obtain ⟨o, b, c, e', _⟩ := h
  exact ⟨_, e'⟩
theorem op_powW {X : Cx} : OpR X (binaryOp .Pow) (rI (fun i j => 0 ≤ j ∧ (Builtin.Int.intBits i : Int) * j ≤ 2 ^ 27) fun i j => .int (i ^ j.toNat)) :=
  opI fun _ _ _ _ _ _ _ hc q => pow_int hc.1 hc.2 q
/-- the built-in names that the draws call -/
structure Dx (mg : Str → Option Value) : Prop where
  len : mg "len" = none
  abs : mg "abs" = none
  int : mg "int" = none
  max : mg "max" = none
  min : mg "min" = none
  range : mg "range" = none
  list : mg "list" = none
abbrev FD (K : Frag) (x : Str) (st : Stmt) (f : Addr) (fd : FuncData) : Prop := Fun K x x st f fd
def spPot (K : Frag) : Sp := fun vs H Q _ => ∃ (a : Addr) (ns : List Int) (i : Int), vs = [.ref a, .int i] ∧ SqL K H a (ns.map V.int) ∧ ns.length ≤ 63 ∧ 0 ≤ i ∧ i ≤ 63 ∧
  ∀ H' p, Same H H' → H p = none → Pot H' p 0 → Q (.ref p) H'
def spTake : Sp := fun vs H Q _ => ∃ (p : Addr) (n k : Int), vs = [.ref p, .int n] ∧ 0 < n ∧ n ≤ 1000000 ∧ k < 1000000 ∧ Pot H p k ∧
  ∀ H' i, But p H H' → Pot H' p (k + 1) → 0 ≤ i → i < n → Q (.int i) H'
def spOf (K : Frag) : Sp := fun vs H Q _ => ∃ (p l : Addr) (xs : List V) (k : Int), vs = [.ref p, .ref l] ∧ l ≠ p ∧ SqL K H l xs ∧ 0 < xs.length ∧ xs.length ≤ 1000 ∧ k < 1000000 ∧ Pot H p k ∧
  ∀ H' v, But p H H' → Pot H' p (k + 1) → v ∈ xs → Q v H'
theorem pow_pos1 : (0 : Int) < (10 ^ Int.toNat 60) ^ Int.toNat 5 := by decide +kernel
theorem bit_small (b : Bool) : -(2 ^ 64 : Int) < (if b = true then (1 : Int) else 0) ∧ (if b = true then (1 : Int) else 0) < 2 ^ 64 := by cases b <;> decide
theorem sq_small {c : Int} (h0 : 0 ≤ c) (h : c ≤ 1000000) : 100069 * c * c ≤ 100069000000000000 ∧ 0 ≤ 100069 * c * c := by
  have h1 : c * c ≤ 1000000 * 1000000 := Int.mul_le_mul h h h0 (by decide)
  have h2 : 0 ≤ c * c := Int.mul_nonneg h0 h0
  rw [Int.mul_assoc]
  omega
/-- the primes -/
abbrev primes : List V := [.int 2147483647, .int 2147483629, .int 2147483587, .int 2147483579, .int 2147483563]
theorem prime_at {i : Int} (h0 : 0 ≤ i) (h1 : i < 5) : ∃ q, atI primes i = some (.int q) ∧ 0 < q ∧ q < 2147483648 := by
  have h : i = 0 ∨ i = 1 ∨ i = 2 ∨ i = 3 ∨ i = 4 := by omega
  rcases h with rfl | rfl | rfl | rfl | rfl
  · exact ⟨_, rfl, by decide, by decide⟩
  · exact ⟨_, rfl, by decide, by decide⟩
  · exact ⟨_, rfl, by decide, by decide⟩
  · exact ⟨_, rfl, by decide, by decide⟩
  · exact ⟨_, rfl, by decide, by decide⟩
theorem own_nn (m : Int) (b : Bool) : 0 ≤ (if m < 0 then -m else m) % (10 ^ Int.toNat 60) ^ Int.toNat 5 * (if b = true then 1 else 0) :=
  Int.mul_nonneg (Int.emod_nonneg _ (Int.ne_of_gt pow_pos1)) (by split <;> decide)
section
variable {P : Program} {w : World} {K : Frag} {mg : Str → Option Value} {bs : Heap}
theorem scPot : FnScope ["script", "place", "cell", "own", "small"] ["script", "place"] (defScope sPot) := ⟨rfl, rfl, rfl, by decide +kernel, rfl, by decide +kernel, by decide +kernel⟩
theorem ok_pot {f : Addr} {fd : FuncData} (FP : FD K "_law_pot" sPot f fd) (F : Dx mg) : FnOk P w K mg bs CX0 1 f fd ["script", "place"] (spPot K) := by
  have sc := scPot
  refine FP.ok scPot (fun vs H Q E h => ?_) (fun cdv A outer s H vs Q E hr h => ?_)
  · obtain ⟨a, ns, i, rfl, _⟩ := h
    rfl
  · obtain ⟨a, ns, i, rfl, hS, hl, hi0, hi1, k⟩ := h
    obtain ⟨j, rfl⟩ : ∃ j : Nat, i = (j : Int) := ⟨i.toNat, by omega⟩
    refine ⟨_, pss_cons (ps_set (i := 2) sc.nd rfl (Or.inl rfl) (pe_ifExp (pt_cmpR op_lt (pv 1) (pe_callB call_len_seq (by rfl) F.len boot_len (pa_cons (pv 0) pa_nil)) (nomark _))
          (pe_ix ix_list (pv 0) (pv 1) (fun _ _ => rfl)) (pe_op op_add (pe_op op_mul pe_int (pv 1)) pe_int)))
      (pss_cons (ps_set (i := 3) sc.nd rfl (Or.inl rfl) (pe_op op_mul (pe_op op_mod (pe_callTy call_int1 (by rfl) F.int boot_int (pa_cons (pe_callB call_abs (by rfl) F.abs boot_abs (pa_cons (pv 2) pa_nil)) pa_nil))
            (pe_op op_powW (pe_op op_pow pe_int pe_int) pe_int))
          (pe_callTy call_int1 (by rfl) F.int boot_int (pa_cons (pe_cmpR op_ge (pe_callB call_abs (by rfl) F.abs boot_abs (pa_cons (pv 2) pa_nil)) (pe_op op_pow pe_int pe_int) (nomark _)) pa_nil))))
      (pss_cons (ps_set (i := 4) sc.nd rfl (Or.inl rfl) (pe_op op_mod (pe_callTy call_int1 (by rfl) F.int boot_int (pa_cons (pv 2) pa_nil)) pe_int))
      (pss_one (ps_ret (pe_lst (pa_cons (pv 3) (pa_cons (pe_op op_mod (pe_callTy call_int1 (by rfl) F.int boot_int (pa_cons
          (pe_op op_add (pe_op op_add (pe_op op_mul (pv 4) pe_int) (pe_op op_mul (pe_op op_mul pe_int (pv 1)) (pv 1))) pe_int) pa_nil)) pe_int) (pa_cons pe_int pa_nil)))))))), ?_⟩
    refine rd_seq (rd_set ?_)
    refine ⟨_, rfl, _, rfl, a, _, rfl, .inl hS, _, _, rfl, rfl, _, rfl, ?_⟩
    by_cases c : ((j : Nat) : Int) < ((ns.map V.int).length : Int)
    case' pos =>
      have hlt : j < ns.length := by
        rw [List.length_map] at c
        omega
      refine Eq.mpr (if_pos (decide_eq_true c)) ?_
      refine ⟨_, rfl, _, rfl, a, _, (j : Int), .int ns[j], rfl, rfl, hS, atI_nat (by rw [List.getElem?_map, List.getElem?_eq_getElem hlt]; rfl), ?_⟩
      generalize ns[j] = m
    case' neg =>
      refine Eq.mpr (if_neg (by rw [decide_eq_false c]; exact Bool.false_ne_true)) ?_
      refine ⟨_, rfl, _, _, rfl, rfl, .inl ⟨by decide, by decide⟩, _, _, rfl, rfl, ?_⟩
      generalize 41 * ((j : Nat) : Int) + 23 = m
    all_goals
      dsimp only
      refine rd_seq (rd_set ?_)
      refine ⟨_, rfl, _, rfl, .inl ⟨_, rfl, _, _, rfl, rfl, ⟨by decide, by decide, by decide⟩, _, _, rfl, rfl, ⟨by decide, by decide +kernel⟩, _, _, rfl, rfl, (by exact pow_pos1), _, rfl, _, rfl, _, _, rfl, rfl, ⟨by decide, by decide, by decide⟩, _, _, rfl, rfl,
        .inr ⟨_, rfl, _, _, rfl, rfl, .inr (bit_small _), ?_⟩⟩⟩
      dsimp only
      refine rd_seq (rd_set ?_)
      refine ⟨_, rfl, .inl ⟨_, rfl, _, _, rfl, rfl, (by exact (by decide : (0 : Int) < 2305843009213693951)), ?_⟩⟩
      refine ⟨_, rfl, _, rfl, _, _, rfl, rfl, .inr ⟨by decide, by decide⟩, _, rfl, _, _, rfl, rfl, .inl ⟨by decide, by decide⟩, _, rfl, _, _, rfl, rfl, .inr ⟨by omega, by omega⟩, _, _, rfl, rfl, _, _, rfl, rfl,
        .inl ⟨_, rfl, _, _, rfl, rfl, (by exact (by decide : (0 : Int) < 2305843009213693921)), (by exact (by decide : 3 ≤ sizeLine)), fun p hp => ?_⟩⟩
      refine k _ p (same_new hp) hp ⟨_, _, _, upd_same, own_nn _ _, Int.emod_nonneg _ (by decide), Int.emod_lt_of_pos _ (by decide), Int.le_refl _, Int.le_refl _⟩
theorem scTake : FnScope ["pot", "upto", "digit", "prime", "mixed"] ["pot", "upto"] (defScope sTake) := ⟨rfl, rfl, rfl, by decide +kernel, rfl, by decide +kernel, by decide +kernel⟩
theorem ok_take {f : Addr} {fd : FuncData} (FP : FD K "_law_take" sTake f fd) (F : Dx mg) : FnOk P w K mg bs CX0 1 f fd ["pot", "upto"] spTake := by
  have sc := scTake
  refine FP.ok scTake (fun vs H Q E h => ?_) (fun cdv A outer s H vs Q E hr h => ?_)
  · obtain ⟨p, n, i, rfl, _⟩ := h
    rfl
  · obtain ⟨p, n, t, rfl, hn0, hn1, ht, ⟨own, b, c, hp, ho, hb0, hb1, hc0, hc1⟩, k⟩ := h
    refine ⟨_, pss_cons (ps_if (pt_cmpR op_gt (pe_ix ix_list (pv 0) pe_int (fun _ _ => rfl)) pe_int (nomark _))
        (pss_cons (ps_set (i := 2) sc.nd rfl (Or.inl rfl) (pe_op op_mod (pe_callTy call_int1 (by rfl) F.int boot_int (pa_cons (pe_ix ix_list (pv 0) pe_int (fun _ _ => rfl)) pa_nil)) (pv 1)))
        (pss_cons (ps_asg (pe_op op_fdiv (pe_ix ix_list (pv 0) pe_int (fun _ _ => rfl)) (pv 1)) (pg_sub (pv 0) pe_int set_list))
        (pss_one (ps_ret (pv 2))))) pss_nil)
      (pss_cons (ps_asg (pe_op op_add (pe_ix ix_list (pv 0) pe_int (fun _ _ => rfl)) pe_int) (pg_sub (pv 0) pe_int set_list))
      (pss_cons (ps_set (i := 3) sc.nd rfl (Or.inl rfl) (pe_ix ix_list (pe_lst (pa_cons pe_int (pa_cons pe_int (pa_cons pe_int (pa_cons pe_int (pa_cons pe_int pa_nil))))))
          (pe_op op_mod (pe_callTy call_int1 (by rfl) F.int boot_int (pa_cons (pe_ix ix_list (pv 0) pe_int (fun _ _ => rfl)) pa_nil)) pe_int) (fun _ _ => rfl)))
      (pss_cons (ps_set (i := 4) sc.nd rfl (Or.inl rfl) (pe_op op_mod (pe_callTy call_int1 (by rfl) F.int boot_int (pa_cons (pe_op op_pow (pe_callTy call_int1 (by rfl) F.int boot_int (pa_cons
          (pe_op op_add (pe_op op_add (pe_ix ix_list (pv 0) pe_int (fun _ _ => rfl)) (pe_op op_mul (pe_op op_mul pe_int (pe_ix ix_list (pv 0) pe_int (fun _ _ => rfl))) (pe_ix ix_list (pv 0) pe_int (fun _ _ => rfl)))) pe_int) pa_nil)) pe_int) pa_nil)) (pv 3)))
      (pss_cons (ps_set (i := 4) sc.nd rfl (Or.inl rfl) (pe_op op_mod (pe_callTy call_int1 (by rfl) F.int boot_int (pa_cons
          (pe_op op_mul (pv 4) (pe_op op_add (pe_op op_mod (pe_callTy call_int1 (by rfl) F.int boot_int (pa_cons (pv 4) pa_nil)) pe_int) (pe_op op_mul pe_int (pe_ix ix_list (pv 0) pe_int (fun _ _ => rfl))))) pa_nil)) pe_int))
      (pss_one (ps_ret (pe_op op_mod (pe_callTy call_int1 (by rfl) F.int boot_int (pa_cons (pe_op op_fdiv (pv 4) pe_int) pa_nil)) (pv 1)))))))), ?_⟩
    have hS : SqL K H p [.int own, .int b, .int c] := SqL.of hp
    refine rd_seq (rd_if ?_)
    refine ⟨_, rfl, p, _, 0, .int own, rfl, rfl, hS, rfl, _, _, rfl, rfl, _, rfl, ?_⟩
    by_cases q : 0 < own
    · refine Eq.mpr (if_pos (decide_eq_true q)) ?_
      refine rd_seq (rd_set ?_)
      refine ⟨_, rfl, p, _, 0, .int own, rfl, rfl, hS, rfl, .inl ⟨_, rfl, _, rfl, _, _, rfl, rfl, hn0, ?_⟩⟩
      dsimp only
      refine ⟨_, rfl, p, _, 0, .int own, rfl, rfl, hS, rfl, _, rfl, _, _, rfl, rfl, ⟨hn0, by omega⟩, _, rfl, p, _, 0, 0, rfl, rfl, hp, rfl, ?_⟩
      refine ⟨_, rfl, k _ _ But.upd ⟨own / n, b, c, upd_same, Int.ediv_nonneg ho (by omega), hb0, hb1, hc0, by omega⟩ (Int.emod_nonneg _ (by omega)) (Int.emod_lt_of_pos _ hn0)⟩
    · refine Eq.mpr (if_neg (by rw [decide_eq_false q]; exact Bool.false_ne_true)) ?_
      dsimp only
      refine ⟨_, rfl, p, _, 2, .int c, rfl, rfl, hS, rfl, _, _, rfl, rfl, _, rfl, p, _, 2, 2, rfl, rfl, hp, rfl, ?_⟩
      have hp1 : upd H p (.lst [.int own, .int b, .int (c + 1)]) p = some (.lst [.int own, .int b, .int (c + 1)]) := upd_same
      have k1 : But p H (upd H p (.lst [.int own, .int b, .int (c + 1)])) := But.upd
      dsimp only
      have eL : ([V.int own, V.int b, V.int c] : List V).set 2 (V.int (c + 1)) = [V.int own, V.int b, V.int (c + 1)] := rfl
      rw [eL]
      generalize upd H p (.lst [.int own, .int b, .int (c + 1)]) = H1 at hp1 k1 ⊢
      refine rd_seq (rd_set ?_)
      refine ⟨(by exact (by decide : 5 ≤ sizeLine)), fun l hl => ?_⟩
      have hp2 := same_new (o := .lst primes) hl _ _ hp1
      have k2 := k1.trans (But.of (same_new (o := .lst primes) hl))
      have hl2 : upd H1 l (.lst primes) l = some (.lst primes) := upd_same
      generalize upd H1 l (.lst primes) = H2 at hp2 k2 hl2 ⊢
      obtain ⟨q5, hq5, hq0, hq1⟩ := prime_at (Int.emod_nonneg (c + 1) (by decide : (5 : Int) ≠ 0)) (Int.emod_lt_of_pos (c + 1) (by decide : (0 : Int) < 5))
      have hS2 : SqL K H2 p [.int own, .int b, .int (c + 1)] := SqL.of hp2
      refine ⟨_, rfl, p, _, 2, .int (c + 1), rfl, rfl, hS2, rfl, .inl ⟨_, rfl, _, _, rfl, rfl, (by exact (by decide : (0 : Int) < 5)), l, _, _, _, rfl, rfl, SqL.of hl2, hq5, ?_⟩⟩
      dsimp only
      obtain ⟨sq1, sq2⟩ := sq_small (c := c + 1) (by omega) (by omega)
      refine rd_seq (rd_set ?_)
      refine ⟨_, rfl, p, _, 1, .int b, rfl, rfl, hS2, rfl, _, rfl, p, _, 2, .int (c + 1), rfl, rfl, hS2, rfl, _, _, rfl, rfl, .inl ⟨by decide, by decide⟩, _, rfl, p, _, 2, .int (c + 1), rfl, rfl, hS2, rfl, _, _, rfl, rfl, .inr ⟨by omega, by omega⟩, _, _, rfl, rfl, _, _, rfl, rfl,
        .inl ⟨_, rfl, _, _, rfl, rfl, ⟨by decide, by decide, ?cp⟩, .inl ⟨_, rfl, _, rfl, _, _, rfl, rfl, hq0, ?_⟩⟩⟩
      case cp =>
        generalize 100069 * (c + 1) * (c + 1) = S at sq1 sq2 ⊢
        omega
      generalize (b + 100069 * (c + 1) * (c + 1) + 37) ^ Int.toNat 3 = S
      have hm0 := Int.emod_nonneg S (Int.ne_of_gt hq0)
      have hm1 := Int.emod_lt_of_pos S hq0
      dsimp only
      generalize S % q5 = m at hm0 hm1 ⊢
      refine rd_seq (rd_set ?_)
      refine ⟨_, rfl, _, rfl, .inl ⟨_, rfl, _, _, rfl, rfl, (by exact (by decide : (0 : Int) < 10009)), _, rfl, p, _, 2, .int (c + 1), rfl, rfl, hS2, rfl, _, _, rfl, rfl, .inl ⟨by decide, by decide⟩, _, _, rfl, rfl, _, _, rfl, rfl, .inl ⟨by omega, by omega⟩,
        .inl ⟨_, rfl, _, _, rfl, rfl, (by exact (by decide : (0 : Int) < 2305843009213693907)), ?_⟩⟩⟩
      dsimp only
      refine ⟨_, rfl, _, _, rfl, rfl, ⟨by decide, by decide⟩, .inl ⟨_, rfl, _, rfl, _, _, rfl, rfl, hn0, ?_⟩⟩
      exact k _ _ k2 ⟨own, b, c + 1, hp2, ho, hb0, hb1, by omega, by omega⟩ (Int.emod_nonneg _ (by omega)) (Int.emod_lt_of_pos _ hn0)
theorem But.mut {p a : Addr} {H H' : Hp} {o : HO} (k : But p H H') (h : H a = none) : But p H (L2.upd H' a o) := fun b u n e => by
  rw [upd_ne (ne_of_none e h)]
  exact k b u n e
theorem perm_pop {α : Type} : ∀ (xs : List α) (k : Nat) (y : α), xs[k]? = some y → (y :: xs.eraseIdx k).Perm xs
  | [], _, _, e => by simp at e
  | x :: xs, 0, y, e => by
    simp at e
    subst e
    exact List.Perm.refl _
  | x :: xs, k + 1, y, e => by
    have ih := perm_pop xs k y (by simpa using e)
    exact (List.Perm.swap x y _).trans (ih.cons x)
theorem scOf : FnScope ["pot", "some"] ["pot", "some"] (defScope sOf) := ⟨rfl, rfl, rfl, by decide +kernel, rfl, by decide +kernel, by decide +kernel⟩
theorem ok_of {f fT : Addr} {fd fdT : FuncData} (FP : FD K "_law_of" sOf f fd) (F : Dx mg) (FT : FD K "_law_take" sTake fT fdT) (gT : mg "_law_take" = some (.ref fT)) (bT : Binds K fdT ["pot", "upto"] []) :
    FnOk P w K mg bs CX0 2 f fd ["pot", "some"] (spOf K) := by
  have sc := scOf
  have GT : FnOk P w K mg bs CX0 1 fT fdT ["pot", "upto"] spTake := ok_take FT F
  refine FP.ok scOf (fun vs H Q E h => ?_) (fun cdv A outer s H vs Q E hr h => ?_)
  · obtain ⟨p, l, xs, k, rfl, _⟩ := h
    rfl
  · obtain ⟨p, l, xs, t, rfl, hne, hS, h0, h1, ht, hP, k⟩ := h
    refine ⟨_, pss_one (ps_ret (pe_ix ix_list (pv 1) (pe_call GT hr (by rfl) gT FT.kp bT .nil pass0 (pa_cons (pv 0) (pa_cons (pe_callB call_len_seq (by rfl) F.len boot_len (pa_cons (pv 1) pa_nil)) pa_nil))) (fun _ _ => rfl))), ?_⟩
    refine ⟨_, rfl, _, rfl, _, rfl, l, xs, rfl, .inl hS, p, _, t, rfl, by omega, by omega, ht, hP, fun H' i k1 hP' i0 i1 => ?_⟩
    obtain ⟨j, rfl⟩ : ∃ j : Nat, i = (j : Int) := ⟨i.toNat, by omega⟩
    have hj : j < xs.length := by omega
    refine ⟨l, xs, _, xs[j], rfl, rfl, k1.seq hne hS, atI_nat (List.getElem?_eq_getElem hj), ?_⟩
    exact k _ _ k1 hP' (List.getElem_mem hj)
def spSome (K : Frag) : Sp := fun vs H Q _ => ∃ (p l : Addr) (xs : List V) (m : Nat) (k : Int), vs = [.ref p, .ref l, .int m] ∧ l ≠ p ∧ SqL K H l xs ∧ xs.length ≤ 1000 ∧ m ≤ xs.length ∧
  0 ≤ k ∧ k + m < 1000000 ∧ Pot H p k ∧ ∀ H' q ys rest, But p H H' → H q = none → H' q = some (.lst ys) → (ys ++ rest).Perm xs → ys.length = m → Pot H' p (k + m) → Q (.ref q) H'
theorem scSome : FnScope ["pot", "pool", "many", "left", "found", "lap"] ["pot", "pool", "many"] (defScope sSome) := ⟨rfl, rfl, rfl, by decide +kernel, rfl, by decide +kernel, by decide +kernel⟩
theorem ok_some {f fT : Addr} {fd fdT : FuncData} (FP : FD K "_law_some" sSome f fd) (F : Dx mg) (FT : FD K "_law_take" sTake fT fdT) (gT : mg "_law_take" = some (.ref fT)) (bT : Binds K fdT ["pot", "upto"] []) :
    FnOk P w K mg bs CX0 2 f fd ["pot", "pool", "many"] (spSome K) := by
  have sc := scSome
  have GT : FnOk P w K mg bs CX0 1 fT fdT ["pot", "upto"] spTake := ok_take FT F
  refine FP.ok scSome (fun vs H Q E h => ?_) (fun cdv A outer s H vs Q E hr h => ?_)
  · obtain ⟨p, l, xs, m, k, rfl, _⟩ := h
    rfl
  · obtain ⟨p, l, xs, m, t, rfl, hne, hS, h1, hm, ht0, ht, hP, k⟩ := h
    refine ⟨_, pss_cons (ps_par (i := 3) (j := 4) rfl sc.nd rfl rfl (by decide) rfl rfl (pa_cons (pe_callTy call_list_of (by rfl) F.list boot_list (pa_cons (pv 1) pa_nil)) (pa_cons (pe_lst pa_nil) pa_nil)) rfl)
      (pss_cons (ps_for PassesOwn.never rfl (pi_range1 (by rfl) F.range (pa_cons (pv 2) pa_nil)) (pg_name (i := 5) sc.nd rfl (Or.inl rfl))
        (pss_one (ps_expr (pe_bm PySem.F.plainAttrs_list PySem.F.slot_list_append PySem.F.type_list_append mt_append (pv 4) (pa_cons
          (pe_bm PySem.F.plainAttrs_list PySem.F.slot_list_pop PySem.F.type_list_pop mt_popAt (pv 3) (pa_cons
            (pe_call GT hr (by rfl) gT FT.kp bT .nil pass0 (pa_cons (pv 0) (pa_cons (pe_callB call_len_seq (by rfl) F.len boot_len (pa_cons (pv 3) pa_nil)) pa_nil))) pa_nil)) pa_nil)))))
      (pss_one (ps_ret (pv 4)))), ?_⟩
    refine rd_seq ?_
    refine ⟨_, rfl, l, xs, rfl, .inl hS, fun L hL => ⟨Nat.zero_le _, fun G hG => ⟨_, _, rfl, ?_⟩⟩⟩
    dsimp only
    have nLp : L ≠ p := hP.ne hL
    have sL := same_new (o := .lst xs) hL
    have sG := same_new (o := .lst []) hG
    have hG0 : H G = none := sL.free hG
    have nGp : G ≠ p := hP.ne hG0
    have fL := sG _ _ (upd_same (H := H) (a := L) (o := .lst xs))
    have fG : upd (upd H L (.lst xs)) G (.lst []) G = some (.lst []) := upd_same
    have nLG : L ≠ G := ne_of_none upd_same hG
    have hP1 := (hP.same sL).same sG
    have k1 : But p H (upd (upd H L (.lst xs)) G (.lst [])) := But.of (sL.trans sG)
    generalize upd (upd H L (.lst xs)) G (.lst []) = H1 at fL fG hP1 k1 ⊢
    refine rd_seq ?_
    refine ⟨_, rfl, (m : Int), rfl, by omega, by omega, for_range (lo := 0) (n := ((m : Nat) : Int).toNat) (fun i σ H' => ∃ (v : Option V) (ys rest : List V), σ = [some (.ref p), some (.ref l), some (.int m), some (.ref L), some (.ref G), v] ∧
      But p H H' ∧ H' L = some (.lst rest) ∧ H' G = some (.lst ys) ∧ (ys ++ rest).Perm xs ∧ ys.length = i ∧ Pot H' p (t + i)) ⟨none, [], xs, rfl, k1, fL, fG, List.Perm.refl _, rfl, hP1.mono (by omega)⟩ ?_ ?_⟩
    · rintro i σ H2 hi ⟨v, ys, rest, rfl, k2, eL, eG, pm, ly, hP2⟩
      have hi' : i < m := by omega
      have lr : rest.length = xs.length - i := by
        have := pm.length_eq
        rw [List.length_append] at this
        omega
      refine ⟨_, rfl, .inl ⟨rfl, _, SqL.of eG⟩, _, rfl, .inl ⟨rfl, _, SqL.of eL⟩, _, rfl, _, rfl, L, rest, rfl, .inl (SqL.of eL), p, _, t + i, rfl, by omega, by omega, by omega, hP2, fun H3 j k3 hP3 j0 j1 => ?_⟩
      have hj : j.toNat < rest.length := by omega
      have eL3 := k3 _ _ nLp eL
      have eG3 := k3 _ _ nGp eG
      refine ⟨L, rest, j, j.toNat, rest[j.toNat], rfl, rfl, eL3, by omega, by omega, seqIndex_of j0 (by omega), List.getElem?_eq_getElem hj, ?_⟩
      have eG4 : upd H3 L (.lst (rest.eraseIdx j.toNat)) G = some (.lst ys) := (upd_ne (Ne.symm nLG)).trans eG3
      refine ⟨G, ys, rest[j.toNat], rfl, rfl, eG4, Nat.lt_of_le_of_lt (show ys.length ≤ 1000 by omega) (by decide), ?_⟩
      refine ⟨_, ys ++ [rest[j.toNat]], rest.eraseIdx j.toNat, rfl, ((k2.trans k3).mut hL).mut hG0, (upd_ne nLG).trans upd_same, upd_same, ?_, by rw [List.length_append, List.length_singleton, ly], ?_⟩
      · refine List.Perm.trans ?_ pm
        rw [List.append_assoc, List.singleton_append]
        exact List.Perm.append_left ys (perm_pop rest j.toNat _ (List.getElem?_eq_getElem hj))
      · obtain ⟨o, b, c, e, r1, r2, r3, r4, r5⟩ := hP3
        exact ⟨o, b, c, (upd_ne (Ne.symm nGp)).trans ((upd_ne (Ne.symm nLp)).trans e), r1, r2, r3, r4, by omega⟩
    · rintro σ H2 ⟨v, ys, rest, rfl, k2, eL, eG, pm, ly, hP2⟩
      exact ⟨_, rfl, k _ _ _ _ k2 hG0 eG pm (by omega) (hP2.mono (by omega))⟩
def spCells (K : Frag) : Sp := fun vs H Q _ => ∃ (a : Addr) (ns : List Int) (m : Nat), vs = [.ref a, .int m] ∧ SqL K H a (ns.map V.int) ∧ ns.length ≤ 63 ∧ m ≤ 63 ∧
  ∀ H' q n, Same H H' → H q = none → n ≤ 63 → H' q = some (.lst ((List.range n).map fun i : Nat => V.int (i : Int))) → Q (.ref q) H'
theorem scCells : FnScope ["script", "most"] ["script", "most"] (defScope sCells) := ⟨rfl, rfl, rfl, by decide +kernel, rfl, by decide +kernel, by decide +kernel⟩
theorem ok_cells {f : Addr} {fd : FuncData} (FP : FD K "_law_cells" sCells f fd) (F : Dx mg) : FnOk P w K mg bs CX0 1 f fd ["script", "most"] (spCells K) := by
  have sc := scCells
  refine FP.ok scCells (fun vs H Q E h => ?_) (fun cdv A outer s H vs Q E hr h => ?_)
  · obtain ⟨a, ns, m, rfl, _⟩ := h
    rfl
  · obtain ⟨a, ns, m, rfl, hS, hl, hm, k⟩ := h
    refine ⟨_, pss_one (ps_ret (pe_listRg rfl (by rfl) F.list (prg_1 (by rfl) F.range (pe_callB (call_max2 rfl) (by rfl) F.max (by decide +kernel) (pa_cons pe_int (pa_cons
      (pe_callB (call_min2 rfl) (by rfl) F.min (by decide +kernel) (pa_cons (pv 1) (pa_cons (pe_callB call_len_seq (by rfl) F.len boot_len (pa_cons (pv 0) pa_nil)) pa_nil))) pa_nil)))))), ?_⟩
    refine ⟨_, rfl, _, rfl, a, _, rfl, .inl hS, _, _, rfl, _, _, rfl, _, rfl, ?_⟩
    have hx : ∀ u : Int, 0 ≤ u → u ≤ 63 → (0 : Int) ≤ u ∧ u ≤ 63 := fun u a b => ⟨a, b⟩
    generalize hu : (if (if (((ns.map V.int).length : Nat) : Int) < (m : Int) then (((ns.map V.int).length : Nat) : Int) else (m : Int)) > 1 then (if (((ns.map V.int).length : Nat) : Int) < (m : Int) then (((ns.map V.int).length : Nat) : Int) else (m : Int)) else 1) = u
    have hu2 : 0 ≤ u ∧ u ≤ 63 := by
      rw [List.length_map] at hu
      omega
    refine ⟨.of_le (by omega) (by omega) (by omega) (by omega), fun q hq => k _ q u.toNat (same_new hq) hq (by omega) ?_⟩
    rw [upd_same]
    unfold rgV
    rw [Int.sub_zero]
    simp only [Int.zero_add]
end
end L2.K40

set_option Elab.async false
set_option linter.all false
set_option maxRecDepth 100000
set_option maxHeartbeats 4000000
namespace L2.K40
open PySem PySem.Spec PyProof.Rows L2.Vx
open PySem.W (Frag)
/-! ### a value of any kind -/
def odd1 : List PyData := [.none, .bool true, .bool false, .int 0, .int 1, .int (-1), .int (10 ^ 8), .str "", .str "a", .str "x", .str "fine", .tuple [], .list [], .dict [], .tuple [.int 0], .tuple [.tuple []], .list [.int 0], .tuple [.int 0, .int 0]]
def odd2 : List PyData := [.tuple [.tuple [.int 0, .int 0]], .tuple [.str "a", .str "b"], .tuple [.str "same", .str "a", .str "b"], .tuple [.tuple [.int 0, .bool true]], .tuple [.str "fine"], .tuple [.tuple [.str "fine"]], .str "0", .str "a!"]
section
variable {P : Program} {w : World} {K : Frag} {mg : Str → Option Value} {bs : Heap}
/-- what is away from p -/
def awy (p : Addr) (H : Hp) : Hp := fun a => if a = p then none else H a
theorem awy_le {p : Addr} {H : Hp} : Same (awy p H) H := fun b o e => by
  unfold awy at e
  by_cases h : b = p
  · rw [if_pos h] at e; cases e
  · rw [if_neg h] at e; exact e
theorem awy_but {p : Addr} {H H' : Hp} (k : But p H H') : Same (awy p H) (awy p H') := fun b o e => by
  unfold awy at e ⊢
  by_cases h : b = p
  · rw [if_pos h] at e; cases e
  · rw [if_neg h] at e ⊢; exact k _ _ h e
theorem nw_awy {p : Addr} {H H' : Hp} {o : HO} (h : H p = some o) : Same (nw H H') (awy p H') := fun b u e => by
  have n : b ≠ p := fun z => by rw [z, nw_old h] at e; cases e
  unfold awy
  rw [if_neg n]
  exact nw_le _ _ e
def spOdd (K : Frag) : Sp := fun vs H Q _ => ∃ (p : Addr) (k : Int), vs = [.ref p] ∧ k < 1000000 ∧ Pot H p k ∧ ∀ H' v d, But p H H' → Pot H' p (k + 1) → d ∈ odd1 ++ odd2 → Dd K (awy p H') v d → Q v H'
theorem scOdd : FnScope ["pot", "some"] ["pot"] (defScope sOdd) := ⟨rfl, rfl, rfl, by decide +kernel, rfl, by decide +kernel, by decide +kernel⟩
theorem gd_neg1 : GD K (tUn (rU fun i => .int (-i)) (tC (.int 1))) (.int (-1)) := fun σ H Q q => ⟨1, rfl, q (.int (-1)) H (Same.refl H) (.int _)⟩
theorem gd_op {r : R2} {i j n : Int} (h : ∀ (H : Hp) (Q : VK), Q (.int n) H → r (.int i) (.int j) H Q) : GD K (tOp r (tC (.int i)) (tC (.int j))) (.int n) := fun σ H Q q => h H Q (q (.int n) H (Same.refl H) (.int _))
theorem ddAll_app {H : Hp} : ∀ {xs ys : List V} {ds es : List PyData}, DdAll K H xs ds → DdAll K H ys es → DdAll K H (xs ++ ys) (ds ++ es)
  | _, _, _, _, .nil, h => h
  | _, _, _, _, .cons a t, h => .cons a (ddAll_app t h)
theorem ddAll_mem {H : Hp} {v : V} : ∀ {xs : List V} {ds : List PyData}, DdAll K H xs ds → v ∈ xs → ∃ d, d ∈ ds ∧ Dd K H v d
  | _, _, .nil, h => by cases h
  | _, _, .cons a t, h => by
    rcases List.mem_cons.mp h with rfl | h
    · exact ⟨_, by simp, a⟩
    · obtain ⟨d, h1, h2⟩ := ddAll_mem t h
      exact ⟨d, List.mem_cons_of_mem _ h1, h2⟩
theorem ok_odd {f fT fO : Addr} {fd fdT fdO : FuncData} (FP : FD K "_law_odd" sOdd f fd) (F : Dx mg) (FT : FD K "_law_take" sTake fT fdT) (gT : mg "_law_take" = some (.ref fT)) (bT : Binds K fdT ["pot", "upto"] [])
    (FO : FD K "_law_of" sOf fO fdO) (gO : mg "_law_of" = some (.ref fO)) (bO : Binds K fdO ["pot", "some"] []) : FnOk P w K mg bs CX0 3 f fd ["pot"] (spOdd K) := by
  have sc := scOdd
  have GO : FnOk P w K mg bs CX0 2 fO fdO ["pot", "some"] (spOf K) := ok_of FO F FT gT bT
  refine FP.ok scOdd (fun vs H Q E h => ?_) (fun cdv A outer s H vs Q E hr h => ?_)
  · obtain ⟨p, k, rfl, _⟩ := h
    rfl
  · obtain ⟨p, t, rfl, ht, hP, k⟩ := h
    refine ⟨_, pss_cons (ps_set (i := 1) sc.nd rfl (Or.inl rfl) (pe_lst (pa_cons pe_non (pa_cons pe_bl (pa_cons pe_bl (pa_cons pe_int (pa_cons pe_int (pa_cons (pe_un un_neg pe_int) (pa_cons (pe_op op_pow pe_int pe_int)
          (pa_cons pe_str (pa_cons pe_str (pa_cons pe_str (pa_cons pe_str (pa_cons (pe_tup pa_nil) (pa_cons (pe_lst pa_nil) (pa_cons pe_dnewK (pa_cons (pe_tup (pa_cons pe_int pa_nil)) (pa_cons (pe_tup (pa_cons (pe_tup pa_nil) pa_nil))
          (pa_cons (pe_lst (pa_cons pe_int pa_nil)) (pa_cons (pe_tup (pa_cons pe_int (pa_cons pe_int pa_nil))) pa_nil))))))))))))))))))))
      (pss_cons (ps_set (i := 1) sc.nd rfl (Or.inl rfl) (pe_op op_cat (pv 1) (pe_lst (pa_cons (pe_tup (pa_cons (pe_tup (pa_cons pe_int (pa_cons pe_int pa_nil))) pa_nil)) (pa_cons (pe_tup (pa_cons pe_str (pa_cons pe_str pa_nil)))
          (pa_cons (pe_tup (pa_cons pe_str (pa_cons pe_str (pa_cons pe_str pa_nil)))) (pa_cons (pe_tup (pa_cons (pe_tup (pa_cons pe_int (pa_cons pe_bl pa_nil))) pa_nil)) (pa_cons (pe_tup (pa_cons pe_str pa_nil)) (pa_cons (pe_tup (pa_cons (pe_tup (pa_cons pe_str pa_nil)) pa_nil))
          (pa_cons pe_str (pa_cons pe_str pa_nil)))))))))))
      (pss_one (ps_ret (pe_call GO hr (by rfl) gO FO.kp bO .nil pass0 (pa_cons (pv 0) (pa_cons (pv 1) pa_nil)))))), ?_⟩
    refine rd_seq (rd_set (rd_lst ?_))
    refine (ga_cons (gd_const fun _ => .non) (ga_cons (gd_const fun _ => .bl _) (ga_cons (gd_const fun _ => .bl _) (ga_cons (gd_const fun _ => .int _) (ga_cons (gd_const fun _ => .int _) (ga_cons gd_neg1
      (ga_cons (gd_op fun H Q q => ⟨_, _, rfl, rfl, ⟨by decide, by decide, by decide⟩, q⟩) (ga_cons (gd_const fun _ => .str _) (ga_cons (gd_const fun _ => .str _) (ga_cons (gd_const fun _ => .str _) (ga_cons (gd_const fun _ => .str _)
      (ga_cons (gd_tup ga_nil (by decide)) (ga_cons (gd_lst ga_nil (by decide)) (ga_cons gd_dnew (ga_cons (gd_tup (ga_cons (gd_const fun _ => .int _) ga_nil) (by decide)) (ga_cons (gd_tup (ga_cons (gd_tup ga_nil (by decide)) ga_nil) (by decide))
      (ga_cons (gd_lst (ga_cons (gd_const fun _ => .int _) ga_nil) (by decide)) (ga_cons (gd_tup (ga_cons (gd_const fun _ => .int _) (ga_cons (gd_const fun _ => .int _) ga_nil)) (by decide)) ga_nil)))))))))))))))))
      : GA K _ odd1) _ _ _ fun vs H1 s1 g1 => ?_
    have l1 : vs.length = 18 := ddAll_len g1
    refine ⟨Nat.le_trans (Nat.le_of_eq l1) (by decide), fun a ha => ?_⟩
    have s2 : Same H1 (upd H1 a (.lst vs)) := same_new ha
    have f2 : upd H1 a (.lst vs) a = some (.lst vs) := upd_same
    have g2 := ddAll_keep (nw_up s2) g1
    have sH2 := s1.trans s2
    have ha0 := s1.free ha
    generalize upd H1 a (.lst vs) = H2 at s2 f2 g2 sH2 ⊢
    dsimp only
    refine rd_seq (rd_set ?_)
    refine ⟨_, rfl, rd_lst ?_⟩
    refine (ga_cons (gd_tup (ga_cons (gd_tup (ga_cons (gd_const fun _ => .int _) (ga_cons (gd_const fun _ => .int _) ga_nil)) (by decide)) ga_nil) (by decide))
      (ga_cons (gd_tup (ga_cons (gd_const fun _ => .str _) (ga_cons (gd_const fun _ => .str _) ga_nil)) (by decide))
      (ga_cons (gd_tup (ga_cons (gd_const fun _ => .str _) (ga_cons (gd_const fun _ => .str _) (ga_cons (gd_const fun _ => .str _) ga_nil))) (by decide))
      (ga_cons (gd_tup (ga_cons (gd_tup (ga_cons (gd_const fun _ => .int _) (ga_cons (gd_const fun _ => .bl _) ga_nil)) (by decide)) ga_nil) (by decide))
      (ga_cons (gd_tup (ga_cons (gd_const fun _ => .str _) ga_nil) (by decide))
      (ga_cons (gd_tup (ga_cons (gd_tup (ga_cons (gd_const fun _ => .str _) ga_nil) (by decide)) ga_nil) (by decide))
      (ga_cons (gd_const fun _ => .str _) (ga_cons (gd_const fun _ => .str _) ga_nil))))))) : GA K _ odd2) _ _ _ fun ws H3 s3 g3 => ?_
    have l3 : ws.length = 8 := ddAll_len g3
    refine ⟨Nat.le_trans (Nat.le_of_eq l3) (by decide), fun b hb => ?_⟩
    have s4 : Same H3 (upd H3 b (.lst ws)) := same_new hb
    have f4 : upd H3 b (.lst ws) b = some (.lst ws) := upd_same
    have f5 := s4 _ _ (s3 _ _ f2)
    have g4 := ddAll_keep (nw_up s4) (ddAll_keep (nw_in sH2) g3)
    have g5 := ddAll_keep (nw_up s4) (ddAll_keep (nw_up s3) g2)
    have sH4 := (sH2.trans s3).trans s4
    generalize upd H3 b (.lst ws) = H4 at s4 f4 f5 g4 g5 sH4 ⊢
    refine ⟨a, b, vs, ws, rfl, rfl, f5, f4, by rw [l1, l3]; exact (by decide), fun c hc => ?_⟩
    have s6 : Same H4 (upd H4 c (.lst (vs ++ ws))) := same_new hc
    have f6 : upd H4 c (.lst (vs ++ ws)) c = some (.lst (vs ++ ws)) := upd_same
    have g6 := ddAll_keep (nw_up s6) (ddAll_app g5 g4)
    have sH6 := sH4.trans s6
    have hc0 := sH4.free hc
    generalize upd H4 c (.lst (vs ++ ws)) = H6 at s6 f6 g6 sH6 ⊢
    dsimp only
    obtain ⟨o, hpo⟩ := hP.some
    have nc : c ≠ p := hP.ne hc0
    refine ⟨_, rfl, _, rfl, p, c, _, t, rfl, nc, SqL.of f6, by rw [List.length_append]; omega, by rw [List.length_append]; omega, ht, hP.same sH6, fun H7 v k7 hP7 hv => ?_⟩
    obtain ⟨d, hd, hdv⟩ := ddAll_mem (ddAll_keep (nw_awy hpo) g6) hv
    exact k H7 v d ((But.of sH6).trans k7) hP7 hd (Dd_keep (awy_but k7) hdv)
end
end L2.K40

set_option Elab.async false
set_option linter.all false
set_option maxRecDepth 100000
set_option maxHeartbeats 4000000
namespace L2.K40
open PySem PySem.Spec PyProof.Rows L2.Vx
open PySem.W (Frag)
/-! ### a number in a text -/
def allIn (z g : Str) : Bool := z.cps.toList.all fun c => decide (c ∈ g.cps.toList)
def digitsS : Str := "0123456789"
def numText (n : Nat) : Str := Str.ofString (toString ((n : Nat) : Int))
def valOf (z : Str) : Nat := NumText.digitsVal z.cps.toList
def numIn (z : Str) (lo hi : Int) : Option Int :=
  if (1 ≤ z.length ∧ z.length ≤ 9) ∧ allIn z digitsS = true then
    if numText (valOf z) = z ∧ lo ≤ (valOf z : Int) ∧ (valOf z : Int) ≤ hi then some (valOf z : Int) else none
  else none
def optV : Option Int → V
  | none => .non
  | some n => .int n
theorem allIn_digits {z : Str} : allIn z digitsS = true ↔ NumText.AllDigits z.cps.toList := by
  unfold allIn NumText.AllDigits
  rw [List.all_eq_true]
  have e : digitsS.cps.toList = [48, 49, 50, 51, 52, 53, 54, 55, 56, 57] := by decide +kernel
  rw [e]
  constructor
  · intro h c hc
    have h1 := of_decide_eq_true (h c hc)
    simp at h1
    omega
  · intro h c hc
    have h1 := h c hc
    refine decide_eq_true ?_
    have : c = 48 ∨ c = 49 ∨ c = 50 ∨ c = 51 ∨ c = 52 ∨ c = 53 ∨ c = 54 ∨ c = 55 ∨ c = 56 ∨ c = 57 := by omega
    simpa using this
theorem val_lt : ∀ (l : List Nat), NumText.AllDigits l → NumText.digitsVal l < 10 ^ l.length := by
  intro l
  have h : ∀ (l : List Nat) (a : Nat), NumText.AllDigits l → l.foldl (fun acc c => acc * 10 + (c - 48)) a < (a + 1) * 10 ^ l.length := by
    intro l
    induction l with
    | nil => intro a _; simp
    | cons c r ih =>
      intro a hd
      rw [List.foldl_cons, List.length_cons, Nat.pow_succ]
      have h1 := ih (a * 10 + (c - 48)) hd.tail
      have h2 := hd.head
      have h3 : (a * 10 + (c - 48) + 1) * 10 ^ r.length ≤ ((a + 1) * 10) * 10 ^ r.length := Nat.mul_le_mul_right _ (by omega)
      have h4 : (a + 1) * 10 * 10 ^ r.length = (a + 1) * (10 ^ r.length * 10) := by rw [Nat.mul_assoc, Nat.mul_comm 10]
      omega
  intro hd
  have := h l 0 hd
  simpa [NumText.digitsVal] using this
theorem val_small {z : Str} (h : NumText.AllDigits z.cps.toList) (hl : z.length ≤ 9) : valOf z < 10 ^ 9 :=
  Nat.lt_of_lt_of_le (val_lt _ h) (Nat.pow_le_pow_right (by decide) (by simpa [Str.length] using hl))
theorem small_log {n : Nat} (h : n < 10 ^ 9) : (Int.natAbs ((n : Nat) : Int)).log2 < 1920 := by
  rw [Int.natAbs_natCast]
  by_cases e : n = 0
  · rw [e]; decide
  · exact (Nat.log2_lt e).mpr (Nat.lt_trans h (by decide +kernel))
section
variable {P : Program} {w : World} {K : Frag} {mg : Str → Option Value} {bs : Heap}
def spCons : Sp := fun vs H Q _ => ∃ (z g : Str), vs = [.str z, .str g] ∧ z.length ≤ 900000 ∧ ∀ H', Same H H' → Q (.bl (allIn z g)) H'
theorem scCons : FnScope ["text", "signs", "sign"] ["text", "signs"] (defScope sCons) := ⟨rfl, rfl, rfl, by decide +kernel, rfl, by decide +kernel, by decide +kernel⟩
/-- the list of a walk's tests -/
theorem ok_cons {f : Addr} {fd : FuncData} (FP : FD K "consists_of" sCons f fd) (gA : mg "all" = none) : FnOk P w K mg bs CX0 1 f fd ["text", "signs"] spCons := by
  have sc := scCons
  refine FP.ok scCons (fun vs H Q E h => ?_) (fun cdv A outer s H vs Q E hr h => ?_)
  · obtain ⟨z, g, rfl, _⟩ := h
    rfl
  · obtain ⟨z, g, rfl, hz, k⟩ := h
    refine ⟨_, pss_one (ps_ret (pe_callB (cr_all rfl) (by rfl) gA boot_all (pa_cons
          (pe_lc (own := [("sign", 2)]) (g := gName 2) (by rfl) sc.nd (pi_str (pv 0)) (blkOk_by (N := ["text", "signs", "sign"]) (sc := defScope sCons) (by decide +kernel))
            (fun _ _ _ _ _ => pg_name (i := 2) sc.nd rfl (Or.inl rfl)) (fun _ _ _ _ _ => pts_nil)
            (fun _ _ _ _ _ => pe_cmpR op_in_sign (pv 2) (pv 1) rfl)) pa_nil))), ?_⟩
    refine ⟨_, rfl, z, rfl, fun D hD => lc_it walk_str (fun i H' => Same H H' ∧ H' D = some (.lst (((z.cps.toList.take i).map fun c => decide (c ∈ g.cps.toList)).map V.bl))) ⟨same_new hD, by rw [upd_same]; rfl⟩ (fun _ _ _ _ => trivial) ?_ ?_⟩
    · rintro i v H5 H6 hi ⟨s5, d5⟩ ⟨rfl, c, hc, rfl⟩
      refine ⟨rfl, rd_yes rfl ?_⟩
      refine ⟨_, rfl, _, rfl, c, g, rfl, rfl, _, d5, ?_, s5.mut hD, ?_⟩
      · rw [List.length_map, List.length_map, List.length_take]
        exact Nat.lt_of_le_of_lt (Nat.le_trans (Nat.min_le_right _ _) (by simpa [Str.length] using hz)) (by decide)
      · have hc' : z.cps.toList[i]? = some c := by simpa using hc
        rw [upd_same, List.take_succ, hc', List.map_append, List.map_append]
        rfl
    · rintro H5 ⟨s5, d5⟩
      refine ⟨D, _, rfl, SqL.of d5, ?_⟩
      have e : z.cps.toList.take z.cps.size = z.cps.toList := List.take_of_length_le (by simp)
      rw [e, List.all_map]
      exact k _ s5
def spNum : Sp := fun vs H Q _ => ∃ (z : Str) (lo hi : Int), vs = [.str z, .int lo, .int hi] ∧ z.length ≤ 900000 ∧ ∀ H', Same H H' → Q (optV (numIn z lo hi)) H'
theorem scNum : FnScope ["word", "low", "high", "number"] ["word", "low", "high"] (defScope sNum) := ⟨rfl, rfl, rfl, by decide +kernel, rfl, by decide +kernel, by decide +kernel⟩
structure FxNum (mg : Str → Option Value) : Prop where
  len : mg "len" = none
  int : mg "int" = none
  str : mg "str" = none
  all : mg "all" = none
  most : ∃ t, mg "LONGEST_NUMBER" = some (.int 9 t)
  dig : ∃ t, mg "DIGITS" = some (.str "0123456789" t)
theorem ok_num {f fC : Addr} {fd fdC : FuncData} (FP : FD K "number_in" sNum f fd) (F : FxNum mg) (FC : FD K "consists_of" sCons fC fdC) (gC : mg "consists_of" = some (.ref fC)) (bC : Binds K fdC ["text", "signs"] []) :
    FnOk P w K mg bs CX0 2 f fd ["word", "low", "high"] spNum := by
  have sc := scNum
  have GC : FnOk P w K mg bs CX0 1 fC fdC ["text", "signs"] spCons := ok_cons FC F.all
  obtain ⟨t1, e1⟩ := F.most
  obtain ⟨t2, e2⟩ := F.dig
  refine FP.ok scNum (fun vs H Q E h => ?_) (fun cdv A outer s H vs Q E hr h => ?_)
  · obtain ⟨z, lo, hi, rfl, _⟩ := h
    rfl
  · obtain ⟨z, lo, hi, rfl, hz, k⟩ := h
    have hz2 : z.length ≤ sizeLine := Nat.le_trans hz (by decide)
    refine ⟨_, pss_cons (ps_if (PW.pt (pw_or (pt_not (pt_chain op_le op_le pe_int (pe_callB call_len_str (by rfl) F.len boot_len (pa_cons (pv 0) pa_nil)) (pe_glob (v := .int 9) rfl e1 ⟨_, rfl⟩)))
          (pw_or1 (pt_not (pt_val (pe_call GC hr (by rfl) gC FC.kp bC .nil pass0 (pa_cons (pv 0) (pa_cons (pe_glob (v := .str "0123456789") rfl e2 ⟨_, rfl⟩) pa_nil))))))))
        (pss_one (ps_ret pe_non)) pss_nil)
      (pss_cons (ps_set (i := 3) sc.nd rfl (Or.inl rfl) (pe_callTy call_int_str (by rfl) F.int boot_int (pa_cons (pv 0) pa_nil)))
      (pss_cons (ps_if (PW.pt (pw_or (pt_cmpR op_ne (pe_callTy call_str_int (by rfl) F.str boot_str (pa_cons (pv 3) pa_nil)) (pv 0) (nomark _))
          (pw_or1 (pt_not (pt_chain op_le op_le (pv 1) (pv 3) (pv 2))))))
        (pss_one (ps_ret pe_non)) pss_nil)
      (pss_one (ps_ret (pv 3))))), ?_⟩
    refine rd_seq (rd_if ?_)
    have cut : ¬ ((1 ≤ z.length ∧ z.length ≤ 9) ∧ allIn z digitsS = true) → numIn z lo hi = none := fun q => if_neg q
    have fin : ∀ H', Same H H' → numIn z lo hi = none → Q .non H' := fun H' s e => by
      have q := k H' s
      rw [e] at q
      exact q
    refine ⟨_, rfl, z, rfl, hz2, _, _, rfl, rfl, _, rfl, ?_⟩
    by_cases h1 : 1 ≤ z.length
    · refine Eq.mpr (if_pos (decide_eq_true (by omega))) ?_
      refine ⟨_, _, rfl, rfl, _, rfl, ?_⟩
      by_cases h2 : z.length ≤ 9
      · refine Eq.mpr (if_neg (by rw [decide_eq_true (by omega : ((z.length : Nat) : Int) ≤ 9)]; decide)) ?_
        refine ⟨_, rfl, z, _, rfl, hz, fun H1 s1 => ⟨_, rfl, ?_⟩⟩
        cases hA : allIn z digitsS with
        | false =>
          refine Eq.mpr (if_pos (by show (!allIn z digitsS) = true; rw [hA]; rfl)) ?_
          exact fin H1 s1 (cut fun q => by rw [hA] at q; cases q.2)
        | true =>
          refine Eq.mpr (if_neg (by show ¬ (!allIn z digitsS) = true; rw [hA]; decide)) ?_
          have hd := allIn_digits.mp hA
          have hv := val_small hd h2
          dsimp only [tNext]
          refine rd_seq (rd_set ?_)
          refine ⟨_, rfl, z, ((valOf z : Nat) : Int), rfl, intText_digits hd (fun q => ?_) (by omega), by omega, ?_⟩
          · have := congrArg List.length q
            rw [Array.length_toList, List.length_nil] at this
            have h1' : 1 ≤ z.cps.size := h1
            omega
          have e0 : numIn z lo hi = if numText (valOf z) = z ∧ lo ≤ (valOf z : Int) ∧ (valOf z : Int) ≤ hi then some (valOf z : Int) else none := if_pos ⟨⟨h1, h2⟩, hA⟩
          dsimp only
          refine rd_seq (rd_if ?_)
          refine ⟨_, rfl, ((valOf z : Nat) : Int), rfl, small_log hv, _, rfl, rfl, _, rfl, ?_⟩
          by_cases h3 : numText (valOf z) = z
          · refine Eq.mpr (if_neg (nt (congrArg V.str h3))) ?_
            refine ⟨_, rfl, _, rfl, _, _, rfl, rfl, _, rfl, ?_⟩
            by_cases h4 : lo ≤ ((valOf z : Nat) : Int)
            · refine Eq.mpr (if_pos (decide_eq_true h4)) ?_
              refine ⟨_, rfl, _, _, rfl, rfl, _, rfl, ?_⟩
              by_cases h5 : ((valOf z : Nat) : Int) ≤ hi
              · refine Eq.mpr (if_neg (by rw [decide_eq_true h5]; decide)) ?_
                dsimp only
                refine ⟨_, rfl, ?_⟩
                have q := k H1 s1
                rw [e0, if_pos ⟨h3, h4, h5⟩] at q
                exact q
              · refine Eq.mpr (if_pos (by rw [decide_eq_false h5]; rfl)) ?_
                exact fin H1 s1 (e0.trans (if_neg fun q => h5 q.2.2))
            · refine Eq.mpr (if_neg (by rw [decide_eq_false h4]; decide)) ?_
              exact ⟨_, rfl, fin H1 s1 (e0.trans (if_neg fun q => h4 q.2.1))⟩
          · refine Eq.mpr (if_pos (nf (fun q => h3 (V.str.inj q)))) ?_
            exact fin H1 s1 (e0.trans (if_neg fun q => h3 q.1))
      · refine Eq.mpr (if_pos (by rw [decide_eq_false (by omega : ¬ ((z.length : Nat) : Int) ≤ 9)]; rfl)) ?_
        exact fin H (Same.refl H) (cut fun q => h2 q.1.2)
    · refine Eq.mpr (if_neg (by rw [decide_eq_false (by omega : ¬ (1 : Int) ≤ ((z.length : Nat) : Int))]; decide)) ?_
      exact ⟨_, rfl, fin H (Same.refl H) (cut fun q => h1 q.1.1)⟩
end
end L2.K40

set_option Elab.async false
set_option linter.all false
set_option maxRecDepth 100000
set_option maxHeartbeats 4000000
namespace L2.K40
open PySem PySem.Spec PyProof.Rows L2.Vx
open PySem.W (Frag)
open TL (tl)
/-! ### names, and numbers with a sign -/
def lettersS : Str := "abcdefghijklmnopqrstuvwxyz"
def nameIn (z : Str) : Bool := decide (1 ≤ z.length) && (decide (z.length ≤ 8) && allIn z lettersS)
def sgnIn (z : Str) (most : Int) : Option Int := if Txt.startswith z "-" = true then (numIn (cutS z (some 1) none) 1 most).map (fun n => -n) else numIn z 0 most
theorem cutS_len (z : Str) (lo hi : Option Int) : (cutS z lo hi).length ≤ z.length := by
  unfold cutS
  show (List.toArray _).size ≤ z.cps.size
  rw [List.size_toArray, List.length_take, List.length_drop, Array.length_toList]
  omega
theorem optV_some (n : Int) : optV (some n) = .int n := rfl
section
variable {P : Program} {w : World} {K : Frag} {mg : Str → Option Value} {bs : Heap}
def spSgn : Sp := fun vs H Q _ => ∃ (z : Str) (m : Int), vs = [.str z, .int m] ∧ z.length ≤ 900000 ∧ ∀ H', Same H H' → Q (optV (sgnIn z m)) H'
theorem scSgn : FnScope ["word", "most", "number"] ["word", "most"] (defScope sSgn) := ⟨rfl, rfl, rfl, by decide +kernel, rfl, by decide +kernel, by decide +kernel⟩
theorem ok_sgn {f fN fC : Addr} {fd fdN fdC : FuncData} (FP : FD K "signed_number_in" sSgn f fd) (F : FxNum mg) (FN : FD K "number_in" sNum fN fdN) (gN : mg "number_in" = some (.ref fN)) (bN : Binds K fdN ["word", "low", "high"] [])
    (FC : FD K "consists_of" sCons fC fdC) (gC : mg "consists_of" = some (.ref fC)) (bC : Binds K fdC ["text", "signs"] []) : FnOk P w K mg bs CX0 3 f fd ["word", "most"] spSgn := by
  have sc := scSgn
  have GN : FnOk P w K mg bs CX0 2 fN fdN ["word", "low", "high"] spNum := ok_num FN F FC gC bC
  refine FP.ok scSgn (fun vs H Q E h => ?_) (fun cdv A outer s H vs Q E hr h => ?_)
  · obtain ⟨z, m, rfl, _⟩ := h
    rfl
  · obtain ⟨z, m, rfl, hz, k⟩ := h
    have hz2 : z.length ≤ sizeLine := Nat.le_trans hz (by decide)
    refine ⟨_, pss_cons (ps_if (pt_not (pt_val (pe_m1 PySem.F.slot_str_startswith PySem.F.type_str_startswith mt_startswith (pv 0) pe_str)))
        (pss_one (ps_ret (pe_call GN hr (by rfl) gN FN.kp bN .nil pass0 (pa_cons (pv 0) (pa_cons pe_int (pa_cons (pv 1) pa_nil)))))) pss_nil)
      (pss_cons (ps_set (i := 2) sc.nd rfl (Or.inl rfl) (pe_call GN hr (by rfl) gN FN.kp bN .nil pass0 (pa_cons (pe_slice sl_str (pv 0) (po_some pe_int) po_none) (pa_cons pe_int (pa_cons (pv 1) pa_nil)))))
      (pss_cons (ps_if (pt_cmpR op_isN (pv 2) pe_non (nomark _)) (pss_one (ps_ret pe_non)) pss_nil)
      (pss_one (ps_ret (pe_un un_neg (pv 2)))))), ?_⟩
    refine rd_seq (rd_if ?_)
    refine ⟨_, rfl, ⟨_, rfl⟩, z, "-", rfl, rfl, _, rfl, ?_⟩
    cases hm : Txt.startswith z "-" with
    | false =>
      refine Eq.mpr (if_pos rfl) ?_
      refine ⟨_, rfl, _, rfl, z, 0, m, rfl, hz, fun H1 s1 => ?_⟩
      have q := k H1 s1
      unfold sgnIn at q
      rw [hm] at q
      exact q
    | true =>
      refine Eq.mpr (if_neg (by decide)) ?_
      dsimp only [tNext]
      have e0 : sgnIn z m = (numIn (cutS z (some 1) none) 1 m).map (fun n => -n) := by
        unfold sgnIn
        rw [hm]
        rfl
      refine rd_seq (rd_set ?_)
      refine ⟨_, rfl, _, rfl, z, rfl, hz2, _, rfl, cutS z (some 1) none, 1, m, rfl, Nat.le_trans (cutS_len _ _ _) hz, fun H1 s1 => ?_⟩
      have q := k H1 s1
      rw [e0] at q
      clear e0
      generalize numIn (cutS z (some 1) none) 1 m = r at q
      dsimp only
      refine rd_seq (rd_if ?_)
      cases r with
      | none =>
        refine ⟨_, rfl, rfl, _, rfl, ?_⟩
        refine Eq.mpr (if_pos rfl) ?_
        exact q
      | some n =>
        refine ⟨_, rfl, rfl, _, rfl, ?_⟩
        refine Eq.mpr (if_neg (fun z => by cases of_decide_eq_true z)) ?_
        dsimp only [tNext]
        exact ⟨_, rfl, n, rfl, q⟩
structure FxName (mg : Str → Option Value) : Prop where
  isi : mg "isinstance" = none
  str : mg "str" = none
  len : mg "len" = none
  all : mg "all" = none
  most : ∃ t, mg "LONGEST_NAME" = some (.int 8 t)
  let_ : ∃ t, mg "LETTERS" = some (.str "abcdefghijklmnopqrstuvwxyz" t)
def spName (K : Frag) : Sp := fun vs H Q _ => ∃ v, vs = [v] ∧ ((NoStr K H v ∧ ∀ H', Same H H' → Q (.bl false) H') ∨ ∃ z : Str, v = .str z ∧ z.length ≤ 900000 ∧ ∀ H', Same H H' → Q (.bl (nameIn z)) H')
theorem scName : FnScope ["value"] ["value"] (defScope sIsName) := ⟨rfl, rfl, rfl, by decide +kernel, rfl, by decide +kernel, by decide +kernel⟩
theorem ok_name {f fC : Addr} {fd fdC : FuncData} (FP : FD K "is_name" sIsName f fd) (F : FxName mg) (FC : FD K "consists_of" sCons fC fdC) (gC : mg "consists_of" = some (.ref fC)) (bC : Binds K fdC ["text", "signs"] []) : FnOk P w K mg bs CX0 2 f fd ["value"] (spName K) := by
  have sc := scName
  have GC : FnOk P w K mg bs CX0 1 fC fdC ["text", "signs"] spCons := ok_cons FC F.all
  obtain ⟨t1, e1⟩ := F.most
  obtain ⟨t2, e2⟩ := F.let_
  refine FP.ok scName (fun vs H Q E h => ?_) (fun cdv A outer s H vs Q E hr h => ?_)
  · obtain ⟨v, rfl, _⟩ := h
    rfl
  · obtain ⟨v, rfl, h⟩ := h
    refine ⟨_, pss_one (ps_ret (pe_and (pe_callB call_isi (by rfl) F.isi boot_isinstance (pa_cons (pv 0) (pa_cons (pe_bltn (v := .ty "str") (by rfl) F.str boot_str rfl) pa_nil)))
      (pe_and (pe_chain op_le op_le pe_int (pe_callB call_len_str (by rfl) F.len boot_len (pa_cons (pv 0) pa_nil)) (pe_glob (v := .int 8) rfl e1 ⟨_, rfl⟩))
      (pe_one (pe_call GC hr (by rfl) gC FC.kp bC .nil pass0 (pa_cons (pv 0) (pa_cons (pe_glob (v := .str "abcdefghijklmnopqrstuvwxyz") rfl e2 ⟨_, rfl⟩) pa_nil))))))), ?_⟩
    rcases h with ⟨⟨n, hT, hk⟩, k⟩ | ⟨z, rfl, hz, k⟩
    · refine ⟨_, rfl, v, .ty "str", _, _, false, rfl, .ty "str", hT, kit_ty hk, _, rfl, ?_⟩
      refine Eq.mpr (if_neg (by decide)) ?_
      exact k H (Same.refl H)
    · have hz2 : z.length ≤ sizeLine := Nat.le_trans hz (by decide)
      refine ⟨_, rfl, .str z, .ty "str", .type "str", _, true, rfl, .ty "str", .base (.str z), kit_ty (by decide +kernel), _, rfl, ?_⟩
      refine Eq.mpr (if_pos rfl) ?_
      refine ⟨_, rfl, z, rfl, hz2, _, _, rfl, rfl, _, rfl, ?_⟩
      by_cases h1 : 1 ≤ z.length
      · refine Eq.mpr (if_pos (decide_eq_true (by omega))) ?_
        refine ⟨_, _, rfl, rfl, _, rfl, ?_⟩
        by_cases h2 : z.length ≤ 8
        · refine Eq.mpr (if_pos (decide_eq_true (by omega : ((z.length : Nat) : Int) ≤ 8))) ?_
          refine ⟨_, rfl, z, _, rfl, hz, fun H1 s1 => ?_⟩
          have q := k H1 s1
          unfold nameIn at q
          rw [decide_eq_true h1, decide_eq_true h2] at q
          exact q
        · refine Eq.mpr (if_neg (by rw [decide_eq_false (by omega : ¬ ((z.length : Nat) : Int) ≤ 8)]; decide)) ?_
          have q := k H (Same.refl H)
          unfold nameIn at q
          rw [decide_eq_true h1, decide_eq_false h2] at q
          exact q
      · refine Eq.mpr (if_neg (by rw [decide_eq_false (by omega : ¬ (1 : Int) ≤ ((z.length : Nat) : Int))]; decide)) ?_
        refine ⟨_, rfl, ?_⟩
        refine Eq.mpr (if_neg (by decide)) ?_
        have q := k H (Same.refl H)
        unfold nameIn at q
        rw [decide_eq_false h1] at q
        exact q
end
end L2.K40

set_option Elab.async false
set_option linter.all false
set_option maxRecDepth 100000
set_option maxHeartbeats 4000000
namespace L2.K40
open PySem PySem.Spec PyProof.Rows L2.Vx
open PySem.W (Frag)
/-! ### the words of a plan's lines -/
theorem sp_eq : (" " : Str) = ⟨#[32]⟩ := by decide +kernel
theorem nl_eq : ("\n" : Str) = ⟨#[10]⟩ := by decide +kernel
def handW (m : Int) : List Str → Option Int
  | [a, b] => if a = "hand" then numIn b 0 m else none
  | _ => none
def handIn (z : Str) (m : Int) : Option Int := handW m (Txt.split z " ")
def wallW (ws names : List Str) : Option (Str × Str) :=
  match ws with
  | [a, b, c] => if a = "wall" ∧ b ≠ c ∧ b ∈ names ∧ c ∈ names then some (b, c) else none
  | _ => none
def boundW (ws : List Str) (hand : Int) : Option Int :=
  match ws with
  | [] => some hand
  | [a, b] => if a = "within" then numIn b 0 99 else none
  | _ => none
inductive Aim where
  | at (x y : Int)
  | by (o : Str) (x y : Int)
  | cross (a b : Str)
def aimV : Aim → List V
  | .at x y => [.str "at", .int x, .int y]
  | .by o x y => [.str "by", .str o, .int x, .int y]
  | .cross a b => [.str "cross", .str a, .str b]
def crossW (ws names : List Str) : Option Aim :=
  match ws with
  | [_, b, c] => if b ∈ names ∧ c ∈ names then some (.cross b c) else none
  | _ => none
section
variable {P : Program} {w : World} {K : Frag} {mg : Str → Option Value} {bs : Heap}
def spHand : Sp := fun vs H Q _ => ∃ (z : Str) (m : Int), vs = [.str z, .int m] ∧ z.length ≤ 900000 ∧ ∀ H', Same H H' → Q (optV (handIn z m)) H'
theorem scHand : FnScope ["line", "most", "words"] ["line", "most"] (defScope sHand) := ⟨rfl, rfl, rfl, by decide +kernel, rfl, by decide +kernel, by decide +kernel⟩
theorem ok_hand {f fN fC : Addr} {fd fdN fdC : FuncData} (FP : FD K "read_hand" sHand f fd) (F : FxNum mg) (FN : FD K "number_in" sNum fN fdN) (gN : mg "number_in" = some (.ref fN)) (bN : Binds K fdN ["word", "low", "high"] [])
    (FC : FD K "consists_of" sCons fC fdC) (gC : mg "consists_of" = some (.ref fC)) (bC : Binds K fdC ["text", "signs"] []) : FnOk P w K mg bs CX0 3 f fd ["line", "most"] spHand := by
  have sc := scHand
  have GN : FnOk P w K mg bs CX0 2 fN fdN ["word", "low", "high"] spNum := ok_num FN F FC gC bC
  refine FP.ok scHand (fun vs H Q E h => ?_) (fun cdv A outer s H vs Q E hr h => ?_)
  · obtain ⟨z, m, rfl, _⟩ := h
    rfl
  · obtain ⟨z, m, rfl, hz, k⟩ := h
    refine ⟨_, pss_cons (ps_set (i := 2) sc.nd rfl (Or.inl rfl) (pe_split (pv 0) pe_str))
      (pss_cons (ps_if (PW.pt (pw_or (pt_cmpR op_ne (pe_callB call_len_seq (by rfl) F.len boot_len (pa_cons (pv 2) pa_nil)) pe_int (nomark _))
          (pw_or1 (pt_cmpR op_ne (pe_ix ix_list (pv 2) pe_int (fun _ _ => rfl)) pe_str (nomark _)))))
        (pss_one (ps_ret pe_non)) pss_nil)
      (pss_one (ps_ret (pe_call GN hr (by rfl) gN FN.kp bN .nil pass0 (pa_cons (pe_ix ix_list (pv 2) pe_int (fun _ _ => rfl)) (pa_cons pe_int (pa_cons (pv 1) pa_nil))))))), ?_⟩
    refine rd_seq (rd_set ?_)
    have hz2 : z.length + 2 ≤ sizeLine := Nat.le_trans (by omega : z.length + 2 ≤ 1000000) (by decide)
    refine ⟨_, rfl, ⟨_, rfl⟩, z, _, rfl, rfl, rfl, hz2, fun p hp => ?_⟩
    have s1 : Same H (upd H p (.lst ((Txt.split z " ").map V.str))) := same_new hp
    have f1 : upd H p (.lst ((Txt.split z " ").map V.str)) p = some (.lst ((Txt.split z " ").map V.str)) := upd_same
    generalize upd H p (.lst ((Txt.split z " ").map V.str)) = H1 at s1 f1 ⊢
    have part : ∀ x ∈ Txt.split z " ", x.length ≤ z.length := fun x hx => split_part (s := 32) (by decide) (by rw [← sp_eq]; exact hx)
    have k1 : ∀ H', Same H1 H' → Q (optV (handW m (Txt.split z " "))) H' := fun H' s => k H' (s1.trans s)
    generalize Txt.split z " " = W at f1 part k1
    dsimp only
    refine rd_seq (rd_if ?_)
    refine ⟨_, rfl, p, _, rfl, .inl (SqL.of f1), rfl, _, rfl, ?_⟩
    rcases W with _ | ⟨a, _ | ⟨b, _ | ⟨c, r⟩⟩⟩
    · exact Eq.mpr (if_pos rfl) (k1 H1 (Same.refl _))
    · exact Eq.mpr (if_pos rfl) (k1 H1 (Same.refl _))
    · refine Eq.mpr (if_neg (nt (by rfl))) ?_
      refine ⟨_, rfl, p, _, 0, .str a, rfl, rfl, SqL.of f1, rfl, rfl, _, rfl, ?_⟩
      by_cases h1 : a = "hand"
      · refine Eq.mpr (if_neg (nt (by rw [h1]))) ?_
        dsimp only [tNext]
        refine ⟨_, rfl, p, _, 1, .str b, rfl, rfl, SqL.of f1, rfl, _, rfl, b, 0, m, rfl, Nat.le_trans (part b (by simp)) hz, fun H2 s2 => ?_⟩
        have q := k1 H2 s2
        rw [show handW m [a, b] = numIn b 0 m from if_pos h1] at q
        exact q
      · refine Eq.mpr (if_pos (nf (fun q => h1 (V.str.inj q)))) ?_
        have q := k1 H1 (Same.refl _)
        rw [show handW m [a, b] = none from if_neg h1] at q
        exact q
    · refine Eq.mpr (if_pos (nf (fun q => ?_))) (k1 H1 (Same.refl _))
      have h := V.int.inj q
      simp only [List.length_map, List.length_cons] at h
      omega
def spWall (K : Frag) : Sp := fun vs H Q _ => ∃ (a b : Addr) (ws ns : List Str), vs = [.ref a, .ref b] ∧ SqL K H a (ws.map V.str) ∧ SqL K H b (ns.map V.str) ∧ (wallW ws ns = none → Q .non H) ∧
  ∀ x y, wallW ws ns = some (x, y) → ∀ p, H p = none → Q (.ref p) (upd H p (.tup [.str x, .str y]))
theorem scWall : FnScope ["words", "names"] ["words", "names"] (defScope sWall) := ⟨rfl, rfl, rfl, by decide +kernel, rfl, by decide +kernel, by decide +kernel⟩
theorem ok_wall {f : Addr} {fd : FuncData} (FP : FD K "wall_in" sWall f fd) (gL : mg "len" = none) : FnOk P w K mg bs CX0 1 f fd ["words", "names"] (spWall K) := by
  have sc := scWall
  refine FP.ok scWall (fun vs H Q E h => ?_) (fun cdv A outer s H vs Q E hr h => ?_)
  · obtain ⟨a, b, ws, ns, rfl, _⟩ := h
    rfl
  · obtain ⟨a, b, ws, ns, rfl, ha, hb, kn, ks⟩ := h
    refine ⟨_, pss_cons (ps_if (PW.pt (pw_or (pt_cmpR op_ne (pe_callB call_len_seq (by rfl) gL boot_len (pa_cons (pv 0) pa_nil)) pe_int (nomark _))
          (pw_or (pt_cmpR op_ne (pe_ix ix_list (pv 0) pe_int (fun _ _ => rfl)) pe_str (nomark _))
          (pw_or1 (pt_cmpR op_eq (pe_ix ix_list (pv 0) pe_int (fun _ _ => rfl)) (pe_ix ix_list (pv 0) pe_int (fun _ _ => rfl)) (nomark _))))))
        (pss_one (ps_ret pe_non)) pss_nil)
      (pss_cons (ps_if (PW.pt (pw_or (pt_cmpR op_notIn_seq (pe_ix ix_list (pv 0) pe_int (fun _ _ => rfl)) (pv 1) rfl)
          (pw_or1 (pt_cmpR op_notIn_seq (pe_ix ix_list (pv 0) pe_int (fun _ _ => rfl)) (pv 1) rfl))))
        (pss_one (ps_ret pe_non)) pss_nil)
      (pss_one (ps_ret (pe_tup (pa_cons (pe_ix ix_list (pv 0) pe_int (fun _ _ => rfl)) (pa_cons (pe_ix ix_list (pv 0) pe_int (fun _ _ => rfl)) pa_nil)))))), ?_⟩
    refine rd_seq (rd_if ?_)
    refine ⟨_, rfl, a, _, rfl, .inl ha, rfl, _, rfl, ?_⟩
    have big : ∀ n : Nat, n ≠ 3 → (!decide (V.int ((n : Nat) : Int) = V.int 3)) = true := fun n hn => nf (fun q => by have h := V.int.inj q; omega)
    rcases ws with _ | ⟨x, _ | ⟨y, _ | ⟨z, _ | ⟨u, r⟩⟩⟩⟩
    · exact Eq.mpr (if_pos rfl) (kn rfl)
    · exact Eq.mpr (if_pos rfl) (kn rfl)
    · exact Eq.mpr (if_pos rfl) (kn rfl)
    · refine Eq.mpr (if_neg (nt (by rfl))) ?_
      refine ⟨_, rfl, a, _, 0, .str x, rfl, rfl, ha, rfl, rfl, _, rfl, ?_⟩
      by_cases h1 : x = "wall"
      · refine Eq.mpr (if_neg (nt (by rw [h1]))) ?_
        refine ⟨_, rfl, a, _, 1, .str y, rfl, rfl, ha, rfl, _, rfl, a, _, 2, .str z, rfl, rfl, ha, rfl, rfl, _, rfl, ?_⟩
        by_cases h2 : y = z
        · refine Eq.mpr (if_pos (decide_eq_true (congrArg V.str h2))) ?_
          exact kn (if_neg fun q => q.2.1 h2)
        · refine Eq.mpr (if_neg (fun q => h2 (V.str.inj (of_decide_eq_true q)))) ?_
          dsimp only [tNext]
          refine rd_seq (rd_if ?_)
          refine ⟨_, rfl, a, _, 1, .str y, rfl, rfl, ha, rfl, _, rfl, b, _, rfl, .inl hb, rfl, flat_strs _, _, rfl, ?_⟩
          rw [if_pos rfl, inV_str]
          by_cases h3 : y ∈ ns
          · refine Eq.mpr (if_neg (nt h3)) ?_
            refine ⟨_, rfl, a, _, 2, .str z, rfl, rfl, ha, rfl, _, rfl, b, _, rfl, .inl hb, rfl, flat_strs _, _, rfl, ?_⟩
            rw [if_pos rfl, inV_str]
            by_cases h4 : z ∈ ns
            · refine Eq.mpr (if_neg (nt h4)) ?_
              dsimp only [tNext]
              refine ⟨_, rfl, a, _, 1, .str y, rfl, rfl, ha, rfl, _, rfl, a, _, 2, .str z, rfl, rfl, ha, rfl, (by exact (by decide : 2 ≤ sizeLine)), fun p hp => ?_⟩
              exact ks y z (if_pos ⟨h1, h2, h3, h4⟩) p hp
            · refine Eq.mpr (if_pos (nf h4)) ?_
              exact kn (if_neg fun q => h4 q.2.2.2)
          · refine Eq.mpr (if_pos (nf h3)) ?_
            exact kn (if_neg fun q => h3 q.2.2.1)
      · refine Eq.mpr (if_pos (nf (fun q => h1 (V.str.inj q)))) ?_
        exact kn (if_neg fun q => h1 q.1)
    · exact Eq.mpr (if_pos (big _ (by simp only [List.length_map, List.length_cons]; omega))) (kn rfl)
end
end L2.K40

set_option Elab.async false
set_option linter.all false
set_option maxRecDepth 100000
set_option maxHeartbeats 4000000
namespace L2.K40
open PySem PySem.Spec PyProof.Rows L2.Vx
open PySem.W (Frag)
/-! ### what a point's line is aimed at, and its bound -/
def atOf : Option Int → Option Int → Option Aim
  | some x, some y => some (.at x y)
  | _, _ => none
def byOf (o : Str) : Option Int → Option Int → Option Aim
  | some x, some y => some (.by o x y)
  | _, _ => none
def aimW (ws names : List Str) : Option Aim :=
  match ws with
  | [a, b, c] => if a = "cross" then crossW ws names else if a = "at" then atOf (sgnIn b 999) (sgnIn c 999) else none
  | [a, o, b, c] => if a = "cross" then none else if a = "by" ∧ o ∈ names then byOf o (sgnIn b 999) (sgnIn c 999) else none
  | _ => none
theorem big3 (n m : Nat) (h : n ≠ m) : (!decide (V.int ((n : Nat) : Int) = V.int (m : Nat))) = true := nf (fun q => by have h := V.int.inj q; omega)
theorem at0 (x : V) (r : List V) : atI (x :: r) 0 = some x := by
  unfold atI ixN
  simp
theorem at1 (x y : V) (r : List V) : atI (x :: y :: r) 1 = some y := by
  unfold atI ixN
  rw [if_pos (by decide), if_pos (by simp only [List.length_cons]; omega)]
  rfl
theorem inN {xs : List (Option Int)} : inV .non (xs.map optV) = decide (none ∈ xs) := by
  unfold inV
  rw [Bool.eq_iff_iff, List.any_eq_true, decide_eq_true_iff]
  constructor
  · rintro ⟨v, hv, e⟩
    obtain ⟨y, hy, rfl⟩ := List.mem_map.mp hv
    cases y with
    | none => exact hy
    | some n => exact absurd e (by simp [optV, eqV])
  · intro h
    exact ⟨.non, List.mem_map.mpr ⟨none, h, rfl⟩, by simp [eqV]⟩
theorem flatN (xs : List (Option Int)) : (xs.map optV).all flatV = true := by
  rw [List.all_eq_true]
  intro v hv
  obtain ⟨y, _, rfl⟩ := List.mem_map.mp hv
  cases y <;> rfl
section
variable {P : Program} {w : World} {K : Frag} {mg : Str → Option Value} {bs : Heap}
def spCross (K : Frag) : Sp := fun vs H Q _ => ∃ (a b : Addr) (ws ns : List Str), vs = [.ref a, .ref b] ∧ SqL K H a (ws.map V.str) ∧ SqL K H b (ns.map V.str) ∧ (crossW ws ns = none → Q .non H) ∧
  ∀ m, crossW ws ns = some m → ∀ p, H p = none → Q (.ref p) (upd H p (.tup (aimV m)))
theorem scCross : FnScope ["words", "names"] ["words", "names"] (defScope sCross) := ⟨rfl, rfl, rfl, by decide +kernel, rfl, by decide +kernel, by decide +kernel⟩
theorem ok_cross {f : Addr} {fd : FuncData} (FP : FD K "cross_in" sCross f fd) (gL : mg "len" = none) : FnOk P w K mg bs CX0 1 f fd ["words", "names"] (spCross K) := by
  have sc := scCross
  refine FP.ok scCross (fun vs H Q E h => ?_) (fun cdv A outer s H vs Q E hr h => ?_)
  · obtain ⟨a, b, ws, ns, rfl, _⟩ := h
    rfl
  · obtain ⟨a, b, ws, ns, rfl, ha, hb, kn, ks⟩ := h
    refine ⟨_, pss_cons (ps_if (PW.pt (pw_or (pt_cmpR op_ne (pe_callB call_len_seq (by rfl) gL boot_len (pa_cons (pv 0) pa_nil)) pe_int (nomark _))
          (pw_or (pt_cmpR op_notIn_seq (pe_ix ix_list (pv 0) pe_int (fun _ _ => rfl)) (pv 1) rfl)
          (pw_or1 (pt_cmpR op_notIn_seq (pe_ix ix_list (pv 0) pe_int (fun _ _ => rfl)) (pv 1) rfl)))))
        (pss_one (ps_ret pe_non)) pss_nil)
      (pss_one (ps_ret (pe_tup (pa_cons pe_str (pa_cons (pe_ix ix_list (pv 0) pe_int (fun _ _ => rfl)) (pa_cons (pe_ix ix_list (pv 0) pe_int (fun _ _ => rfl)) pa_nil)))))), ?_⟩
    refine rd_seq (rd_if ?_)
    refine ⟨_, rfl, a, _, rfl, .inl ha, rfl, _, rfl, ?_⟩
    rcases ws with _ | ⟨x, _ | ⟨y, _ | ⟨z, _ | ⟨u, r⟩⟩⟩⟩
    · exact Eq.mpr (if_pos rfl) (kn rfl)
    · exact Eq.mpr (if_pos rfl) (kn rfl)
    · exact Eq.mpr (if_pos rfl) (kn rfl)
    · refine Eq.mpr (if_neg (nt (by rfl))) ?_
      refine ⟨_, rfl, a, _, 1, .str y, rfl, rfl, ha, rfl, _, rfl, b, _, rfl, .inl hb, rfl, flat_strs _, _, rfl, ?_⟩
      rw [if_pos rfl, inV_str]
      by_cases h3 : y ∈ ns
      · refine Eq.mpr (if_neg (nt h3)) ?_
        refine ⟨_, rfl, a, _, 2, .str z, rfl, rfl, ha, rfl, _, rfl, b, _, rfl, .inl hb, rfl, flat_strs _, _, rfl, ?_⟩
        rw [if_pos rfl, inV_str]
        by_cases h4 : z ∈ ns
        · refine Eq.mpr (if_neg (nt h4)) ?_
          dsimp only [tNext]
          refine ⟨_, rfl, a, _, 1, .str y, rfl, rfl, ha, rfl, _, rfl, a, _, 2, .str z, rfl, rfl, ha, rfl, (by exact (by decide : 3 ≤ sizeLine)), fun p hp => ?_⟩
          exact ks _ (if_pos ⟨h3, h4⟩) p hp
        · refine Eq.mpr (if_pos (nf h4)) ?_
          exact kn (if_neg fun q => h4 q.2)
      · refine Eq.mpr (if_pos (nf h3)) ?_
        exact kn (if_neg fun q => h3 q.1)
    · exact Eq.mpr (if_pos (big3 _ 3 (by simp only [List.length_map, List.length_cons]; omega))) (kn rfl)
def spBound (K : Frag) : Sp := fun vs H Q _ => ∃ (a : Addr) (ws : List Str) (n : Int), vs = [.ref a, .int n] ∧ SqL K H a (ws.map V.str) ∧ (∀ x ∈ ws, x.length ≤ 900000) ∧ ∀ H', Same H H' → Q (optV (boundW ws n)) H'
theorem scBound : FnScope ["words", "hand"] ["words", "hand"] (defScope sBound) := ⟨rfl, rfl, rfl, by decide +kernel, rfl, by decide +kernel, by decide +kernel⟩
theorem ok_bound {f fN fC : Addr} {fd fdN fdC : FuncData} (FP : FD K "bound_in" sBound f fd) (F : FxNum mg) (gB : ∃ t, mg "GREATEST_BOUND_plans" = some (.int 99 t)) (FN : FD K "number_in" sNum fN fdN) (gN : mg "number_in" = some (.ref fN)) (bN : Binds K fdN ["word", "low", "high"] [])
    (FC : FD K "consists_of" sCons fC fdC) (gC : mg "consists_of" = some (.ref fC)) (bC : Binds K fdC ["text", "signs"] []) : FnOk P w K mg bs CX0 3 f fd ["words", "hand"] (spBound K) := by
  have sc := scBound
  have GN : FnOk P w K mg bs CX0 2 fN fdN ["word", "low", "high"] spNum := ok_num FN F FC gC bC
  obtain ⟨t1, e1⟩ := gB
  refine FP.ok scBound (fun vs H Q E h => ?_) (fun cdv A outer s H vs Q E hr h => ?_)
  · obtain ⟨a, ws, n, rfl, _⟩ := h
    rfl
  · obtain ⟨a, ws, n, rfl, ha, hz, k⟩ := h
    refine ⟨_, pss_cons (ps_if (pt_not (pt_truth (pv 0) (fun _ => rfl))) (pss_one (ps_ret (pv 1))) pss_nil)
      (pss_cons (ps_if (PW.pt (pw_or (pt_cmpR op_ne (pe_callB call_len_seq (by rfl) F.len boot_len (pa_cons (pv 0) pa_nil)) pe_int (nomark _))
          (pw_or1 (pt_cmpR op_ne (pe_ix ix_list (pv 0) pe_int (fun _ _ => rfl)) pe_str (nomark _)))))
        (pss_one (ps_ret pe_non)) pss_nil)
      (pss_one (ps_ret (pe_call GN hr (by rfl) gN FN.kp bN .nil pass0 (pa_cons (pe_ix ix_list (pv 0) pe_int (fun _ _ => rfl)) (pa_cons pe_int (pa_cons (pe_glob (v := .int 99) rfl e1 ⟨_, rfl⟩) pa_nil))))))), ?_⟩
    refine rd_seq (rd_if ?_)
    refine ⟨_, rfl, _, .inl ⟨_, ha, rfl⟩, ?_⟩
    rcases ws with _ | ⟨x, _ | ⟨y, _ | ⟨z, r⟩⟩⟩
    · refine Eq.mpr (if_pos rfl) ?_
      exact ⟨_, rfl, k H (Same.refl H)⟩
    · refine Eq.mpr (if_neg Bool.false_ne_true) ?_
      dsimp only [tNext]
      refine rd_seq (rd_if ?_)
      refine ⟨_, rfl, a, _, rfl, .inl ha, rfl, _, rfl, ?_⟩
      exact Eq.mpr (if_pos rfl) (k H (Same.refl H))
    · refine Eq.mpr (if_neg Bool.false_ne_true) ?_
      dsimp only [tNext]
      refine rd_seq (rd_if ?_)
      refine ⟨_, rfl, a, _, rfl, .inl ha, rfl, _, rfl, ?_⟩
      refine Eq.mpr (if_neg (nt (by rfl))) ?_
      refine ⟨_, rfl, a, _, 0, .str x, rfl, rfl, ha, rfl, rfl, _, rfl, ?_⟩
      by_cases h1 : x = "within"
      · refine Eq.mpr (if_neg (nt (by rw [h1]))) ?_
        dsimp only [tNext]
        refine ⟨_, rfl, a, _, 1, .str y, rfl, rfl, ha, rfl, y, 0, 99, rfl, hz y (by simp), fun H2 s2 => ?_⟩
        have q := k H2 s2
        rw [show boundW [x, y] n = numIn y 0 99 from if_pos h1] at q
        exact q
      · refine Eq.mpr (if_pos (nf (fun q => h1 (V.str.inj q)))) ?_
        have q := k H (Same.refl H)
        rw [show boundW [x, y] n = none from if_neg h1] at q
        exact q
    · refine Eq.mpr (if_neg Bool.false_ne_true) ?_
      dsimp only [tNext]
      refine rd_seq (rd_if ?_)
      refine ⟨_, rfl, a, _, rfl, .inl ha, rfl, _, rfl, ?_⟩
      exact Eq.mpr (if_pos (big3 _ 2 (by simp only [List.length_map, List.length_cons]; omega))) (k H (Same.refl H))
theorem cut_last2 (ws : List Str) : cutV (ws.map V.str) (some (-2)) none = (ws.drop (ws.length - 2)).map V.str := by
  unfold cutV HT.sIx
  rw [List.length_map]
  dsimp only
  rw [if_pos (by decide), show ((-2 : Int) + (ws.length : Int)).toNat = ws.length - 2 by omega, List.map_drop]
  exact List.take_of_length_le (by rw [List.length_drop, List.length_map]; omega)
def spAim (K : Frag) : Sp := fun vs H Q _ => ∃ (a b : Addr) (ws ns : List Str), vs = [.ref a, .ref b] ∧ SqL K H a (ws.map V.str) ∧ SqL K H b (ns.map V.str) ∧ ws ≠ [] ∧ (∀ x ∈ ws, x.length ≤ 900000) ∧
  (aimW ws ns = none → ∀ H', Same H H' → Q .non H') ∧ ∀ m, aimW ws ns = some m → ∀ H' p, Same H H' → H p = none → H' p = some (.tup (aimV m)) → Q (.ref p) H'
theorem scAim : FnScope ["words", "names", "numbers", "word"] ["words", "names"] (defScope sAim) := ⟨rfl, rfl, rfl, by decide +kernel, rfl, by decide +kernel, by decide +kernel⟩
theorem ok_aim {f fX fS fN fC : Addr} {fd fdX fdS fdN fdC : FuncData} (FP : FD K "aim_in" sAim f fd) (F : FxNum mg) (gF : ∃ t, mg "FARTHEST" = some (.int 999 t))
    (FX : FD K "cross_in" sCross fX fdX) (gX : mg "cross_in" = some (.ref fX)) (bX : Binds K fdX ["words", "names"] [])
    (FS : FD K "signed_number_in" sSgn fS fdS) (gS : mg "signed_number_in" = some (.ref fS)) (bS : Binds K fdS ["word", "most"] [])
    (FN : FD K "number_in" sNum fN fdN) (gN : mg "number_in" = some (.ref fN)) (bN : Binds K fdN ["word", "low", "high"] [])
    (FC : FD K "consists_of" sCons fC fdC) (gC : mg "consists_of" = some (.ref fC)) (bC : Binds K fdC ["text", "signs"] []) : FnOk P w K mg bs CX0 4 f fd ["words", "names"] (spAim K) := by
  have sc := scAim
  have GX : FnOk P w K mg bs CX0 1 fX fdX ["words", "names"] (spCross K) := ok_cross FX F.len
  have GS : FnOk P w K mg bs CX0 3 fS fdS ["word", "most"] spSgn := ok_sgn FS F FN gN bN FC gC bC
  obtain ⟨t1, e1⟩ := gF
  refine FP.ok scAim (fun vs H Q E h => ?_) (fun cdv A outer s H vs Q E hr h => ?_)
  · obtain ⟨a, b, ws, ns, rfl, _⟩ := h
    rfl
  · obtain ⟨a, b, ws, ns, rfl, ha, hb, hne, hz, kn, ks⟩ := h
    have hr1 : Room 1 (A.deeper (envOfC "aim_in" (defScope sAim) s.heap.objs.size f cdv)) := hr.mono (by decide)
    refine ⟨_, pss_cons (ps_if (pt_cmpR op_eq (pe_ix ix_list (pv 0) pe_int (fun _ _ => rfl)) pe_str (nomark _)) (pss_one (ps_ret (pe_call GX hr1 (by rfl) gX FX.kp bX .nil pass0 (pa_cons (pv 0) (pa_cons (pv 1) pa_nil))))) pss_nil)
      (pss_cons (ps_setLc (i := 2) (own := [("word", 3)]) (g := gName 3) (by rfl) sc.nd rfl rfl (sw_true rfl rfl rfl (by decide +kernel)) (pi_list (pe_slice sl_list (pv 0) (po_some (pe_un un_neg pe_int)) po_none)) (blkOk_by (N := ["words", "names", "numbers", "word"]) (sc := defScope sAim) (by decide +kernel))
          (fun _ _ _ _ _ => pg_name (i := 3) sc.nd rfl (Or.inl rfl)) (fun _ _ _ _ _ => pts_nil)
          (fun _ _ _ _ _ => pe_call GS hr (by rfl) gS FS.kp bS .nil pass0 (pa_cons (pv 3) (pa_cons (pe_glob (v := .int 999) rfl e1 ⟨_, rfl⟩) pa_nil))))
      (pss_cons (ps_if (pt_cmpR op_in_seq pe_non (pv 2) rfl) (pss_one (ps_ret pe_non)) pss_nil)
      (Evl.pss_cut (ps_if (PW.pt (pw_and (pt_cmpR op_eq (pe_ix ix_list (pv 0) pe_int (fun _ _ => rfl)) pe_str (nomark _)) (pw_and1 (pt_cmpR op_eq (pe_callB call_len_seq (by rfl) F.len boot_len (pa_cons (pv 0) pa_nil)) pe_int (nomark _)))))
          (pss_one (ps_ret (pe_tup (pa_cons pe_str (pa_cons (pe_ix ix_list (pv 2) pe_int (fun _ _ => rfl)) (pa_cons (pe_ix ix_list (pv 2) pe_int (fun _ _ => rfl)) pa_nil)))))) pss_nil)
      (Evl.pss_cut (ps_if (PW.pt (pw_and (pt_cmpR op_eq (pe_ix ix_list (pv 0) pe_int (fun _ _ => rfl)) pe_str (nomark _)) (pw_and (pt_cmpR op_eq (pe_callB call_len_seq (by rfl) F.len boot_len (pa_cons (pv 0) pa_nil)) pe_int (nomark _))
            (pw_and1 (pt_cmpR op_in_seq (pe_ix ix_list (pv 0) pe_int (fun _ _ => rfl)) (pv 1) rfl)))))
          (pss_one (ps_ret (pe_tup (pa_cons pe_str (pa_cons (pe_ix ix_list (pv 0) pe_int (fun _ _ => rfl)) (pa_cons (pe_ix ix_list (pv 2) pe_int (fun _ _ => rfl)) (pa_cons (pe_ix ix_list (pv 2) pe_int (fun _ _ => rfl)) pa_nil))))))) pss_nil)
      (pss_one (ps_ret pe_non)))))), ?_⟩
    obtain ⟨w0, wr, rfl⟩ : ∃ x r, ws = x :: r := by
      cases ws with
      | nil => exact absurd rfl hne
      | cons x r => exact ⟨x, r, rfl⟩
    refine rd_seq (rd_if ?_)
    refine ⟨_, rfl, a, _, 0, .str w0, rfl, rfl, ha, at0 _ _, rfl, _, rfl, ?_⟩
    by_cases hc : w0 = "cross"
    · refine Eq.mpr (if_pos (decide_eq_true (congrArg V.str hc))) ?_
      have hx : aimW (w0 :: wr) ns = crossW (w0 :: wr) ns := by
        rcases wr with _ | ⟨x, _ | ⟨y, _ | ⟨z, _ | ⟨u, r⟩⟩⟩⟩
        · rfl
        · rfl
        · exact if_pos hc
        · exact if_pos hc
        · rfl
      refine ⟨_, rfl, _, rfl, a, b, _, ns, rfl, ha, hb, fun hn => kn (hx.trans hn) H (Same.refl H), fun m hm p hp => ks m (hx.trans hm) _ p (same_new hp) hp upd_same⟩
    · refine Eq.mpr (if_neg (fun q => hc (V.str.inj (of_decide_eq_true q)))) ?_
      dsimp only [tNext]
      refine rd_seq (rd_set ?_)
      refine ⟨_, rfl, 2, rfl, _, rfl, a, _, rfl, ha, fun L hL => ?_⟩
      rw [cut_last2]
      have sL : Same H (upd H L (.lst (((w0 :: wr).drop ((w0 :: wr).length - 2)).map V.str))) := same_new hL
      have fL : upd H L (.lst (((w0 :: wr).drop ((w0 :: wr).length - 2)).map V.str)) L = some (.lst (((w0 :: wr).drop ((w0 :: wr).length - 2)).map V.str)) := upd_same
      generalize upd H L (.lst (((w0 :: wr).drop ((w0 :: wr).length - 2)).map V.str)) = H1 at sL fL ⊢
      have hzl : ∀ x ∈ (w0 :: wr).drop ((w0 :: wr).length - 2), x.length ≤ 900000 := fun x hx => hz x (List.mem_of_mem_drop hx)
      have hl2 : ((w0 :: wr).drop ((w0 :: wr).length - 2)).length ≤ 2 := by rw [List.length_drop]; omega
      generalize eT : (w0 :: wr).drop ((w0 :: wr).length - 2) = tw at fL hzl hl2 ⊢
      refine ⟨L, rfl, ⟨_, SqL.of fL⟩, fun E1 hE => lc_it (walk_list (K := K) (a := L) (xs := tw.map V.str)) (fun j H' => Same H1 H' ∧ H' E1 = some (.lst (((tw.take j).map fun x => sgnIn x 999).map optV))) ⟨same_new hE, upd_same⟩ (fun _ _ _ u => SqL.of (u.1 _ _ fL)) ?_ ?_⟩
      · rintro j v H5 H6 hj ⟨s5, d5⟩ ⟨rfl, hv⟩
        have hj' : j < tw.length := by simpa using hj
        rw [List.getElem?_map, List.getElem?_eq_getElem hj'] at hv
        cases hv
        refine ⟨rfl, rd_yes rfl ?_⟩
        refine ⟨_, rfl, tw[j], 999, rfl, hzl _ (List.getElem_mem hj'), fun H7 s7 => ⟨_, s7 _ _ d5, ?_, (s5.trans s7).mut hE, ?_⟩⟩
        · rw [List.length_map, List.length_map, List.length_take]
          exact Nat.lt_of_le_of_lt (by omega : min j tw.length ≤ 100) (by decide)
        · rw [upd_same, List.take_succ, List.getElem?_eq_getElem hj', List.map_append, List.map_append]
          rfl
      · rintro H5 ⟨s5, d5⟩
        rw [List.length_map, List.take_length] at d5
        have sH := sL.trans s5
        have ha5 := sH.seq ha
        have hb5 := sH.seq hb
        dsimp only
        refine rd_seq (rd_if ?_)
        refine ⟨_, rfl, E1, _, rfl, .inl (SqL.of d5), rfl, flatN _, _, rfl, ?_⟩
        rw [if_neg Bool.false_ne_true, inN]
        have e3 : ∀ x y : Str, w0 = "at" → wr = [x, y] → aimW (w0 :: wr) ns = atOf (sgnIn x 999) (sgnIn y 999) := fun x y h1 h2 => by
          subst h2
          exact (if_neg hc).trans (if_pos h1)
        have e4 : ∀ o x y : Str, w0 = "by" → o ∈ ns → wr = [o, x, y] → aimW (w0 :: wr) ns = byOf o (sgnIn x 999) (sgnIn y 999) := fun o x y h1 h3 h2 => by
          subst h2
          exact (if_neg hc).trans (if_pos ⟨h1, h3⟩)
        have hlen : ∀ n : Nat, n ≠ (w0 :: wr).length → ¬ decide (V.int (((w0 :: wr).map V.str).length : Nat) = V.int (n : Nat)) = true := fun n hn q => hn (by
          have h := V.int.inj (of_decide_eq_true q)
          rw [List.length_map] at h
          omega)
        -- no number, or other words: none
        have bad : aimW (w0 :: wr) ns = none → Q .non H5 := fun e => kn e H5 sH
        by_cases hN : none ∈ tw.map fun x => sgnIn x 999
        · refine Eq.mpr (if_pos (decide_eq_true hN)) ?_
          refine bad ?_
          rcases wr with _ | ⟨x, _ | ⟨y, _ | ⟨z, _ | ⟨u, r⟩⟩⟩⟩
          · rfl
          · rfl
          · have e : tw = [x, y] := eT.symm
            rw [e] at hN
            have e5 : atOf (sgnIn x 999) (sgnIn y 999) = none := by
              simp only [List.map_cons, List.map_nil, List.mem_cons, List.not_mem_nil, or_false] at hN
              rcases hN with h | h
              · rw [← h]; rfl
              · rw [← h]; cases sgnIn x 999 <;> rfl
            refine (if_neg hc).trans ?_
            rw [e5]
            exact ite_self ..
          · have e : tw = [y, z] := eT.symm
            rw [e] at hN
            have e5 : byOf x (sgnIn y 999) (sgnIn z 999) = none := by
              simp only [List.map_cons, List.map_nil, List.mem_cons, List.not_mem_nil, or_false] at hN
              rcases hN with h | h
              · rw [← h]; rfl
              · rw [← h]; cases sgnIn y 999 <;> rfl
            refine (if_neg hc).trans ?_
            rw [e5]
            exact ite_self ..
          · rfl
        · refine Eq.mpr (if_neg (fun q => hN (of_decide_eq_true q))) ?_
          dsimp only [tNext]
          refine ⟨fun σ' H' => σ' = [some (.ref a), some (.ref b), some (.ref E1), none] ∧ H' = H5 ∧ ¬ (w0 = "at" ∧ (w0 :: wr).length = 3), rd_if ?_, ?_⟩
          · refine ⟨_, rfl, a, _, 0, .str w0, rfl, rfl, ha5, at0 _ _, rfl, _, rfl, ?_⟩
            by_cases hA : w0 = "at"
            · refine Eq.mpr (if_pos (decide_eq_true (congrArg V.str hA))) ?_
              refine ⟨_, rfl, a, _, rfl, .inl ha5, rfl, _, rfl, ?_⟩
              by_cases h3 : 3 = (w0 :: wr).length
              · obtain ⟨x, y, rfl⟩ : ∃ x y, wr = [x, y] := by
                  rcases wr with _ | ⟨x, _ | ⟨y, _ | ⟨z, r⟩⟩⟩
                  · cases h3
                  · cases h3
                  · exact ⟨_, _, rfl⟩
                  · simp only [List.length_cons] at h3; omega
                have e : tw = [x, y] := eT.symm
                subst e
                refine Eq.mpr (if_pos (decide_eq_true rfl)) ?_
                have ea := e3 x y hA rfl
                cases hx : sgnIn x 999 with
                | none => exact absurd (by rw [List.map_cons, hx]; exact List.mem_cons_self ..) hN
                | some nx =>
                cases hy : sgnIn y 999 with
                | none => exact absurd (by rw [List.map_cons, List.map_cons, hy]; exact List.mem_cons_of_mem _ (List.mem_cons_self ..)) hN
                | some ny =>
                rw [hx, hy] at ea
                have d5' : H5 E1 = some (.lst [.int nx, .int ny]) := d5.trans (by show some (HO.lst [optV (sgnIn x 999), optV (sgnIn y 999)]) = _; rw [hx, hy]; rfl)
                refine ⟨_, rfl, E1, _, 0, .int nx, rfl, rfl, SqL.of d5', rfl, _, rfl, E1, _, 1, .int ny, rfl, rfl, SqL.of d5', rfl, (by exact (by decide : 3 ≤ sizeLine)), fun p hp => ?_⟩
                exact ks _ ea _ p (sH.trans (same_new hp)) (sH.free hp) upd_same
              · refine Eq.mpr (if_neg (hlen 3 h3)) ?_
                exact ⟨rfl, rfl, fun q => h3 q.2.symm⟩
            · refine Eq.mpr (if_neg (fun q => hA (V.str.inj (of_decide_eq_true q)))) ?_
              exact ⟨rfl, rfl, fun q => hA q.1⟩
          · rintro σ' H' ⟨rfl, rfl, hnA⟩
            refine ⟨fun σ' H2 => H2 = H' ∧ ¬ (w0 = "by" ∧ (w0 :: wr).length = 4 ∧ ∃ o x y, wr = [o, x, y] ∧ o ∈ ns), rd_if ?_, ?_⟩
            · refine ⟨_, rfl, a, _, 0, .str w0, rfl, rfl, ha5, at0 _ _, rfl, _, rfl, ?_⟩
              by_cases hB : w0 = "by"
              · refine Eq.mpr (if_pos (decide_eq_true (congrArg V.str hB))) ?_
                refine ⟨_, rfl, a, _, rfl, .inl ha5, rfl, _, rfl, ?_⟩
                by_cases h4 : 4 = (w0 :: wr).length
                · obtain ⟨o, x, y, rfl⟩ : ∃ o x y, wr = [o, x, y] := by
                    rcases wr with _ | ⟨x, _ | ⟨y, _ | ⟨z, _ | ⟨u, r⟩⟩⟩⟩
                    · cases h4
                    · cases h4
                    · cases h4
                    · exact ⟨_, _, _, rfl⟩
                    · simp only [List.length_cons] at h4; omega
                  have e : tw = [x, y] := eT.symm
                  subst e
                  refine Eq.mpr (if_pos (decide_eq_true rfl)) ?_
                  refine ⟨_, rfl, a, _, 1, .str o, rfl, rfl, ha5, rfl, _, rfl, b, _, rfl, .inl hb5, rfl, flat_strs _, _, rfl, ?_⟩
                  rw [if_neg Bool.false_ne_true, inV_str]
                  by_cases ho : o ∈ ns
                  · refine Eq.mpr (if_pos (decide_eq_true ho)) ?_
                    have ea := e4 o x y hB ho rfl
                    cases hx : sgnIn x 999 with
                    | none => exact absurd (by rw [List.map_cons, hx]; exact List.mem_cons_self ..) hN
                    | some nx =>
                    cases hy : sgnIn y 999 with
                    | none => exact absurd (by rw [List.map_cons, List.map_cons, hy]; exact List.mem_cons_of_mem _ (List.mem_cons_self ..)) hN
                    | some ny =>
                    rw [hx, hy] at ea
                    have d5' : H' E1 = some (.lst [.int nx, .int ny]) := d5.trans (by show some (HO.lst [optV (sgnIn x 999), optV (sgnIn y 999)]) = _; rw [hx, hy]; rfl)
                    refine ⟨_, rfl, a, _, 1, .str o, rfl, rfl, ha5, rfl, _, rfl, E1, _, 0, .int nx, rfl, rfl, SqL.of d5', rfl, _, rfl, E1, _, 1, .int ny, rfl, rfl, SqL.of d5', rfl, (by exact (by decide : 4 ≤ sizeLine)), fun p hp => ?_⟩
                    exact ks _ ea _ p (sH.trans (same_new hp)) (sH.free hp) upd_same
                  · refine Eq.mpr (if_neg (fun q => ho (of_decide_eq_true q))) ?_
                    refine ⟨rfl, fun q => ?_⟩
                    obtain ⟨_, _, o2, x2, y2, e2, h2⟩ := q
                    cases e2
                    exact ho h2
                · refine Eq.mpr (if_neg (hlen 4 h4)) ?_
                  exact ⟨rfl, fun q => h4 q.2.1.symm⟩
              · refine Eq.mpr (if_neg (fun q => hB (V.str.inj (of_decide_eq_true q)))) ?_
                exact ⟨rfl, fun q => hB q.1⟩
            · rintro σ' H2 ⟨rfl, hnB⟩
              refine bad ?_
              rcases wr with _ | ⟨x, _ | ⟨y, _ | ⟨z, _ | ⟨u, r⟩⟩⟩⟩
              · rfl
              · rfl
              · exact (if_neg hc).trans (if_neg fun q => hnA ⟨q, rfl⟩)
              · exact (if_neg hc).trans (if_neg fun q => hnB ⟨q.1, rfl, _, _, _, rfl, q.2⟩)
              · rfl
end
end L2.K40

set_option Elab.async false
set_option linter.all false
set_option maxRecDepth 100000
set_option maxHeartbeats 4000000
namespace L2.K40
open PySem PySem.Spec PyProof.Rows L2.Vx
open PySem.W (Frag)
/-! ### a point's line -/
def aimWords : List Str := ["at", "by", "cross"]
def manyOf (z : Str) : Nat := if z = "by" then 6 else 5
def pointW (ws names : List Str) (hand : Int) : Option (Str × Aim × Int) :=
  match ws with
  | p :: n :: k :: r => if p = "point" ∧ k ∈ aimWords then
      match aimW (((p :: n :: k :: r).drop 2).take (manyOf k - 2)) names, boundW ((p :: n :: k :: r).drop (manyOf k)) hand with
      | some m, some b => if nameIn n = true ∧ n ∉ names then some (n, m, b) else none
      | _, _ => none
    else none
  | _ => none
theorem cut_mid (ws : List Str) {m : Nat} (hm : 2 ≤ m) (hl : 2 ≤ ws.length) : cutV (ws.map V.str) (some 2) (some (m : Nat)) = ((ws.drop 2).take (m - 2)).map V.str := by
  unfold cutV HT.sIx
  rw [List.length_map]
  dsimp only
  rw [if_neg (by omega), if_neg (by decide), show min (2 : Int).toNat ws.length = 2 by show min 2 ws.length = 2; omega, Int.toNat_natCast, List.map_take, List.map_drop]
  have e : min m ws.length - 2 = min (m - 2) (ws.length - 2) := by omega
  rw [e]
  have hd : ((ws.map V.str).drop 2).length = ws.length - 2 := by rw [List.length_drop, List.length_map]
  by_cases h : m - 2 ≤ ws.length - 2
  · rw [Nat.min_eq_left h]
  · rw [Nat.min_eq_right (by omega), List.take_of_length_le (by omega), List.take_of_length_le (by omega)]
theorem cut_from (ws : List Str) (m : Nat) : cutV (ws.map V.str) (some (m : Nat)) none = (ws.drop m).map V.str := by
  unfold cutV HT.sIx
  rw [List.length_map]
  dsimp only
  rw [if_neg (by omega), Int.toNat_natCast, List.map_drop]
  have e : (ws.map V.str).drop (min m ws.length) = (ws.map V.str).drop m := by
    by_cases h : m ≤ ws.length
    · rw [Nat.min_eq_left h]
    · rw [Nat.min_eq_right (by omega), List.drop_of_length_le (by rw [List.length_map]; omega), List.drop_of_length_le (by rw [List.length_map]; omega)]
  rw [e]
  exact List.take_of_length_le (by rw [List.length_drop, List.length_map]; omega)
theorem at2 (x y z : V) (r : List V) : atI (x :: y :: z :: r) 2 = some z := by
  unfold atI ixN
  rw [if_pos (by decide), if_pos (by simp only [List.length_cons]; omega)]
  rfl
section
variable {P : Program} {w : World} {K : Frag} {mg : Str → Option Value} {bs : Heap}
def FxWords (K : Frag) (w : World) (mg : Str → Option Value) : Prop := ∃ (d : Addr) (es : Array DictEntry) (n : Nat), mg "WORDS" = some (.ref d) ∧ KDict K w d es n ∧
  ∀ z : Str, ∃ r, PySem.W.nsIn K d z = some r ∧ (z ∈ aimWords → ∃ t, r = some (.int (manyOf z : Nat) t)) ∧ (z ∉ aimWords → r = none)
def spPoint (K : Frag) : Sp := fun vs H Q _ => ∃ (a b : Addr) (ws ns : List Str) (hand : Int), vs = [.ref a, .ref b, .int hand] ∧ SqL K H a (ws.map V.str) ∧ SqL K H b (ns.map V.str) ∧ (∀ x ∈ ws, x.length ≤ 900000) ∧
  (pointW ws ns hand = none → ∀ H', Same H H' → Q .non H') ∧ ∀ n m c, pointW ws ns hand = some (n, m, c) → ∀ H' q p, Same H H' → H p = none → H q = none → H' p = some (.tup (aimV m)) → H' q = some (.tup [.str n, .ref p, .int c]) → Q (.ref q) H'
theorem scPoint : FnScope ["words", "names", "hand", "many", "aim", "bound"] ["words", "names", "hand"] (defScope sPoint) := ⟨rfl, rfl, rfl, by decide +kernel, rfl, by decide +kernel, by decide +kernel⟩
theorem ok_point {f fA fB fM fX fS fN fC : Addr} {fd fdA fdB fdM fdX fdS fdN fdC : FuncData} (FP : FD K "point_in" sPoint f fd) (F : FxNum mg) (FNm : FxName mg) (FW : FxWords K w mg) (gF : ∃ t, mg "FARTHEST" = some (.int 999 t)) (gB0 : ∃ t, mg "GREATEST_BOUND_plans" = some (.int 99 t))
    (FA : FD K "aim_in" sAim fA fdA) (gA : mg "aim_in" = some (.ref fA)) (bA : Binds K fdA ["words", "names"] [])
    (FB : FD K "bound_in" sBound fB fdB) (gB : mg "bound_in" = some (.ref fB)) (bB : Binds K fdB ["words", "hand"] [])
    (FM : FD K "is_name" sIsName fM fdM) (gM : mg "is_name" = some (.ref fM)) (bM : Binds K fdM ["value"] [])
    (FX : FD K "cross_in" sCross fX fdX) (gX : mg "cross_in" = some (.ref fX)) (bX : Binds K fdX ["words", "names"] [])
    (FS : FD K "signed_number_in" sSgn fS fdS) (gS : mg "signed_number_in" = some (.ref fS)) (bS : Binds K fdS ["word", "most"] [])
    (FN : FD K "number_in" sNum fN fdN) (gN : mg "number_in" = some (.ref fN)) (bN : Binds K fdN ["word", "low", "high"] [])
    (FC : FD K "consists_of" sCons fC fdC) (gC : mg "consists_of" = some (.ref fC)) (bC : Binds K fdC ["text", "signs"] []) : FnOk P w K mg bs CX0 5 f fd ["words", "names", "hand"] (spPoint K) := by
  have sc := scPoint
  have GA : FnOk P w K mg bs CX0 4 fA fdA ["words", "names"] (spAim K) := ok_aim FA F gF FX gX bX FS gS bS FN gN bN FC gC bC
  have GB : FnOk P w K mg bs CX0 3 fB fdB ["words", "hand"] (spBound K) := ok_bound FB F gB0 FN gN bN FC gC bC
  have GM : FnOk P w K mg bs CX0 2 fM fdM ["value"] (spName K) := ok_name FM FNm FC gC bC
  obtain ⟨d, es, n0, gD, KD, look⟩ := FW
  refine FP.ok scPoint (fun vs H Q E h => ?_) (fun cdv A outer s H vs Q E hr h => ?_)
  · obtain ⟨a, b, ws, ns, hand, rfl, _⟩ := h
    rfl
  · obtain ⟨a, b, ws, ns, hand, rfl, ha, hb, hz, kn, ks⟩ := h
    have hr3 : Room 3 (A.deeper (envOfC "point_in" (defScope sPoint) s.heap.objs.size f cdv)) := hr.mono (by decide)
    have hr2 : Room 2 (A.deeper (envOfC "point_in" (defScope sPoint) s.heap.objs.size f cdv)) := hr.mono (by decide)
    refine ⟨_, pss_cons (ps_if (PW.pt (pw_or (pt_cmpR op_lt (pe_callB call_len_seq (by rfl) F.len boot_len (pa_cons (pv 0) pa_nil)) pe_int (nomark _))
          (pw_or (pt_cmpR op_ne (pe_ix ix_list (pv 0) pe_int (fun _ _ => rfl)) pe_str (nomark _))
          (pw_or1 (pt_cmpR (op_notIn_kd KD) (pe_ix ix_list (pv 0) pe_int (fun _ _ => rfl)) (pe_glob (v := .ref d) rfl gD rfl) rfl)))))
        (pss_one (ps_ret pe_non)) pss_nil)
      (pss_cons (ps_set (i := 3) sc.nd rfl (Or.inl rfl) (pe_ix ix_kdict (pe_glob (v := .ref d) rfl gD rfl) (pe_ix ix_list (pv 0) pe_int (fun _ _ => rfl)) (fun _ _ => rfl)))
      (Evl.pss_cut (ps_set (i := 4) sc.nd rfl (Or.inl rfl) (pe_call GA hr (by rfl) gA FA.kp bA .nil pass0 (pa_cons (pe_slice sl_list (pv 0) (po_some pe_int) (po_some (pv 3))) (pa_cons (pv 1) pa_nil))))
      (pss_cons (ps_set (i := 5) sc.nd rfl (Or.inl rfl) (pe_call GB hr3 (by rfl) gB FB.kp bB .nil pass0 (pa_cons (pe_slice sl_list (pv 0) (po_some (pv 3)) po_none) (pa_cons (pv 2) pa_nil))))
      (pss_cons (ps_if (PW.pt (pw_or (pt_not (pt_val (pe_call GM hr2 (by rfl) gM FM.kp bM .nil pass0 (pa_cons (pe_ix ix_list (pv 0) pe_int (fun _ _ => rfl)) pa_nil))))
            (pw_or (pt_cmpR op_in_seq (pe_ix ix_list (pv 0) pe_int (fun _ _ => rfl)) (pv 1) rfl)
            (pw_or (pt_cmpR op_isN (pv 4) pe_non (nomark _)) (pw_or1 (pt_cmpR op_isN (pv 5) pe_non (nomark _)))))))
          (pss_one (ps_ret pe_non)) pss_nil)
      (pss_one (ps_ret (pe_tup (pa_cons (pe_ix ix_list (pv 0) pe_int (fun _ _ => rfl)) (pa_cons (pv 4) (pa_cons (pv 5) pa_nil)))))))))), ?_⟩
    refine rd_seq (rd_if ?_)
    refine ⟨_, rfl, a, _, rfl, .inl ha, _, _, rfl, rfl, _, rfl, ?_⟩
    rcases ws with _ | ⟨p0, _ | ⟨n, _ | ⟨kw, r⟩⟩⟩
    · exact Eq.mpr (if_pos rfl) (kn rfl H (Same.refl H))
    · exact Eq.mpr (if_pos rfl) (kn rfl H (Same.refl H))
    · exact Eq.mpr (if_pos rfl) (kn rfl H (Same.refl H))
    refine Eq.mpr (if_neg (fun q => by have h := of_decide_eq_true q; simp only [List.length_map, List.length_cons] at h; omega)) ?_
    refine ⟨_, rfl, a, _, 0, .str p0, rfl, rfl, ha, at0 _ _, rfl, _, rfl, ?_⟩
    by_cases h1 : p0 = "point"
    case neg =>
      refine Eq.mpr (if_pos (nf (fun q => h1 (V.str.inj q)))) ?_
      exact kn (if_neg fun q => h1 q.1) H (Same.refl H)
    refine Eq.mpr (if_neg (nt (by rw [h1]))) ?_
    obtain ⟨rr, hr1, hr4, hr5⟩ := look kw
    refine ⟨_, rfl, a, _, 2, .str kw, rfl, rfl, ha, at2 _ _ _ _, kw, rr, rfl, rfl, hr1, _, rfl, ?_⟩
    by_cases h2 : kw ∈ aimWords
    case neg =>
      rw [hr5 h2]
      refine Eq.mpr (if_pos rfl) ?_
      exact kn (if_neg fun q => h2 q.2) H (Same.refl H)
    obtain ⟨tk, etk⟩ := hr4 h2
    subst etk
    refine Eq.mpr (if_neg Bool.false_ne_true) ?_
    dsimp only [tNext]
    refine rd_seq (rd_set ?_)
    refine ⟨_, rfl, a, _, 2, .str kw, rfl, rfl, ha, at2 _ _ _ _, ?_⟩
    refine ⟨d, kw, .int (manyOf kw : Nat), rfl, rfl, ⟨es, n0, _, KD.at_, KD.lit, hr1, ⟨_, rfl⟩⟩, ?_⟩
    clear hr1 hr4 hr5
    have hm2 : 5 ≤ manyOf kw ∧ manyOf kw ≤ 6 := by unfold manyOf; split <;> omega
    have epw : pointW (p0 :: n :: kw :: r) ns hand = match aimW (((p0 :: n :: kw :: r).drop 2).take (manyOf kw - 2)) ns, boundW ((p0 :: n :: kw :: r).drop (manyOf kw)) hand with
      | some m, some b => if nameIn n = true ∧ n ∉ ns then some (n, m, b) else none
      | _, _ => none := if_pos ⟨h1, h2⟩
    have hne : ((p0 :: n :: kw :: r).drop 2).take (manyOf kw - 2) ≠ [] := by
      intro q
      have := congrArg List.length q
      rw [List.length_take, List.length_drop] at this
      simp only [List.length_cons, List.length_nil] at this
      omega
    generalize manyOf kw = many at hm2 epw hne ⊢
    dsimp only
    refine ⟨fun σ' H' => ∃ va : V, σ' = [some (.ref a), some (.ref b), some (.int hand), some (.int (many : Nat)), some va, none] ∧ Same H H' ∧
      ((va = .non ∧ aimW (((p0 :: n :: kw :: r).drop 2).take (many - 2)) ns = none) ∨ ∃ m q, va = .ref q ∧ H q = none ∧ H' q = some (.tup (aimV m)) ∧ aimW (((p0 :: n :: kw :: r).drop 2).take (many - 2)) ns = some m), rd_set ?_, ?_⟩
    · refine ⟨_, rfl, _, rfl, _, rfl, _, rfl, a, _, rfl, ha, fun L hL => ?_⟩
      rw [cut_mid _ (by omega) (by simp only [List.length_cons]; omega)]
      have sL := same_new (o := .lst ((((p0 :: n :: kw :: r).drop 2).take (many - 2)).map V.str)) hL
      refine ⟨_, rfl, L, b, _, ns, rfl, SqL.of upd_same, sL.seq hb, hne, fun x hx => hz x (List.mem_of_mem_drop (List.mem_of_mem_take hx)), fun hn H' s' => ?_, fun m hm H' q s' hq hq' => ?_⟩
      · exact ⟨.non, rfl, sL.trans s', .inl ⟨rfl, hn⟩⟩
      · exact ⟨.ref q, rfl, sL.trans s', .inr ⟨m, q, rfl, sL.free hq, hq', hm⟩⟩
    · rintro σ' H1 ⟨va, rfl, s1, hva⟩
      have ha1 := s1.seq ha
      have hb1 := s1.seq hb
      refine rd_seq (rd_set ?_)
      refine ⟨_, rfl, _, rfl, _, rfl, a, _, rfl, ha1, fun L hL => ?_⟩
      rw [cut_from]
      have sL := same_new (o := .lst (((p0 :: n :: kw :: r).drop many).map V.str)) hL
      refine ⟨_, rfl, L, _, hand, rfl, SqL.of upd_same, fun x hx => hz x (List.mem_of_mem_drop hx), fun H2 s2 => ?_⟩
      have s12 := sL.trans s2
      have sH := s1.trans s12
      have ha2 := s12.seq ha1
      have hb2 := s12.seq hb1
      generalize boundW ((p0 :: n :: kw :: r).drop many) hand = bo at epw ⊢
      dsimp only
      refine rd_seq (rd_if ?_)
      refine ⟨_, rfl, a, _, 1, .str n, rfl, rfl, ha2, at1 _ _ _, .str n, rfl, .inr ⟨n, rfl, hz n (by simp), fun H3 s3 => ⟨_, rfl, ?_⟩⟩⟩
      have s23 := sH.trans s3
      have ha3 := s3.seq ha2
      have hb3 := s3.seq hb2
      have bad : ∀ H', Same H3 H' → pointW (p0 :: n :: kw :: r) ns hand = none → Q .non H' := fun H' s' e => kn e H' (s23.trans s')
      cases hnm : nameIn n with
      | false =>
        refine Eq.mpr (if_pos rfl) ?_
        refine bad H3 (Same.refl _) (epw.trans ?_)
        rw [hnm]
        cases aimW (((p0 :: n :: kw :: r).drop 2).take (many - 2)) ns <;> cases bo <;> first | rfl | exact if_neg (fun q => by cases q.1)
      | true =>
        refine Eq.mpr (if_neg (by decide)) ?_
        refine ⟨_, rfl, a, _, 1, .str n, rfl, rfl, ha3, at1 _ _ _, _, rfl, b, _, rfl, .inl hb3, rfl, flat_strs _, _, rfl, ?_⟩
        rw [if_neg Bool.false_ne_true, inV_str]
        by_cases hin : n ∈ ns
        · refine Eq.mpr (if_pos (decide_eq_true hin)) ?_
          refine bad H3 (Same.refl _) (epw.trans ?_)
          cases aimW (((p0 :: n :: kw :: r).drop 2).take (many - 2)) ns <;> cases bo <;> first | rfl | exact if_neg (fun q => q.2 hin)
        · refine Eq.mpr (if_neg (fun q => hin (of_decide_eq_true q))) ?_
          rcases hva with ⟨rfl, ea⟩ | ⟨m, q, rfl, hq0, hq1, ea⟩
          · refine ⟨_, rfl, rfl, _, rfl, ?_⟩
            refine Eq.mpr (if_pos rfl) ?_
            refine bad H3 (Same.refl _) (epw.trans ?_)
            rw [ea]
          · refine ⟨_, rfl, rfl, _, rfl, ?_⟩
            refine Eq.mpr (if_neg (fun z => by cases of_decide_eq_true z)) ?_
            cases bo with
            | none =>
              refine ⟨_, rfl, rfl, _, rfl, ?_⟩
              refine Eq.mpr (if_pos rfl) ?_
              refine bad H3 (Same.refl _) (epw.trans ?_)
              rw [ea]
            | some c =>
              refine ⟨_, rfl, rfl, _, rfl, ?_⟩
              refine Eq.mpr (if_neg (fun z => by cases of_decide_eq_true z)) ?_
              dsimp only [tNext]
              refine ⟨_, rfl, a, _, 1, .str n, rfl, rfl, ha3, at1 _ _ _, _, rfl, _, rfl, (by exact (by decide : 3 ≤ sizeLine)), fun u hu => ?_⟩
              have hq3 := s3 _ _ (s12 _ _ hq1)
              refine ks n m c (epw.trans ?_) _ u q (s23.trans (same_new hu)) hq0 (s23.free hu) ((upd_ne (fun z => by rw [z, hu] at hq3; cases hq3)).trans hq3) upd_same
              rw [ea, hnm]
              exact if_pos ⟨rfl, hin⟩
end
end L2.K40

set_option Elab.async false
set_option linter.all false
set_option maxRecDepth 100000
set_option maxHeartbeats 1000000
namespace L2.K40
open PySem PySem.Spec PyProof.Rows L2.Vx
open PySem.W (Frag)
/-! ### rows with a middle; the lines of a bay -/
theorem seq_mid {t u : TS} {D : Ends} {σ : St} {H : Hp} (C : Hp → Prop) (rest : ∀ Hc, C Hc → u D σ Hc) (here : ∀ N : St → Hp → Prop, (∀ Hc, C Hc → N σ Hc) → t { D with nx := N } σ H) : tSeq t u D σ H := here (u D) fun Hc h => rest Hc h
theorem if_mid {c : TT} {t u : TS} {D : Ends} {σ : St} {H : Hp} (P1 P0 : Hp → Prop) (yes : ∀ Hc, P1 Hc → t D σ Hc) (no : ∀ Hc, P0 Hc → u D σ Hc) (here : ∀ F : Bool → Hp → Prop, (∀ Hc, P1 Hc → F true Hc) → (∀ Hc, P0 Hc → F false Hc) → c σ H F) : tIfS c t u D σ H := by
  refine here (fun b H1 => if b = true then t D σ H1 else u D σ H1) (fun Hc h => ?_) (fun Hc h => ?_)
  · rw [if_pos rfl]
    exact yes Hc h
  · rw [if_neg (by decide)]
    exact no Hc h
theorem viaI {te : TE} {σ : St} {H : Hp} {Q : VK} (n : Int) (key : Q (.int n) H) (ev : ∀ R : VK, R (.int n) H → te σ H R) : te σ H Q := ev Q key
/-- a point that stands ahead: its name, its place -/
abbrev Stt := Str × Int × Int
def startW (ws : List Str) (ss : List Stt) : Option Stt := match ws with
  | [a, n, b, c] => if a = "from" ∧ nameIn n = true ∧ n ∉ ss.map Prod.fst then (match sgnIn b 999, sgnIn c 999 with
      | some x, some y => if ss = [] ∧ ¬ (x = 0 ∧ y = 0) then none else some (n, x, y)
      | _, _ => none)
    else none
  | _ => none
def StAt (H : Hp) (p : Addr) (s : Stt) : Prop := ∃ q, H p = some (.tup [.str s.1, .ref q]) ∧ H q = some (.tup [.int s.2.1, .int s.2.2])
def StsAt (H : Hp) (ps : List Addr) (ss : List Stt) : Prop := ps.length = ss.length ∧ ∀ (i : Nat) (p : Addr) (s : Stt), ps[i]? = some p → ss[i]? = some s → StAt H p s
theorem StAt.map {H H' : Hp} {p : Addr} {s : Stt} (h : StAt H p s) (k : ∀ p vs, H p = some (.tup vs) → H' p = some (.tup vs)) : StAt H' p s := by
  obtain ⟨q, h1, h2⟩ := h
  exact ⟨q, k _ _ h1, k _ _ h2⟩
theorem StsAt.map {H H' : Hp} {ps : List Addr} {ss : List Stt} (h : StsAt H ps ss) (k : ∀ p vs, H p = some (.tup vs) → H' p = some (.tup vs)) : StsAt H' ps ss := ⟨h.1, fun i p s a b => (h.2 i p s a b).map k⟩
theorem tup_same {H H' : Hp} (s : Same H H') : ∀ p vs, H p = some (.tup vs) → H' p = some (.tup vs) := fun _ _ e => s _ _ e
theorem tup_upd {H : Hp} {L : Addr} {xs ys : List V} (e : H L = some (.lst xs)) : ∀ p vs, H p = some (.tup vs) → upd H L (.lst ys) p = some (.tup vs) := fun p vs q => (upd_ne (fun z => by rw [z, e] at q; cases q)).trans q
theorem at3 (x y z u : V) (r : List V) : atI (x :: y :: z :: u :: r) 3 = some u := atI_nat (j := 3) rfl
theorem start_len {ws : List Str} {ss : List Stt} (h : ws.length ≠ 4) : startW ws ss = none := by
  rcases ws with _ | ⟨a, _ | ⟨b, _ | ⟨c, _ | ⟨d, _ | ⟨e, r⟩⟩⟩⟩⟩ <;> first | rfl | exact absurd rfl h
section
variable {P : Program} {w : World} {K : Frag} {mg : Str → Option Value} {bs : Heap}
def spStart (K : Frag) : Sp := fun vs H Q _ => ∃ (a b : Addr) (ws : List Str) (ps : List Addr) (ss : List Stt), vs = [.ref a, .ref b] ∧ SqL K H a (ws.map V.str) ∧ H b = some (.lst (ps.map V.ref)) ∧ StsAt H ps ss ∧ ss.length ≤ 10 ∧ (∀ x ∈ ws, x.length ≤ 900000) ∧
  (startW ws ss = none → ∀ H', Same H H' → Q .non H') ∧ ∀ n x y, startW ws ss = some (n, x, y) → ∀ H' q p, Same H H' → H p = none → H q = none → H' p = some (.tup [.int x, .int y]) → H' q = some (.tup [.str n, .ref p]) → Q (.ref q) H'
theorem scStart : FnScope ["words", "starts", "place", "name", "_"] ["words", "starts"] (defScope sStart) := ⟨rfl, rfl, rfl, by decide +kernel, rfl, by decide +kernel, by decide +kernel⟩
theorem ok_start {f fM fS fN fC : Addr} {fd fdM fdS fdN fdC : FuncData} (FP : FD K "start_in" sStart f fd) (F : FxNum mg) (FNm : FxName mg) (gF : ∃ t, mg "FARTHEST" = some (.int 999 t))
    (FM : FD K "is_name" sIsName fM fdM) (gM : mg "is_name" = some (.ref fM)) (bM : Binds K fdM ["value"] [])
    (FS : FD K "signed_number_in" sSgn fS fdS) (gS : mg "signed_number_in" = some (.ref fS)) (bS : Binds K fdS ["word", "most"] [])
    (FN : FD K "number_in" sNum fN fdN) (gN : mg "number_in" = some (.ref fN)) (bN : Binds K fdN ["word", "low", "high"] [])
    (FC : FD K "consists_of" sCons fC fdC) (gC : mg "consists_of" = some (.ref fC)) (bC : Binds K fdC ["text", "signs"] []) : FnOk P w K mg bs CX0 4 f fd ["words", "starts"] (spStart K) := by
  have sc := scStart
  have GS : FnOk P w K mg bs CX0 3 fS fdS ["word", "most"] spSgn := ok_sgn FS F FN gN bN FC gC bC
  have GM : FnOk P w K mg bs CX0 2 fM fdM ["value"] (spName K) := ok_name FM FNm FC gC bC
  obtain ⟨t9, e9⟩ := gF
  refine FP.ok scStart (fun vs H Q E h => ?_) (fun cdv A outer s H vs Q E hr h => ?_)
  · obtain ⟨a, b, ws, ps, ss, rfl, _⟩ := h
    rfl
  · obtain ⟨a, b, ws, ps, ss, rfl, ha, hb, hss, hl, hlen, kn, ks⟩ := h
    have hr2 : Room 2 (A.deeper (envOfC "start_in" (defScope sStart) s.heap.objs.size f cdv)) := hr.mono (by decide)
    refine ⟨_, pss_cons (ps_if (PW.pt (pw_or (pt_cmpR op_ne (pe_callB call_len_seq (by rfl) F.len boot_len (pa_cons (pv 0) pa_nil)) pe_int (nomark _))
          (pw_or (pt_cmpR op_ne (pe_ix ix_list (pv 0) pe_int (fun _ _ => rfl)) pe_str (nomark _))
          (pw_or (pt_not (pt_val (pe_call GM hr2 (by rfl) gM FM.kp bM .nil pass0 (pa_cons (pe_ix ix_list (pv 0) pe_int (fun _ _ => rfl)) pa_nil))))
          (pw_or1 (pt_cmpR op_in_seq (pe_ix ix_list (pv 0) pe_int (fun _ _ => rfl))
            (pe_lc (own := [("name", 3), ("_", 4)]) (g := gTup K 2 (gCons (gName 3) (gCons (gName 4) gNil))) (by rfl) sc.nd (pi_list (pv 1)) (blkOk_by (N := ["words", "starts", "place", "name", "_"]) (sc := defScope sStart) (by decide +kernel))
              (fun _ _ _ _ _ => pg_tup rfl (pgs_cons (pg_name (i := 3) sc.nd rfl (Or.inl rfl)) (pgs_cons (pg_name (i := 4) sc.nd rfl (Or.inl rfl)) pgs_nil))) (fun _ _ _ _ _ => pts_nil) (fun _ _ _ _ _ => pv 3)) rfl))))))
        (pss_one (ps_ret pe_non)) pss_nil)
      (pss_cons (ps_set (i := 2) sc.nd rfl (Or.inl rfl) (pe_tup (pa_cons (pe_call GS hr (by rfl) gS FS.kp bS .nil pass0 (pa_cons (pe_ix ix_list (pv 0) pe_int (fun _ _ => rfl)) (pa_cons (pe_glob (v := .int 999) rfl e9 ⟨_, rfl⟩) pa_nil)))
          (pa_cons (pe_call GS hr (by rfl) gS FS.kp bS .nil pass0 (pa_cons (pe_ix ix_list (pv 0) pe_int (fun _ _ => rfl)) (pa_cons (pe_glob (v := .int 999) rfl e9 ⟨_, rfl⟩) pa_nil))) pa_nil))))
      (pss_cons (ps_if (pt_cmpR op_in_seq pe_non (pv 2) rfl) (pss_one (ps_ret pe_non)) pss_nil)
      (pss_cons (ps_if (PW.pt (pw_and (pt_cmpR op_eq (pe_callB call_len_seq (by rfl) F.len boot_len (pa_cons (pv 1) pa_nil)) pe_int (nomark _))
          (pw_and1 (pt_cmpR (op_neD hr.units) (pv 2) (pe_tup (pa_cons pe_int (pa_cons pe_int pa_nil))) (nomark _)))))
        (pss_one (ps_ret pe_non)) pss_nil)
      (pss_one (ps_ret (pe_tup (pa_cons (pe_ix ix_list (pv 0) pe_int (fun _ _ => rfl)) (pa_cons (pv 2) pa_nil)))))))), ?_⟩
    have hr0 : startW ws ss = none → ∀ H', Same H H' → Q .non H' := kn
    refine seq_mid (fun Hc => Same H Hc ∧ ∃ n b2 c2 : Str, ws = [("from" : Str), n, b2, c2] ∧ nameIn n = true ∧ n ∉ ss.map Prod.fst) ?_ ?_
    rotate_left
    · intro N hN
      refine rd_if ?_
      refine ⟨_, rfl, a, _, rfl, .inl ha, rfl, _, rfl, ?_⟩
      by_cases h4 : ws.length = 4
      · obtain ⟨w1, n, b2, c2, rfl⟩ : ∃ w1 n b2 c2, ws = [w1, n, b2, c2] := by
          rcases ws with _ | ⟨w1, _ | ⟨n, _ | ⟨b2, _ | ⟨c2, _ | ⟨e, r⟩⟩⟩⟩⟩ <;> first | exact ⟨_, _, _, _, rfl⟩ | (simp at h4)
        refine Eq.mpr (if_neg (nt rfl)) ?_
        refine ⟨_, rfl, a, _, 0, .str w1, rfl, rfl, ha, at0 _ _, rfl, _, rfl, ?_⟩
        have e0 : startW [w1, n, b2, c2] ss = if w1 = "from" ∧ nameIn n = true ∧ n ∉ ss.map Prod.fst then (match sgnIn b2 999, sgnIn c2 999 with
          | some x, some y => if ss = [] ∧ ¬ (x = 0 ∧ y = 0) then none else some (n, x, y)
          | _, _ => none) else none := rfl
        by_cases hw : w1 = "from"
        · refine Eq.mpr (if_neg (nt (congrArg V.str hw))) ?_
          refine ⟨_, rfl, a, _, 1, .str n, rfl, rfl, ha, at1 _ _ _, .str n, rfl, .inr ⟨n, rfl, hlen n (by simp), fun H1 s1 => ⟨_, rfl, ?_⟩⟩⟩
          cases hn : nameIn n with
          | false =>
            refine Eq.mpr (if_pos rfl) ?_
            exact kn (e0.trans (if_neg fun q => by rw [hn] at q; cases q.2.1)) H1 s1
          | true =>
            refine Eq.mpr (if_neg (by decide)) ?_
            refine ⟨_, rfl, a, _, 1, .str n, rfl, rfl, s1.seq ha, at1 _ _ _, _, rfl, b, rfl, ⟨_, SqL.of (s1 _ _ hb)⟩, fun E0 hE => lc_it (walk_list (K := K) (a := b) (xs := ps.map V.ref)) (fun j H' => Same H1 H' ∧ H' E0 = some (.lst (((ss.take j).map Prod.fst).map V.str))) ⟨same_new hE, upd_same⟩ (fun _ _ _ u => SqL.of (u.1 _ _ (s1 _ _ hb))) ?_ ?_⟩
            · rintro j v H5 H6 hj ⟨s5, d5⟩ ⟨rfl, hv⟩
              have hj' : j < ps.length := by simpa using hj
              have hj2 : j < ss.length := by rw [← hss.1]; exact hj'
              rw [List.getElem?_map, List.getElem?_eq_getElem hj'] at hv
              cases hv
              obtain ⟨qq, e1, e2⟩ := (hss.map (tup_same (s1.trans s5))).2 j _ _ (List.getElem?_eq_getElem hj') (List.getElem?_eq_getElem hj2)
              refine ⟨_, _, rfl, SqT.of e1, rfl, _, _, rfl, _, _, rfl, rfl, rfl, rd_yes rfl ?_⟩
              refine ⟨_, rfl, _, d5, ?_, s5.mut hE, ?_⟩
              · rw [List.length_map, List.length_map, List.length_take]
                exact Nat.lt_of_le_of_lt (by omega : min j ss.length ≤ 10) (by decide)
              · rw [upd_same, List.take_succ, List.getElem?_eq_getElem hj2, List.map_append, List.map_append]
                rfl
            · rintro H5 ⟨s5, d5⟩
              rw [List.length_map, hss.1, List.take_length] at d5
              refine ⟨E0, _, rfl, .inl (SqL.of d5), rfl, flat_strs _, _, rfl, ?_⟩
              have ei : inV (.str n) ((ss.map Prod.fst).map V.str) = decide (n ∈ ss.map Prod.fst) := inV_str n _
              by_cases hm : n ∈ ss.map Prod.fst
              · refine Eq.mpr (if_pos (by show inV _ _ = true; rw [ei]; exact decide_eq_true hm)) ?_
                exact kn (e0.trans (if_neg fun q => q.2.2 hm)) H5 (s1.trans s5)
              · refine Eq.mpr (if_neg (by show ¬ inV _ _ = true; rw [ei]; exact fun z => hm (of_decide_eq_true z))) ?_
                exact hN H5 ⟨s1.trans s5, n, b2, c2, by rw [hw], hn, hm⟩
        · refine Eq.mpr (if_pos (nf (fun q => hw (V.str.inj q)))) ?_
          exact kn (e0.trans (if_neg fun q => hw q.1)) H (Same.refl H)
      · refine Eq.mpr (if_pos (nf (fun q => h4 ?_))) ?_
        · have h2 := V.int.inj q
          rw [List.length_map] at h2
          omega
        · exact kn (start_len h4) H (Same.refl H)
    rintro Hc ⟨s1, n, b2, c2, rfl, hn, hm⟩
    have e0 : startW [("from" : Str), n, b2, c2] ss = (match sgnIn b2 999, sgnIn c2 999 with
          | some x, some y => if ss = [] ∧ ¬ (x = 0 ∧ y = 0) then none else some (n, x, y)
          | _, _ => none) := if_pos ⟨rfl, hn, hm⟩
    have ha1 := s1.seq ha
    refine rd_seq (rd_set ?_)
    refine ⟨_, rfl, a, _, 2, .str b2, rfl, rfl, ha1, at2 _ _ _ _, b2, 999, rfl, hlen b2 (by simp), fun H2 s2 => ?_⟩
    refine ⟨_, rfl, a, _, 3, .str c2, rfl, rfl, s2.seq ha1, at3 _ _ _ _ _, c2, 999, rfl, hlen c2 (by simp), fun H3 s3 => ?_⟩
    refine ⟨(by exact (by decide : 2 ≤ sizeLine)), fun T hT => ?_⟩
    have s4 := same_new (o := .tup [optV (sgnIn b2 999), optV (sgnIn c2 999)]) hT
    have f4 : upd H3 T (.tup [optV (sgnIn b2 999), optV (sgnIn c2 999)]) T = some (.tup ([sgnIn b2 999, sgnIn c2 999].map optV)) := upd_same
    have hT0 : H T = none := ((s1.trans s2).trans s3).free hT
    have sA := ((s1.trans s2).trans s3).trans s4
    generalize upd H3 T (.tup [optV (sgnIn b2 999), optV (sgnIn c2 999)]) = H4 at s4 f4 sA ⊢
    dsimp only
    clear s1 s2 s3 s4 ha1
    refine rd_seq (rd_if ?_)
    refine ⟨_, rfl, T, _, rfl, .inr (SqT.of f4), rfl, flatN _, _, rfl, ?_⟩
    cases hx : sgnIn b2 999 with
    | none =>
      refine Eq.mpr (if_pos (by show inV _ _ = true; exact inN.trans (decide_eq_true (by simp)))) ?_
      exact kn (by rw [e0, hx]) H4 sA
    | some x =>
    cases hy : sgnIn c2 999 with
    | none =>
      refine Eq.mpr (if_pos (by show inV _ _ = true; exact inN.trans (decide_eq_true (by simp)))) ?_
      exact kn (by rw [e0, hx, hy]) H4 sA
    | some y =>
    refine Eq.mpr (if_neg (by show ¬ inV _ _ = true; rw [show inV .non ([some x, some y].map optV) = decide (none ∈ [some x, some y]) from inN]; simp)) ?_
    rw [hx, hy] at f4 e0
    dsimp only at e0
    dsimp only [tNext]
    have f4 : H4 T = some (.tup [.int x, .int y]) := f4
    refine seq_mid (fun Hd => Same H4 Hd ∧ ¬ (ss = [] ∧ ¬ (x = 0 ∧ y = 0))) ?_ ?_
    · rintro Hd ⟨s5, hok⟩
      rw [if_neg hok] at e0
      refine ⟨_, rfl, a, _, 1, .str n, rfl, rfl, (sA.trans s5).seq ha, at1 _ _ _, _, rfl, (by exact (by decide : 2 ≤ sizeLine)), fun U hU => ?_⟩
      have f5 := s5 _ _ f4
      exact ks n x y e0 _ U T ((sA.trans s5).trans (same_new hU)) hT0 ((sA.trans s5).free hU) ((upd_ne (fun z => by rw [z, hU] at f5; cases f5)).trans f5) upd_same
    · intro N hN
      refine rd_if ?_
      refine ⟨_, rfl, b, _, rfl, .inl (SqL.of (sA _ _ hb)), rfl, _, rfl, ?_⟩
      by_cases h0 : ss = []
      · have hps : ps = [] := List.length_eq_zero_iff.mp (by rw [hss.1, h0]; rfl)
        refine Eq.mpr (if_pos (by rw [hps]; rfl)) ?_
        refine ⟨_, rfl, (by exact (by decide : 2 ≤ sizeLine)), fun U hU => ?_⟩
        have s5 : Same H4 (upd H4 U (.tup [.int 0, .int 0])) := same_new hU
        have f5 : upd H4 U (.tup [.int 0, .int 0]) U = some (.tup [.int 0, .int 0]) := upd_same
        generalize upd H4 U (.tup [.int 0, .int 0]) = H5 at s5 f5 ⊢
        refine ⟨.tuple [.int x, .int y], .tuple [.int 0, .int 0], .tup (SqT.of (s5 _ _ f4)) (.cons (.int _) (.cons (.int _) .nil)), .tup (SqT.of f5) (.cons (.int _) (.cons (.int _) .nil)), rfl, by decide +kernel, _, rfl, ?_⟩
        have ev : PyData.eqv (.tuple [.int x, .int y]) (.tuple [.int 0, .int 0]) = decide (x = 0 ∧ y = 0) := by
          unfold PyData.eqv PyData.eqvAll PyData.eqvAll PyData.eqvAll PyData.eqv
          rw [Bool.eq_iff_iff, decide_eq_true_iff]
          simp
        rw [ev]
        by_cases hxy : x = 0 ∧ y = 0
        · refine Eq.mpr (if_neg (by rw [decide_eq_true hxy]; decide)) ?_
          exact hN H5 ⟨s5, fun q => q.2 hxy⟩
        · refine Eq.mpr (if_pos (by rw [decide_eq_false hxy]; rfl)) ?_
          exact kn (e0.trans (if_pos ⟨h0, hxy⟩)) H5 (sA.trans s5)
      · refine Eq.mpr (if_neg (fun q => h0 ?_)) ?_
        · have h2 := V.int.inj (of_decide_eq_true q)
          rw [List.length_map, hss.1] at h2
          exact List.length_eq_zero_iff.mp (by omega)
        · exact hN H4 ⟨Same.refl _, fun q => h0 q.1⟩
end
end L2.K40

set_option Elab.async false
set_option linter.all false
set_option maxRecDepth 100000
set_option maxHeartbeats 1000000
namespace L2.K40
open PySem PySem.Spec PyProof.Rows L2.Vx
open PySem.W (Frag)
/-! ### the rows ahead of a bay's own points; a bay's own point; what goes on -/
def startsIn : Nat → List Str → List Stt → List Stt
  | 0, _, ss => ss
  | _ + 1, [], ss => ss
  | k + 1, z :: r, ss => match startW (Txt.split z " ") ss with
    | none => ss
    | some s => startsIn k r (ss ++ [s])
def isAt : Aim → Bool
  | .at _ _ => true
  | _ => false
def ownPt (ws ns : List Str) (hand : Int) : Option (Str × Aim × Int) := match pointW ws ns hand with
  | some (n, m, b) => if isAt m = true ∨ 2 < b then none else some (n, m, b)
  | none => none
def goesW (ws ns : List Str) (many : Nat) : Bool := match ws with
  | [] => false
  | a :: g => decide (a = "goes") && (decide (g.length = many) && (decide g.Nodup && g.all fun u => decide (u ∈ ns)))
theorem cut_take (ws : List Str) (m : Nat) : cutV (ws.map V.str) none (some (m : Nat)) = (ws.take m).map V.str := by
  unfold cutV HT.sIx
  rw [List.length_map]
  dsimp only
  rw [if_neg (by omega), Int.toNat_natCast, List.drop_zero, Nat.sub_zero, List.map_take]
  by_cases h : m ≤ ws.length
  · rw [Nat.min_eq_left h]
  · rw [Nat.min_eq_right (by omega), List.take_of_length_le (by rw [List.length_map]; omega), List.take_of_length_le (by rw [List.length_map]; omega)]
theorem sts_snoc {H : Hp} {ps : List Addr} {ss : List Stt} {p : Addr} {s : Stt} (h : StsAt H ps ss) (e : StAt H p s) : StsAt H (ps ++ [p]) (ss ++ [s]) := by
  refine ⟨by rw [List.length_append, List.length_append, h.1]; rfl, fun i a r x y => ?_⟩
  by_cases hi : i < ps.length
  · rw [List.getElem?_append_left hi] at x
    rw [List.getElem?_append_left (by rw [← h.1]; exact hi)] at y
    exact h.2 i a r x y
  · rw [List.getElem?_append_right (by omega)] at x
    rw [List.getElem?_append_right (by rw [← h.1]; omega)] at y
    rw [h.1] at x
    generalize i - ss.length = j at x y
    cases j with
    | zero =>
      cases x
      cases y
      exact e
    | succ j => cases x
section
variable {P : Program} {w : World} {K : Frag} {mg : Str → Option Value} {bs : Heap}
def spRStarts (K : Frag) : Sp := fun vs H Q _ => ∃ (a : Addr) (zs : List Str), vs = [.ref a] ∧ SqL K H a (zs.map V.str) ∧ (∀ z ∈ zs, z.length ≤ 800000) ∧
  ∀ H' q ps, Same H H' → H q = none → H' q = some (.lst (ps.map V.ref)) → StsAt H' ps (startsIn 2 zs []) → (startsIn 2 zs []).length ≤ 2 → Q (.ref q) H'
theorem scRStarts : FnScope ["lines", "starts", "line", "start"] ["lines"] (defScope sRStarts) := ⟨rfl, rfl, rfl, by decide +kernel, rfl, by decide +kernel, by decide +kernel⟩
theorem ok_rstarts {f fSt fM fS fN fC : Addr} {fd fdSt fdM fdS fdN fdC : FuncData} (FP : FD K "read_starts" sRStarts f fd) (F : FxNum mg) (FNm : FxName mg) (gF : ∃ t, mg "FARTHEST" = some (.int 999 t)) (gMs : ∃ t, mg "MOST_STARTS" = some (.int 2 t))
    (FSt : FD K "start_in" sStart fSt fdSt) (gSt : mg "start_in" = some (.ref fSt)) (bSt : Binds K fdSt ["words", "starts"] [])
    (FM : FD K "is_name" sIsName fM fdM) (gM : mg "is_name" = some (.ref fM)) (bM : Binds K fdM ["value"] [])
    (FS : FD K "signed_number_in" sSgn fS fdS) (gS : mg "signed_number_in" = some (.ref fS)) (bS : Binds K fdS ["word", "most"] [])
    (FN : FD K "number_in" sNum fN fdN) (gN : mg "number_in" = some (.ref fN)) (bN : Binds K fdN ["word", "low", "high"] [])
    (FC : FD K "consists_of" sCons fC fdC) (gC : mg "consists_of" = some (.ref fC)) (bC : Binds K fdC ["text", "signs"] []) : FnOk P w K mg bs CX0 5 f fd ["lines"] (spRStarts K) := by
  have sc := scRStarts
  have GSt : FnOk P w K mg bs CX0 4 fSt fdSt ["words", "starts"] (spStart K) := ok_start FSt F FNm gF FM gM bM FS gS bS FN gN bN FC gC bC
  obtain ⟨t9, e9⟩ := gMs
  refine FP.ok scRStarts (fun vs H Q E h => ?_) (fun cdv A outer s H vs Q E hr h => ?_)
  · obtain ⟨a, zs, rfl, _⟩ := h
    rfl
  · obtain ⟨a, zs, rfl, ha, hlen, k⟩ := h
    refine ⟨_, pss_cons (ps_set (i := 1) sc.nd rfl (Or.inl rfl) (pe_lst pa_nil))
      (pss_cons (ps_for PassesOwn.never rfl (pi_list (pe_slice sl_list (pv 0) po_none (po_some (pe_glob (v := .int 2) rfl e9 ⟨_, rfl⟩)))) (pg_name (i := 2) sc.nd rfl (Or.inl rfl))
        (pss_cons (ps_set (i := 3) sc.nd rfl (Or.inl rfl) (pe_call GSt hr (by rfl) gSt FSt.kp bSt .nil pass0 (pa_cons (pe_split (pv 2) pe_str) (pa_cons (pv 1) pa_nil))))
        (pss_cons (ps_if (pt_cmpR op_isN (pv 3) pe_non (nomark _)) (pss_one ps_break) pss_nil)
        (pss_one (ps_expr (pe_bm PySem.F.plainAttrs_list PySem.F.slot_list_append PySem.F.type_list_append mt_append (pv 1) (pa_cons (pv 3) pa_nil)))))))
      (pss_one (ps_ret (pv 1)))), ?_⟩
    refine rd_seq (rd_set ?_)
    refine ⟨Nat.zero_le _, fun q hq => ?_⟩
    dsimp only
    have q0 : upd H q (.lst []) q = some (.lst []) := upd_same
    have s1 : Same H (upd H q (.lst [])) := same_new hq
    change tSeq _ _ _ _ (upd H q (.lst []))
    generalize upd H q (.lst []) = H1 at q0 s1 ⊢
    refine rd_seq ?_
    refine ⟨_, rfl, _, rfl, a, _, rfl, s1.seq ha, fun p2 hp2 => ?_⟩
    rw [show cutV (zs.map V.str) none (some 2) = (zs.take 2).map V.str from cut_take zs 2]
    have s2 : Same H1 (upd H1 p2 (.lst ((zs.take 2).map V.str))) := same_new hp2
    have f2 : upd H1 p2 (.lst ((zs.take 2).map V.str)) p2 = some (.lst ((zs.take 2).map V.str)) := upd_same
    have n2 : p2 ≠ q := Ne.symm (ne_of_none q0 hp2)
    have q2 := s2 _ _ q0
    generalize upd H1 p2 (.lst ((zs.take 2).map V.str)) = H2 at s2 f2 q2 ⊢
    have sH2 := s1.trans s2
    have hz2 : ∀ z ∈ zs.take 2, z.length ≤ 800000 := fun z hz => hlen z (List.mem_of_mem_take hz)
    have e2 : startsIn 2 zs [] = startsIn 2 (zs.take 2) [] := by
      rcases zs with _ | ⟨z1, _ | ⟨z2, r⟩⟩
      · rfl
      · rfl
      · show startsIn 2 (z1 :: z2 :: r) [] = startsIn 2 [z1, z2] []
        unfold startsIn
        cases startW (Txt.split z1 " ") [] with
        | none => rfl
        | some s =>
          dsimp only
          unfold startsIn
          cases startW (Txt.split z2 " ") ([] ++ [s]) with
          | none => rfl
          | some s2 => rfl
    have l2 : (zs.take 2).length ≤ 2 := by rw [List.length_take]; omega
    rw [e2] at k
    clear e2 ha hlen
    generalize zs.take 2 = ys at f2 hz2 l2 k
    refine ⟨p2, rfl, ⟨_, SqL.of f2⟩, for_it (walk_list (K := K) (a := p2) (xs := ys.map V.str)) (fun i σ H' => ∃ (v2 v3 : Option V) (ps : List Addr) (ss : List Stt), σ = [some (.ref a), some (.ref q), v2, v3] ∧ Same H H' ∧ H' p2 = some (.lst (ys.map V.str)) ∧ H' q = some (.lst (ps.map V.ref)) ∧ StsAt H' ps ss ∧
      startsIn (2 - i) (ys.drop i) ss = startsIn 2 ys [] ∧ ss.length = i) ⟨none, none, [], [], rfl, sH2, f2, q2, ⟨rfl, fun _ _ _ x => by cases x⟩, rfl, rfl⟩ (fun i σ H' _ u => ?_) ?_ ?_⟩
    · obtain ⟨_, _, _, _, _, _, u, _⟩ := u
      exact SqL.of u
    · rintro i v σ H5 H6 hi ⟨v2, v3, ps, ss, rfl, s5, g5, q5, st5, eq, hl⟩ ⟨rfl, hv⟩
      have hi' : i < ys.length := by simpa using hi
      rw [List.getElem?_map, List.getElem?_eq_getElem hi'] at hv
      cases hv
      have hdrop : ys.drop i = ys[i] :: ys.drop (i + 1) := List.drop_eq_getElem_cons hi'
      have hyl := hz2 _ (List.getElem_mem hi')
      have hi2 : 2 - i = (2 - (i + 1)) + 1 := by omega
      rw [hdrop, hi2] at eq
      generalize ys[i] = y at hyl eq ⊢
      refine rd_seq (rd_set ?_)
      refine ⟨_, rfl, ⟨_, rfl⟩, y, _, rfl, rfl, rfl, Nat.le_trans (by omega : y.length + 2 ≤ 1000000) (by decide), fun p5 hp5 => ?_⟩
      have s6 : Same H6 (upd H6 p5 (.lst ((Txt.split y " ").map V.str))) := same_new hp5
      have f6 : upd H6 p5 (.lst ((Txt.split y " ").map V.str)) p5 = some (.lst ((Txt.split y " ").map V.str)) := upd_same
      generalize upd H6 p5 (.lst ((Txt.split y " ").map V.str)) = H7 at s6 f6 ⊢
      have party : ∀ x ∈ Txt.split y " ", x.length ≤ 900000 := fun x hx => Nat.le_trans (split_part (s := 32) (by decide) (by rw [← sp_eq]; exact hx)) (by omega)
      have q6 := s6 _ _ q5
      have st6 := st5.map (tup_same s6)
      refine ⟨_, rfl, p5, q, _, ps, ss, rfl, SqL.of f6, q6, st6, by omega, party, fun hn H8 s8 => ?_, fun n x y2 hs H8 T p8 s8 hp0 hT0 hp hT => ?_⟩
      · dsimp only
        refine rd_seq (rd_if ?_)
        refine ⟨_, rfl, rfl, _, rfl, ?_⟩
        refine Eq.mpr (if_pos rfl) ?_
        have s58 := s6.trans s8
        have e9 : startsIn 2 ys [] = ss := by
          rw [← eq]
          unfold startsIn
          rw [hn]
        refine ⟨_, rfl, k H8 q ps (s5.trans s58) hq (s58 _ _ q5) ?_ ?_⟩
        · rw [e9]
          exact st5.map (tup_same s58)
        · rw [e9]
          omega
      · dsimp only
        refine rd_seq (rd_if ?_)
        refine ⟨_, rfl, rfl, _, rfl, ?_⟩
        refine Eq.mpr (if_neg (fun z => by cases of_decide_eq_true z)) ?_
        dsimp only [tNext]
        have s58 := s6.trans s8
        have q8 := s58 _ _ q5
        refine ⟨_, rfl, .inl ⟨rfl, _, SqL.of q8⟩, _, rfl, q, _, _, rfl, rfl, q8, Nat.lt_of_le_of_lt (by rw [List.length_map, st5.1]; omega : (ps.map V.ref).length ≤ 2) (by decide), ?_⟩
        have st8 := sts_snoc (st5.map (tup_same s58)) (p := T) (s := (n, x, y2)) ⟨p8, hT, hp⟩
        refine ⟨_, _, ps ++ [T], ss ++ [(n, x, y2)], rfl, (s5.trans s58).mut hq, (upd_ne n2).trans (s58 _ _ g5), by rw [upd_same, List.map_append]; rfl, st8.map (tup_upd q8), ?_, by rw [List.length_append, hl]; rfl⟩
        rw [← eq]
        conv => rhs; unfold startsIn
        rw [hs]
    · rintro σ H5 ⟨v2, v3, ps, ss, rfl, s5, g5, q5, st5, eq, hl⟩
      rw [List.length_map] at eq hl
      rw [List.drop_length] at eq
      have e9 : startsIn 2 ys [] = ss := by
        rw [← eq]
        cases 2 - ys.length <;> rfl
      refine ⟨_, rfl, k H5 q ps s5 hq q5 ?_ ?_⟩
      · rw [e9]
        exact st5
      · rw [e9]
        omega
def spOwn (K : Frag) : Sp := fun vs H Q _ => ∃ (a b : Addr) (ws ns : List Str) (hand : Int), vs = [.ref a, .ref b, .int hand] ∧ SqL K H a (ws.map V.str) ∧ SqL K H b (ns.map V.str) ∧ (∀ x ∈ ws, x.length ≤ 900000) ∧
  (ownPt ws ns hand = none → ∀ H', Same H H' → Q .non H') ∧ ∀ n m c, ownPt ws ns hand = some (n, m, c) → ∀ H' q p, Same H H' → H p = none → H q = none → H' p = some (.tup (aimV m)) → H' q = some (.tup [.str n, .ref p, .int c]) → Q (.ref q) H'
theorem scOwn : FnScope ["words", "names", "hand", "point"] ["words", "names", "hand"] (defScope sOwn) := ⟨rfl, rfl, rfl, by decide +kernel, rfl, by decide +kernel, by decide +kernel⟩
theorem aim_head (m : Aim) : ∃ u r, aimV m = .str u :: r ∧ (isAt m = true ↔ u = "at") := by
  cases m with
  | «at» x y => exact ⟨_, _, rfl, by simp [isAt]⟩
  | «by» o x y => exact ⟨_, _, rfl, ⟨fun q => (by cases q), fun q => absurd q (by decide +kernel)⟩⟩
  | cross a b => exact ⟨_, _, rfl, ⟨fun q => (by cases q), fun q => absurd q (by decide +kernel)⟩⟩
theorem ok_own {k0 : Nat} {f fP : Addr} {fd fdP : FuncData} (FP : FD K "own_point_in" sOwn f fd) (gB0 : ∃ t, mg "GREATEST_BOUND_baylines" = some (.int 2 t))
    (GP : FnOk P w K mg bs CX0 k0 fP fdP ["words", "names", "hand"] (spPoint K)) (kP : PySem.W.keepIn K (.ref fP) = true) (gP : mg "point_in" = some (.ref fP)) (bP : Binds K fdP ["words", "names", "hand"] []) : FnOk P w K mg bs CX0 (k0 + 1) f fd ["words", "names", "hand"] (spOwn K) := by
  have sc := scOwn
  obtain ⟨t1, e1⟩ := gB0
  refine FP.ok scOwn (fun vs H Q E h => ?_) (fun cdv A outer s H vs Q E hr h => ?_)
  · obtain ⟨a, b, ws, ns, hand, rfl, _⟩ := h
    rfl
  · obtain ⟨a, b, ws, ns, hand, rfl, ha, hb, hlen, kn, ks⟩ := h
    refine ⟨_, pss_cons (ps_set (i := 3) sc.nd rfl (Or.inl rfl) (pe_call GP hr (by rfl) gP kP bP .nil pass0 (pa_cons (pv 0) (pa_cons (pv 1) (pa_cons (pv 2) pa_nil)))))
      (pss_cons (ps_if (PW.pt (pw_or (pt_cmpR op_isN (pv 3) pe_non (nomark _))
          (pw_or (pt_cmpR op_eq (pe_ix (r := rIxT K) ix_tup (pe_ix (r := rIxT K) ix_tup (pv 3) pe_int (fun _ _ => rfl)) pe_int (fun _ _ => rfl)) pe_str (nomark _))
          (pw_or1 (pt_cmpR op_gt (pe_ix (r := rIxT K) ix_tup (pv 3) pe_int (fun _ _ => rfl)) (pe_glob (v := .int 2) rfl e1 ⟨_, rfl⟩) (nomark _))))))
        (pss_one (ps_ret pe_non)) pss_nil)
      (pss_one (ps_ret (pv 3)))), ?_⟩
    refine rd_seq (rd_set ?_)
    refine ⟨_, rfl, _, rfl, _, rfl, a, b, ws, ns, hand, rfl, ha, hb, hlen, fun hn H1 s1 => ?_, fun n m c hp H1 q p s1 hp0 hq0 hpa hqa => ?_⟩
    · dsimp only
      refine rd_seq (rd_if ?_)
      refine ⟨_, rfl, rfl, _, rfl, ?_⟩
      refine Eq.mpr (if_pos rfl) ?_
      exact kn (by unfold ownPt; rw [hn]) H1 s1
    · dsimp only
      obtain ⟨u, r, eu, hu⟩ := aim_head m
      have e0 : ownPt ws ns hand = if isAt m = true ∨ 2 < c then none else some (n, m, c) := by unfold ownPt; rw [hp]
      refine rd_seq (rd_if ?_)
      refine ⟨_, rfl, rfl, _, rfl, ?_⟩
      refine Eq.mpr (if_neg (fun z => by cases of_decide_eq_true z)) ?_
      refine ⟨_, rfl, q, _, 1, .ref p, rfl, rfl, SqT.of hqa, at1 _ _ _, p, _, 0, .str u, rfl, rfl, SqT.of hpa, by rw [eu]; exact at0 _ _, rfl, _, rfl, ?_⟩
      by_cases h1 : u = "at"
      · refine Eq.mpr (if_pos (decide_eq_true (congrArg V.str h1))) ?_
        exact kn (e0.trans (if_pos (.inl (hu.mpr h1)))) H1 s1
      · refine Eq.mpr (if_neg (fun z => h1 (V.str.inj (of_decide_eq_true z)))) ?_
        refine ⟨_, rfl, q, _, 2, .int c, rfl, rfl, SqT.of hqa, at2 _ _ _ _, _, _, rfl, rfl, _, rfl, ?_⟩
        by_cases h2 : 2 < c
        · refine Eq.mpr (if_pos (decide_eq_true h2)) ?_
          exact kn (e0.trans (if_pos (.inr h2))) H1 s1
        · refine Eq.mpr (if_neg (fun z => h2 (of_decide_eq_true z))) ?_
          exact ⟨_, rfl, ks n m c (e0.trans (if_neg (fun z => z.elim (fun z => h1 (hu.mp z)) h2))) H1 q p s1 hp0 hq0 hpa hqa⟩
def spGoes (K : Frag) : Sp := fun vs H Q _ => ∃ (a b : Addr) (ws ns : List Str) (many : Nat), vs = [.ref a, .ref b, .int many] ∧ SqL K H a (ws.map V.str) ∧ SqL K H b (ns.map V.str) ∧ ws ≠ [] ∧ many ≤ 10 ∧ ∀ H', Same H H' → Q (.bl (goesW ws ns many)) H'
theorem scGoes : FnScope ["words", "names", "many", "going", "name"] ["words", "names", "many"] (defScope sGoes) := ⟨rfl, rfl, rfl, by decide +kernel, rfl, by decide +kernel, by decide +kernel⟩
structure FxGoes (mg : Str → Option Value) : Prop where
  len : mg "len" = none
  set : mg "set" = none
  all : mg "all" = none
theorem ok_goes {f : Addr} {fd : FuncData} (FP : FD K "are_goes" sGoes f fd) (F : FxGoes mg) : FnOk P w K mg bs CX0 1 f fd ["words", "names", "many"] (spGoes K) := by
  have sc := scGoes
  refine FP.ok scGoes (fun vs H Q E h => ?_) (fun cdv A outer s H vs Q E hr h => ?_)
  · obtain ⟨a, b, ws, ns, many, rfl, _⟩ := h
    rfl
  · obtain ⟨a, b, ws, ns, many, rfl, ha, hb, hne, h10, k⟩ := h
    refine ⟨_, pss_cons (ps_set (i := 3) sc.nd rfl (Or.inl rfl) (pe_slice sl_list (pv 0) (po_some pe_int) po_none))
      (pss_cons (ps_if (PW.pt (pw_or (pt_cmpR op_ne (pe_ix ix_list (pv 0) pe_int (fun _ _ => rfl)) pe_str (nomark _))
          (pw_or (pt_cmpR op_ne (pe_callB call_len_seq (by rfl) F.len boot_len (pa_cons (pv 3) pa_nil)) (pv 2) (nomark _))
          (pw_or1 (pt_cmpR op_ne (pe_callB call_lenS (by rfl) F.len boot_len (pa_cons (pe_callTy (cr_setS rfl) (by rfl) F.set boot_set (pa_cons (pv 3) pa_nil)) pa_nil)) (pv 2) (nomark _))))))
        (pss_one (ps_ret pe_bl)) pss_nil)
      (pss_one (ps_ret (pe_callB (cr_all rfl) (by rfl) F.all boot_all (pa_cons
          (pe_lc (own := [("name", 4)]) (g := gName 4) (by rfl) sc.nd (pi_list (pv 3)) (blkOk_by (N := ["words", "names", "many", "going", "name"]) (sc := defScope sGoes) (by decide +kernel))
            (fun _ _ _ _ _ => pg_name (i := 4) sc.nd rfl (Or.inl rfl)) (fun _ _ _ _ _ => pts_nil)
            (fun _ _ _ _ _ => pe_cmpR (r := rIn K false) op_in_seq (pv 4) (pv 1) rfl)) pa_nil))))), ?_⟩
    cases ws with
    | nil => exact absurd rfl hne
    | cons w0 g =>
    have e0 : goesW (w0 :: g) ns many = (decide (w0 = "goes") && (decide (g.length = many) && (decide g.Nodup && g.all fun u => decide (u ∈ ns)))) := rfl
    refine rd_seq (rd_set ?_)
    refine ⟨_, rfl, _, rfl, a, _, rfl, ha, fun q hq => ?_⟩
    have ec : cutV ((w0 :: g).map V.str) (some 1) none = g.map V.str := by
      show ((((w0 :: g).map V.str).drop 1).take (((w0 :: g).map V.str).length - 1)) = g.map V.str
      rw [List.map_cons, List.drop_succ_cons, List.drop_zero, List.length_cons, Nat.add_sub_cancel, List.take_length]
    rw [ec]
    have s1 : Same H (upd H q (.lst (g.map V.str))) := same_new hq
    have f1 : upd H q (.lst (g.map V.str)) q = some (.lst (g.map V.str)) := upd_same
    generalize upd H q (.lst (g.map V.str)) = H1 at s1 f1 ⊢
    dsimp only
    have lg : ((g.map V.str).length : Int) = (g.length : Int) := by rw [List.length_map]
    refine seq_mid (fun Hc => Same H1 Hc ∧ w0 = "goes" ∧ g.length = many ∧ g.Nodup) ?_ ?_
    · rintro Hc ⟨s2, hw, hl, hnd⟩
      rw [e0, decide_eq_true hw, decide_eq_true hl, decide_eq_true hnd, Bool.true_and, Bool.true_and, Bool.true_and] at k
      have f2 := s2 _ _ f1
      refine ⟨_, rfl, q, rfl, ⟨_, SqL.of f2⟩, fun D hD => lc_it (walk_list (K := K) (a := q) (xs := g.map V.str)) (fun j H' => Same Hc H' ∧ H' D = some (.lst (((g.take j).map fun u => decide (u ∈ ns)).map V.bl))) ⟨same_new hD, by rw [upd_same]; rfl⟩ (fun _ _ _ u => SqL.of (u.1 _ _ f2)) ?_ ?_⟩
      · rintro j v H5 H6 hj ⟨s5, d5⟩ ⟨rfl, hv⟩
        have hj' : j < g.length := by simpa using hj
        rw [List.getElem?_map, List.getElem?_eq_getElem hj'] at hv
        cases hv
        refine ⟨rfl, rd_yes rfl ?_⟩
        refine ⟨_, rfl, _, rfl, b, _, rfl, .inl (((s1.trans s2).trans s5).seq hb), rfl, flat_strs _, ?_⟩
        rw [if_neg Bool.false_ne_true, inV_str]
        refine ⟨_, d5, ?_, s5.mut hD, ?_⟩
        · rw [List.length_map, List.length_map, List.length_take]
          exact Nat.lt_of_le_of_lt (by omega : min j g.length ≤ 10) (by decide)
        · rw [upd_same, List.take_succ, List.getElem?_eq_getElem hj', List.map_append, List.map_append]
          rfl
      · rintro H5 ⟨s5, d5⟩
        rw [List.length_map, List.take_length] at d5
        refine ⟨D, _, rfl, SqL.of d5, ?_⟩
        rw [List.all_map]
        exact k H5 ((s1.trans s2).trans s5)
    · intro N hN
      refine rd_if ?_
      refine ⟨_, rfl, a, _, 0, .str w0, rfl, rfl, s1.seq ha, at0 _ _, rfl, _, rfl, ?_⟩
      by_cases hw : w0 = "goes"
      · refine Eq.mpr (if_neg (nt (congrArg V.str hw))) ?_
        refine ⟨_, rfl, q, _, rfl, .inl (SqL.of f1), _, rfl, rfl, _, rfl, ?_⟩
        by_cases hl : g.length = many
        · refine Eq.mpr (if_neg (nt (congrArg V.int (by rw [lg, hl])))) ?_
          refine ⟨_, rfl, q, g, rfl, SqL.of f1, Nat.lt_of_le_of_lt (by omega : g.length + 1 ≤ 20) (by decide), fun D hD => ?_⟩
          generalize hG : upd H1 D _ = H2
          have s2 : Same H1 H2 := by
            rw [← hG]
            exact same_new hD
          have f2 : H2 D = some (SetL P w D g) := by
            rw [← hG]
            exact upd_same
          clear hG
          refine ⟨D, g, rfl, f2, Nat.lt_of_le_of_lt (by omega : g.length ≤ 20) (by decide), _, rfl, rfl, _, rfl, ?_⟩
          have hfe := firsts_eq g
          by_cases hnd : g.Nodup
          · refine Eq.mpr (if_neg (nt (congrArg V.int (by rw [hfe.mpr hnd, hl])))) ?_
            exact hN H2 ⟨s2, hw, hl, hnd⟩
          · refine Eq.mpr (if_pos (nf (fun z => hnd (hfe.mp ?_)))) ?_
            · have := V.int.inj z
              omega
            · have qq := k H2 (s1.trans s2)
              rw [e0, decide_eq_false hnd] at qq
              simp only [Bool.false_and, Bool.and_false] at qq
              exact qq
        · refine Eq.mpr (if_pos (nf (fun z => hl ?_))) ?_
          · have := V.int.inj z
            rw [lg] at this
            omega
          · have qq := k H1 s1
            rw [e0, decide_eq_false hl] at qq
            simp only [Bool.false_and, Bool.and_false] at qq
            exact qq
      · refine Eq.mpr (if_pos (nf (fun z => hw (V.str.inj z)))) ?_
        have qq := k H1 s1
        rw [e0, decide_eq_false hw] at qq
        exact qq
end
end L2.K40

set_option Elab.async false
set_option linter.all false
set_option maxRecDepth 100000
set_option maxHeartbeats 2000000
namespace L2.K40
open PySem PySem.Spec PyProof.Rows L2.Vx
open PySem.W (Frag)
/-! ### the rows of a bay behind the ones that stand ahead -/
structure Clk where
  name : Str
  aim : Aim
  bound : Int
  walls : List (Str × Str)
def WsAt (H : Hp) (ps : List Addr) (wl : List (Str × Str)) : Prop := ps.length = wl.length ∧ ∀ (i : Nat) (p : Addr) (x : Str × Str), ps[i]? = some p → wl[i]? = some x → H p = some (.tup [.str x.1, .str x.2])
def ClkAt (H : Hp) (p : Addr) (c : Clk) : Prop := ∃ (q t : Addr) (qs : List Addr), H p = some (.tup [.str c.name, .ref q, .int c.bound, .ref t]) ∧ H q = some (.tup (aimV c.aim)) ∧ H t = some (.tup (qs.map V.ref)) ∧ WsAt H qs c.walls
def CsAt (H : Hp) (ps : List Addr) (cs : List Clk) : Prop := ps.length = cs.length ∧ ∀ (i : Nat) (p : Addr) (c : Clk), ps[i]? = some p → cs[i]? = some c → ClkAt H p c
theorem snoc_at {α : Type} {F : Addr → α → Prop} {ps : List Addr} {rs : List α} {p : Addr} {r : α} (h : ps.length = rs.length ∧ ∀ (i : Nat) (p : Addr) (r : α), ps[i]? = some p → rs[i]? = some r → F p r) (e : F p r) :
    (ps ++ [p]).length = (rs ++ [r]).length ∧ ∀ (i : Nat) (q : Addr) (u : α), (ps ++ [p])[i]? = some q → (rs ++ [r])[i]? = some u → F q u := by
  refine ⟨by rw [List.length_append, List.length_append, h.1]; rfl, fun i q u a b => ?_⟩
  by_cases hi : i < ps.length
  · rw [List.getElem?_append_left hi] at a
    rw [List.getElem?_append_left (by rw [← h.1]; exact hi)] at b
    exact h.2 i q u a b
  · rw [List.getElem?_append_right (by omega)] at a
    rw [List.getElem?_append_right (by rw [← h.1]; omega), ← h.1] at b
    cases hk : i - ps.length with
    | zero =>
      rw [hk] at a b
      cases a
      cases b
      exact e
    | succ n =>
      rw [hk] at a
      simp at a
theorem WsAt.map {H H' : Hp} {ps : List Addr} {wl : List (Str × Str)} (h : WsAt H ps wl) (k : ∀ p vs, H p = some (.tup vs) → H' p = some (.tup vs)) : WsAt H' ps wl := ⟨h.1, fun i p x a b => k _ _ (h.2 i p x a b)⟩
theorem ClkAt.map {H H' : Hp} {p : Addr} {c : Clk} (h : ClkAt H p c) (k : ∀ p vs, H p = some (.tup vs) → H' p = some (.tup vs)) : ClkAt H' p c := by
  obtain ⟨q, t, qs, h1, h2, h3, h4⟩ := h
  exact ⟨q, t, qs, k _ _ h1, k _ _ h2, k _ _ h3, h4.map k⟩
theorem CsAt.map {H H' : Hp} {ps : List Addr} {cs : List Clk} (h : CsAt H ps cs) (k : ∀ p vs, H p = some (.tup vs) → H' p = some (.tup vs)) : CsAt H' ps cs := ⟨h.1, fun i p x a b => (h.2 i p x a b).map k⟩
def restIn (sn : List Str) (hand : Int) : List Str → List Clk → List (Str × Str) → Option (List Clk × List (Str × Str) × List Str)
  | [], _, _ => none
  | z :: r, cs, wl => match wallW (Txt.split z " ") (sn ++ cs.map Clk.name) with
    | some x => if wl.length < 2 then restIn sn hand r cs (wl ++ [x]) else none
    | none => match ownPt (Txt.split z " ") (sn ++ cs.map Clk.name) hand with
      | some (n, m, b) => if cs.length < 2 then restIn sn hand r (cs ++ [⟨n, m, b, wl⟩]) wl else none
      | none => if r = [] ∧ goesW (Txt.split z " ") (sn ++ cs.map Clk.name) sn.length = true ∧ 0 < cs.length then some (cs, wl, (Txt.split z " ").drop 1) else none
theorem two_test {K : Frag} {σ : St} {H : Hp} {F : Bool → Hp → Prop} {i j : Nat} {v : V} {L : Addr} {xs : List V} {n : Int} (hi : σ[i]? = some (some v)) (hj : σ[j]? = some (some (.ref L))) (hL : SqL K H L xs) (h : F (!decide (v = .non) && decide ((xs.length : Int) < n)) H) :
    (tAnd (tTest (tOp (fun x y H Q => y = V.non ∧ Q (.bl (!decide (x = .non))) H) (tVar i) (tC .non))) (tTest (tOp (rI0 fun i j => .bl (decide (i < j)))
      (tCB (fun xs H Q => ∃ p ys, xs = [V.ref p] ∧ (SqL K H p ys ∨ SqT K H p ys) ∧ Q (.int ys.length) H) (tCons (tVar j) tNil)) (tC (.int n))))) σ H F := by
  refine ⟨_, hi, rfl, _, rfl, ?_⟩
  by_cases hv : v = .non
  · rw [decide_eq_true hv] at h ⊢
    exact Eq.mpr (if_neg (by decide)) h
  · rw [decide_eq_false hv] at h ⊢
    refine Eq.mpr (if_pos rfl) ?_
    exact ⟨_, hj, L, xs, rfl, .inl hL, _, _, rfl, rfl, _, rfl, h⟩
section
variable {P : Program} {w : World} {K : Frag} {mg : Str → Option Value} {bs : Heap}
def spRest (K : Frag) : Sp := fun vs H Q _ => ∃ (a b : Addr) (zs : List Str) (first : Nat) (hand : Int) (sn : List Str) (cs : List Clk) (wl : List (Str × Str)) (gs : List Str), vs = [.ref a, .int first, .int hand, .ref b] ∧ SqL K H a (zs.map V.str) ∧ zs.length ≤ 900000 ∧ (∀ z ∈ zs, z.length ≤ 800000) ∧ first ≤ 10 ∧
  H b = some (.lst (sn.map V.str)) ∧ sn.length ≤ 2 ∧ restIn sn hand zs [] [] = some (cs, wl, gs) ∧
  ∀ H' T L1 L2 G ps qs, Same H H' → H' T = some (.tup [.ref L1, .ref L2, .ref G]) → H' L1 = some (.lst (ps.map V.ref)) → H' L2 = some (.lst (qs.map V.ref)) → H' G = some (.tup (gs.map V.str)) → CsAt H' ps cs → WsAt H' qs wl → Q (.ref T) H'
theorem scRest : FnScope ["lines", "first", "hand", "starts", "clicks", "walls", "goes", "number", "line", "words", "names", "wall", "point", "click"] ["lines", "first", "hand", "starts"] (defScope sRest) := ⟨rfl, rfl, rfl, by decide +kernel, rfl, by decide +kernel, by decide +kernel⟩
structure FxRest (mg : Str → Option Value) : Prop where
  len : mg "len" = none
  enu : mg "enumerate" = none
  tup : mg "tuple" = none
  pts : ∃ t, mg "MOST_POINTS" = some (.int 2 t)
  wls : ∃ t, mg "MOST_WALLS" = some (.int 2 t)
theorem ok_rest {f fO fW fG C fI : Addr} {fd fdO fdW fdG : FuncData} (FP : FD K "read_rest" sRest f fd) (F : FxRest mg) (T : ErrT K C fI) (gBad : mg "BadBay" = some (.ref C))
    (GO : FnOk P w K mg bs CX0 6 fO fdO ["words", "names", "hand"] (spOwn K)) (kO : PySem.W.keepIn K (.ref fO) = true) (gO : mg "own_point_in" = some (.ref fO)) (bO : Binds K fdO ["words", "names", "hand"] [])
    (FWl : FD K "wall_in" sWall fW fdW) (gW : mg "wall_in" = some (.ref fW)) (bW : Binds K fdW ["words", "names"] [])
    (GG : FnOk P w K mg bs CX0 1 fG fdG ["words", "names", "many"] (spGoes K)) (kG : PySem.W.keepIn K (.ref fG) = true) (gG : mg "are_goes" = some (.ref fG)) (bG : Binds K fdG ["words", "names", "many"] []) : FnOk P w K mg bs (L2.CX P w) 7 f fd ["lines", "first", "hand", "starts"] (spRest K) := by
  have sc := scRest
  have GW : FnOk P w K mg bs CX0 1 fW fdW ["words", "names"] (spWall K) := ok_wall FWl F.len
  obtain ⟨t6, e6⟩ := F.pts
  obtain ⟨t4, e4⟩ := F.wls
  refine FP.okX scRest (fun vs H Q E h => ?_) (fun cdv A outer s H vs Q E hr h => ?_)
  · obtain ⟨a, b, zs, n, hand, sn, cs, wl, gs, rfl, _⟩ := h
    rfl
  · obtain ⟨a, b, zs, first, hand, sn, csF, wlF, gsF, rfl, hS, hl, hz, hf, hb, hsn, hrest, kq⟩ := h
    have hr1 : Room 1 (A.deeper (envOfC "read_rest" (defScope sRest) s.heap.objs.size f cdv)) := hr.mono (by decide)
    refine ⟨_, pss_cons (ps_set (i := 4) sc.nd rfl (Or.inl rfl) (pe_lst pa_nil))
      (pss_cons (ps_set (i := 5) sc.nd rfl (Or.inl rfl) (pe_lst pa_nil))
      (pss_cons (ps_set (i := 6) sc.nd rfl (Or.inl rfl) pe_non)
      (pss_cons (ps_for (passes_of rfl) rfl (pi_enumF (by rfl) F.enu (pa_cons (pv 0) (pa_cons (pv 1) pa_nil))) (pg_tup rfl (pgs_cons (pg_name (i := 7) sc.nd rfl (Or.inl rfl)) (pgs_cons (pg_name (i := 8) sc.nd rfl (Or.inl rfl)) pgs_nil)))
        (pss_cons (ps_set (i := 9) sc.nd rfl (Or.inl rfl) (pe_split (pv 8) pe_str))
        (pss_cons (ps_set (i := 10) sc.nd rfl (Or.inl rfl) (pe_op op_cat (pv 3) (pe_lc (own := [("click", 13)]) (g := gName 13) (by rfl) sc.nd (pi_list (pv 4)) (blkOk_by (N := ["lines", "first", "hand", "starts", "clicks", "walls", "goes", "number", "line", "words", "names", "wall", "point", "click"]) (sc := defScope sRest) (by decide +kernel))
            (fun _ _ _ _ _ => pg_name (i := 13) sc.nd rfl (Or.inl rfl)) (fun _ _ _ _ _ => pts_nil)
            (fun _ _ _ _ _ => pe_ix (r := rIxT K) ix_tup (pv 13) pe_int (fun _ _ => rfl)))))
        (Evl.pss_cut (ps_set (i := 11) sc.nd rfl (Or.inl rfl) (pe_call GW hr1 (by rfl) gW FWl.kp bW .nil pass0 (pa_cons (pv 9) (pa_cons (pv 10) pa_nil))))
        (Evl.pss_cut (ps_set (i := 12) sc.nd rfl (Or.inl rfl) (pe_call GO hr (by rfl) gO kO bO .nil pass0 (pa_cons (pv 9) (pa_cons (pv 10) (pa_cons (pv 2) pa_nil)))))
        (pss_cons (ps_if (pt_cmpR op_notN (pv 6) pe_non (nomark _)) (pss_one (ps_err rfl T gBad hr (takes_of rfl rfl rfl rfl) (pa_cons (pv 7) pa_nil))) pss_nil)
        (pss_one (ps_if (PW.pt (pw_and (pt_cmpR op_notN (pv 11) pe_non (nomark _)) (pw_and1 (pt_cmpR op_lt (pe_callB call_len_seq (by rfl) F.len boot_len (pa_cons (pv 5) pa_nil)) (pe_glob (v := .int 2) rfl e4 ⟨_, rfl⟩) (nomark _)))))
          (pss_one (ps_expr (pe_bm PySem.F.plainAttrs_list PySem.F.slot_list_append PySem.F.type_list_append mt_append (pv 5) (pa_cons (pv 11) pa_nil))))
          (pss_one (ps_if (PW.pt (pw_and (pt_cmpR op_notN (pv 12) pe_non (nomark _)) (pw_and1 (pt_cmpR op_lt (pe_callB call_len_seq (by rfl) F.len boot_len (pa_cons (pv 4) pa_nil)) (pe_glob (v := .int 2) rfl e6 ⟨_, rfl⟩) (nomark _)))))
            (pss_one (ps_expr (pe_bm PySem.F.plainAttrs_list PySem.F.slot_list_append PySem.F.type_list_append mt_append (pv 4) (pa_cons (pe_op op_catT (pv 12) (pe_tup (pa_cons (pe_callTy call_tuple_of (by rfl) F.tup boot_tuple (pa_cons (pv 5) pa_nil)) pa_nil))) pa_nil))))
            (pss_one (ps_if (PW.pt (pw_and (pt_val (pe_call GG hr1 (by rfl) gG kG bG .nil pass0 (pa_cons (pv 9) (pa_cons (pv 10) (pa_cons (pe_callB call_len_seq (by rfl) F.len boot_len (pa_cons (pv 3) pa_nil)) pa_nil)))))
                (pw_and1 (pt_cmpR op_gt (pe_callB call_len_seq (by rfl) F.len boot_len (pa_cons (pv 4) pa_nil)) pe_int (nomark _)))))
              (pss_one (ps_set (i := 6) sc.nd rfl (Or.inl rfl) (pe_callTy call_tuple_of (by rfl) F.tup boot_tuple (pa_cons (pe_slice sl_list (pv 9) (po_some pe_int) po_none) pa_nil))))
              (pss_one (ps_err rfl T gBad hr (takes_of rfl rfl rfl rfl) (pa_cons (pv 7) pa_nil)))))))))))))))
      (pss_one (ps_ret (pe_tup (pa_cons (pv 4) (pa_cons (pv 5) (pa_cons (pv 6) pa_nil))))))))), ?_⟩
    refine rd_seq (rd_set ?_)
    refine ⟨Nat.zero_le _, fun L1 hL1 => ?_⟩
    have s1 : Same H (upd H L1 (.lst [])) := same_new hL1
    have f1 : upd H L1 (.lst []) L1 = some (.lst []) := upd_same
    generalize upd H L1 (.lst []) = H1 at s1 f1 ⊢
    dsimp only
    refine rd_seq (rd_set ?_)
    refine ⟨Nat.zero_le _, fun L2 hL2 => ?_⟩
    have n12 : L1 ≠ L2 := ne_of_none f1 hL2
    have s2 : Same H1 (upd H1 L2 (.lst [])) := same_new hL2
    have f2 : upd H1 L2 (.lst []) L2 = some (.lst []) := upd_same
    have f12 := s2 _ _ f1
    have hL20 : H L2 = none := s1.free hL2
    have hL1z : H L1 = none := hL1
    have s12 := s1.trans s2
    generalize upd H1 L2 (.lst []) = H2 at s2 f2 f12 s12 ⊢
    dsimp only
    refine rd_seq (rd_set ?_)
    show tSeq _ _ _ _ H2
    refine rd_seq ?_
    refine ⟨_, rfl, _, rfl, a, _, _, rfl, s12.seq hS, by omega, by omega, for_it (walk_enumF (K := K) (xs := zs.map V.str)) (fun i σ H' => ∃ (v6 : V) (v7 v8 v9 v10 v11 v12 : Option V) (ps qs : List Addr) (cs : List Clk) (wl : List (Str × Str)),
      σ = [some (.ref a), some (.int first), some (.int hand), some (.ref b), some (.ref L1), some (.ref L2), some v6, v7, v8, v9, v10, v11, v12, none] ∧ Same H H' ∧ H' L1 = some (.lst (ps.map V.ref)) ∧ H' L2 = some (.lst (qs.map V.ref)) ∧ CsAt H' ps cs ∧ WsAt H' qs wl ∧ cs.length ≤ 2 ∧ wl.length ≤ 2 ∧
        ((v6 = .non ∧ restIn sn hand (zs.drop i) cs wl = some (csF, wlF, gsF)) ∨ (zs.drop i = [] ∧ cs = csF ∧ wl = wlF ∧ ∃ G, v6 = .ref G ∧ H' G = some (.tup (gsF.map V.str)))))
      ⟨.non, none, none, none, none, none, none, [], [], [], [], rfl, s12, f12, f2, ⟨rfl, fun i p c e => by simp at e⟩, ⟨rfl, fun i p c e => by simp at e⟩, by simp, by simp, .inl ⟨rfl, hrest⟩⟩ (fun i σ H' _ p => ?_) ?_ ?_⟩
    · obtain ⟨_, _, _, _, _, _, _, _, _, _, _, _, u, _⟩ := p
      exact u.seq hS
    · rintro i x σ H3 H4 hi ⟨v6, v7, v8, v9, v10, v11, v12, ps, qs, cs, wl, rfl, sH, eL1, eL2, hcs, hwl, lc, lw, hmode⟩ ⟨T0, x1, y1, rfl, hT, rfl, hx1, hy1⟩
      cases hx1
      have hi' : i < zs.length := by simpa using hi
      have hy2 : y1 = .str zs[i] := by
        dsimp only at hy1
        rw [List.getElem?_map, List.getElem?_eq_getElem hi'] at hy1
        exact (Option.some.inj hy1).symm
      subst hy2
      have hdrop : zs.drop i = zs[i] :: zs.drop (i + 1) := List.drop_eq_getElem_cons hi'
      have hzi : zs[i].length ≤ 800000 := hz _ (List.getElem_mem hi')
      obtain ⟨rfl, eq⟩ : v6 = .non ∧ restIn sn hand (zs.drop i) cs wl = some (csF, wlF, gsF) := by
        rcases hmode with h | ⟨h, _⟩
        · exact h
        · rw [hdrop] at h; cases h
      clear hmode
      generalize zs[i] = z at hdrop hzi ⊢
      rw [hdrop] at eq
      refine ⟨T0, _, rfl, SqT.of upd_same, rfl, _, _, rfl, _, _, rfl, rfl, ?_⟩
      have s3 : Same H3 (upd H3 T0 (.tup [.int (first + (i : Nat)), .str z])) := same_new hT
      generalize upd H3 T0 (.tup [.int (first + (i : Nat)), .str z]) = H4 at s3 ⊢
      dsimp only
      refine rd_seq (rd_set ?_)
      have hz2 : z.length + 2 ≤ sizeLine := Nat.le_trans (by omega : z.length + 2 ≤ 1000000) (by decide)
      refine ⟨_, rfl, ⟨_, rfl⟩, z, _, rfl, rfl, rfl, hz2, fun p9 hp9 => ?_⟩
      have s5 : Same H4 (upd H4 p9 (.lst ((Txt.split z " ").map V.str))) := same_new hp9
      have f7 : upd H4 p9 (.lst ((Txt.split z " ").map V.str)) p9 = some (.lst ((Txt.split z " ").map V.str)) := upd_same
      have part : ∀ x ∈ Txt.split z " ", x.length ≤ 900000 := fun x hx => Nat.le_trans (split_part (s := 32) (by decide) (by rw [← sp_eq]; exact hx)) (by omega)
      have wne : Txt.split z " " ≠ [] := by
        have := split_ne z (s := 32) (by decide)
        rw [← sp_eq] at this
        exact this
      generalize upd H4 p9 (.lst ((Txt.split z " ").map V.str)) = H5 at s5 f7 ⊢
      have s35 := s3.trans s5
      have eL15 := s35 _ _ eL1
      have hcs5 := hcs.map (tup_same s35)
      dsimp only
      refine rd_seq (rd_set ?_)
      refine ⟨_, rfl, _, rfl, L1, rfl, ⟨_, SqL.of eL15⟩, fun D hD => lc_it (walk_list (K := K) (a := L1) (xs := ps.map V.ref)) (fun j H' => Same H5 H' ∧ H' D = some (.lst (((cs.take j).map Clk.name).map V.str))) ⟨same_new hD, upd_same⟩ (fun _ _ _ u => SqL.of (u.1 _ _ eL15)) ?_ ?_⟩
      · rintro j v H6 H7 hj ⟨s6, d6⟩ ⟨rfl, hv⟩
        have hj' : j < ps.length := by simpa using hj
        have hj2 : j < cs.length := by rw [← hcs.1]; exact hj'
        rw [List.getElem?_map, List.getElem?_eq_getElem hj'] at hv
        cases hv
        obtain ⟨q0, t0, qs0, k1, _⟩ := (hcs5.map (tup_same s6)).2 j _ _ (List.getElem?_eq_getElem hj') (List.getElem?_eq_getElem hj2)
        refine ⟨rfl, rd_yes rfl ?_⟩
        refine ⟨_, rfl, _, _, 0, .str cs[j].name, rfl, rfl, SqT.of k1, rfl, _, d6, ?_, s6.mut hD, ?_⟩
        · rw [List.length_map, List.length_map, List.length_take]
          exact Nat.lt_of_le_of_lt (by omega : min j cs.length ≤ 100) (by decide)
        · rw [upd_same, List.take_succ, List.getElem?_eq_getElem hj2, List.map_append, List.map_append]
          rfl
      · rintro H6 ⟨s6, d6⟩
        rw [List.length_map, hcs.1, List.take_length] at d6
        have s36 := s35.trans s6
        have bH6 := (sH.trans s36) _ _ hb
        refine ⟨b, D, _, _, rfl, rfl, bH6, d6, Nat.le_trans (by rw [List.length_map, List.length_map, List.length_map]; omega : _ ≤ 100) (by decide), fun D2 hD2 => ?_⟩
        rw [← List.map_append]
        have sD2 := same_new (o := .lst ((sn ++ cs.map Clk.name).map V.str)) hD2
        have fD2 : upd H6 D2 (.lst ((sn ++ cs.map Clk.name).map V.str)) D2 = some (.lst ((sn ++ cs.map Clk.name).map V.str)) := upd_same
        generalize upd H6 D2 (.lst ((sn ++ cs.map Clk.name).map V.str)) = H6b at sD2 fD2 ⊢
        have f76 := sD2 _ _ (s6 _ _ f7)
        replace s36 := s36.trans sD2
        dsimp only
        -- the wall
        refine ⟨fun σ' H' => ∃ vw : V, σ' = [some (.ref a), some (.int first), some (.int hand), some (.ref b), some (.ref L1), some (.ref L2), some .non, some (.int (first + (i : Nat))), some (.str z), some (.ref p9), some (.ref D2), some vw, v12, none] ∧ Same H6b H' ∧
          ((vw = .non ∧ wallW (Txt.split z " ") (sn ++ cs.map Clk.name) = none) ∨ ∃ x q, vw = .ref q ∧ H' q = some (.tup [.str x.1, .str x.2]) ∧ wallW (Txt.split z " ") (sn ++ cs.map Clk.name) = some x), rd_set ?_, ?_⟩
        · refine ⟨_, rfl, _, rfl, p9, D2, _, _, rfl, SqL.of f76, SqL.of fD2, fun e => ⟨.non, rfl, Same.refl _, .inl ⟨rfl, e⟩⟩, fun x y e q hq => ⟨.ref q, rfl, same_new hq, .inr ⟨(x, y), q, rfl, upd_same, e⟩⟩⟩
        · rintro σ' H7 ⟨vw, rfl, s7, hvw⟩
          -- the point
          refine ⟨fun σ' H' => ∃ vp : V, σ' = [some (.ref a), some (.int first), some (.int hand), some (.ref b), some (.ref L1), some (.ref L2), some .non, some (.int (first + (i : Nat))), some (.str z), some (.ref p9), some (.ref D2), some vw, some vp, none] ∧ Same H7 H' ∧
            ((vp = .non ∧ ownPt (Txt.split z " ") (sn ++ cs.map Clk.name) hand = none) ∨ ∃ n m c q u, vp = .ref u ∧ H' q = some (.tup (aimV m)) ∧ H' u = some (.tup [.str n, .ref q, .int c]) ∧ ownPt (Txt.split z " ") (sn ++ cs.map Clk.name) hand = some (n, m, c)), rd_set ?_, ?_⟩
          · refine ⟨_, rfl, _, rfl, _, rfl, p9, D2, _, _, hand, rfl, SqL.of (s7 _ _ f76), SqL.of (s7 _ _ fD2), part, fun e H' s' => ⟨.non, rfl, s', .inl ⟨rfl, e⟩⟩, fun n m c e H' u q s' _ _ h1 h2 => ⟨.ref u, rfl, s', .inr ⟨n, m, c, q, u, rfl, h1, h2, e⟩⟩⟩
          · rintro σ' H8 ⟨vp, rfl, s8, hvp⟩
            have s38 := (s36.trans s7).trans s8
            have sH8 := sH.trans s38
            have g1 := s38 _ _ eL1
            have g2 := s38 _ _ eL2
            have f8 := s8 _ _ (s7 _ _ f76)
            have fD8 := s8 _ _ (s7 _ _ fD2)
            have hcs8 := hcs.map (tup_same s38)
            have hwl8 := hwl.map (tup_same s38)
            have lps := hcs.1
            have lqs := hwl.1
            have e1 : restIn sn hand (z :: zs.drop (i + 1)) cs wl = (match wallW (Txt.split z " ") (sn ++ cs.map Clk.name) with
              | some x => if wl.length < 2 then restIn sn hand (zs.drop (i + 1)) cs (wl ++ [x]) else none
              | none => match ownPt (Txt.split z " ") (sn ++ cs.map Clk.name) hand with
                | some (n, m, b) => if cs.length < 2 then restIn sn hand (zs.drop (i + 1)) (cs ++ [⟨n, m, b, wl⟩]) wl else none
                | none => if zs.drop (i + 1) = [] ∧ goesW (Txt.split z " ") (sn ++ cs.map Clk.name) sn.length = true ∧ 0 < cs.length then some (cs, wl, (Txt.split z " ").drop 1) else none) := rfl
            rw [e1] at eq
            clear e1
            refine rd_seq (rd_if ?_)
            refine ⟨_, rfl, rfl, _, rfl, ?_⟩
            refine Eq.mpr (if_neg (by decide)) ?_
            dsimp only [tNext]
            refine rd_if ?_
            refine two_test (K := K) rfl rfl (SqL.of g2) ?_
            rw [List.length_map, lqs]
            have nref : ∀ q : Addr, (!decide (V.ref q = V.non)) = true := fun q => nf (fun h => by cases h)
            have nnon : (!decide (V.non = V.non)) = false := by decide
            rcases hvw with ⟨rfl, ew⟩ | ⟨x, q, rfl, hq, ew⟩
            · rw [nnon, Bool.false_and]
              refine Eq.mpr (if_neg Bool.false_ne_true) ?_
              rw [ew] at eq
              dsimp only at eq
              refine rd_if ?_
              refine two_test (K := K) rfl rfl (SqL.of g1) ?_
              rw [List.length_map, lps]
              rcases hvp with ⟨rfl, ep⟩ | ⟨n, m, c, q, u, rfl, hq, hu, ep⟩
              · -- what goes on
                rw [nnon, Bool.false_and]
                refine Eq.mpr (if_neg Bool.false_ne_true) ?_
                rw [ep] at eq
                dsimp only at eq
                have hall : zs.drop (i + 1) = [] ∧ goesW (Txt.split z " ") (sn ++ cs.map Clk.name) sn.length = true ∧ 0 < cs.length := by
                  by_cases h : zs.drop (i + 1) = [] ∧ goesW (Txt.split z " ") (sn ++ cs.map Clk.name) sn.length = true ∧ 0 < cs.length
                  · exact h
                  · rw [if_neg h] at eq; cases eq
                rw [if_pos hall] at eq
                obtain ⟨hend, hgo, hc0⟩ := hall
                obtain ⟨e1, e2, e3⟩ : cs = csF ∧ wl = wlF ∧ (Txt.split z " ").drop 1 = gsF := by cases eq; exact ⟨rfl, rfl, rfl⟩
                refine rd_if ?_
                refine ⟨_, rfl, _, rfl, _, rfl, b, _, rfl, .inl (SqL.of (sH8 _ _ hb)), p9, D2, Txt.split z " ", sn ++ cs.map Clk.name, sn.length, congrArg (fun k : Nat => [V.ref p9, V.ref D2, V.int (k : Int)]) (List.length_map ..), SqL.of f8, SqL.of fD8, wne, by omega, fun H9 s9 => ⟨_, rfl, ?_⟩⟩
                rw [hgo]
                refine Eq.mpr (if_pos rfl) ?_
                refine ⟨_, rfl, L1, _, rfl, .inl (SqL.of (s9 _ _ g1)), _, _, rfl, rfl, _, rfl, ?_⟩
                refine Eq.mpr (if_pos (decide_eq_true (by rw [List.length_map, lps]; omega))) ?_
                refine rd_set ?_
                refine ⟨_, rfl, _, rfl, p9, _, rfl, SqL.of (s9 _ _ f8), fun q3 hq3 => ?_⟩
                have ec : cutV ((Txt.split z " ").map V.str) (some 1) none = ((Txt.split z " ").drop 1).map V.str := by
                  generalize Txt.split z " " = W at wne
                  cases W with
                  | nil => exact absurd rfl wne
                  | cons w0 g =>
                    show ((((w0 :: g).map V.str).drop 1).take (((w0 :: g).map V.str).length - 1)) = g.map V.str
                    rw [List.map_cons, List.drop_succ_cons, List.drop_zero, List.length_cons, Nat.add_sub_cancel, List.take_length]
                rw [ec]
                have sA := same_new (o := .lst (((Txt.split z " ").drop 1).map V.str)) hq3
                have fA : upd H9 q3 (.lst (((Txt.split z " ").drop 1).map V.str)) q3 = some (.lst (((Txt.split z " ").drop 1).map V.str)) := upd_same
                generalize upd H9 q3 (.lst (((Txt.split z " ").drop 1).map V.str)) = HA at sA fA ⊢
                refine ⟨q3, _, rfl, .inl ⟨SqL.of fA, fun G hG => ?_⟩⟩
                have sG := same_new (o := .tup (((Txt.split z " ").drop 1).map V.str)) hG
                have s9G := (s9.trans sA).trans sG
                refine ⟨.ref G, _, _, _, _, _, _, ps, qs, cs, wl, rfl, sH8.trans s9G, s9G _ _ g1, s9G _ _ g2, hcs8.map (tup_same s9G), hwl8.map (tup_same s9G), lc, lw, .inr ⟨hend, e1, e2, G, rfl, by rw [← e3]; exact upd_same⟩⟩
              · -- one more point
                rw [ep] at eq
                dsimp only at eq
                have hc2 : cs.length < 2 := by
                  by_cases h : cs.length < 2
                  · exact h
                  · rw [if_neg h] at eq; cases eq
                rw [if_pos hc2] at eq
                rw [nref, Bool.true_and]
                refine Eq.mpr (if_pos (decide_eq_true (by omega))) ?_
                refine ⟨_, rfl, .inl ⟨rfl, _, SqL.of g1⟩, _, rfl, _, rfl, L2, _, rfl, .inl ⟨SqL.of g2, fun t1 ht1 => ?_⟩⟩
                have sa := same_new (o := .tup (qs.map V.ref)) ht1
                refine ⟨(by exact (by decide : 1 ≤ sizeLine)), fun t2 ht2 => ?_⟩
                have sb := same_new (o := .tup [.ref t1]) ht2
                have sab := sa.trans sb
                have ft1 := sb _ _ (upd_same (H := H8) (a := t1) (o := .tup (qs.map V.ref)))
                have ft2 : upd (upd H8 t1 (.tup (qs.map V.ref))) t2 (.tup [.ref t1]) t2 = some (.tup [.ref t1]) := upd_same
                generalize upd (upd H8 t1 (.tup (qs.map V.ref))) t2 (.tup [.ref t1]) = H9 at sb sab ft1 ft2 ⊢
                refine ⟨u, t2, _, _, rfl, rfl, SqT.of (sab _ _ hu), SqT.of ft2, (fun q => by cases q), (by exact (by decide : 4 ≤ sizeLine)), fun q => (by cases q), fun _ t3 ht3 => ?_⟩
                have sc3 : Same H9 (upd H9 t3 (.tup ([.str n, .ref q, .int c] ++ [.ref t1]))) := same_new ht3
                have ft3 : upd H9 t3 (.tup ([.str n, .ref q, .int c] ++ [.ref t1])) t3 = some (.tup [.str n, .ref q, .int c, .ref t1]) := upd_same
                have ft1' := sc3 _ _ ft1
                have sabc := sab.trans sc3
                refine ⟨L1, _, _, rfl, rfl, sabc _ _ g1, Nat.lt_of_le_of_lt (by rw [List.length_map, lps]; omega : (ps.map V.ref).length ≤ 100) (by decide), ?_⟩
                have k1 := sabc _ _ g1
                have k2 := sabc _ _ g2
                have sHA := sH8.trans sabc
                have hcsA := (hcs8.map (tup_same sabc)).map (tup_upd (ys := (ps ++ [t3]).map V.ref) k1)
                have hwlA := (hwl8.map (tup_same sabc)).map (tup_upd (ys := (ps ++ [t3]).map V.ref) k1)
                have hqA := tup_upd (ys := (ps ++ [t3]).map V.ref) k1 _ _ (sabc _ _ hq)
                have ft3A := tup_upd (ys := (ps ++ [t3]).map V.ref) k1 _ _ ft3
                have ft1A := tup_upd (ys := (ps ++ [t3]).map V.ref) k1 _ _ ft1'
                have em : ps.map V.ref ++ [V.ref t3] = (ps ++ [t3]).map V.ref := by rw [List.map_append]; rfl
                rw [em]
                exact ⟨.non, _, _, _, _, _, _, ps ++ [t3], qs, cs ++ [⟨n, m, c, wl⟩], wl, rfl, sHA.mut hL1z, upd_same, (upd_ne (Ne.symm n12)).trans k2, snoc_at hcsA ⟨q, t1, qs, ft3A, hqA, ft1A, hwlA⟩, hwlA, by rw [List.length_append]; show cs.length + 1 ≤ 2; omega, lw, .inl ⟨rfl, eq⟩⟩
            · -- one more wall
              rw [ew] at eq
              dsimp only at eq
              have hw2 : wl.length < 2 := by
                by_cases h : wl.length < 2
                · exact h
                · rw [if_neg h] at eq; cases eq
              rw [if_pos hw2] at eq
              rw [nref, Bool.true_and]
              refine Eq.mpr (if_pos (decide_eq_true (by omega))) ?_
              have hq8 := s8 _ _ hq
              refine ⟨_, rfl, .inl ⟨rfl, _, SqL.of g2⟩, _, rfl, L2, _, _, rfl, rfl, g2, Nat.lt_of_le_of_lt (by rw [List.length_map, lqs]; omega : (qs.map V.ref).length ≤ 100) (by decide), ?_⟩
              exact ⟨.non, _, _, _, _, _, _, ps, qs ++ [q], cs, wl ++ [x], rfl, sH8.mut hL20, (upd_ne n12).trans g1, by rw [upd_same, List.map_append]; rfl, hcs8.map (tup_upd g2), snoc_at (hwl8.map (tup_upd g2)) (tup_upd g2 _ _ hq8), lc, by rw [List.length_append]; show wl.length + 1 ≤ 2; omega, .inl ⟨rfl, eq⟩⟩
    · rintro σ H3 ⟨v6, v7, v8, v9, v10, v11, v12, ps, qs, cs, wl, rfl, sH, eL1, eL2, hcs, hwl, lc, lw, hmode⟩
      obtain ⟨rfl, rfl, G, rfl, hG⟩ : cs = csF ∧ wl = wlF ∧ ∃ G, v6 = .ref G ∧ H3 G = some (.tup (gsF.map V.str)) := by
        rcases hmode with ⟨_, h⟩ | ⟨_, h⟩
        · rw [List.length_map, List.drop_length] at h; cases h
        · exact h
      refine ⟨_, rfl, _, rfl, _, rfl, (by exact (by decide : 3 ≤ sizeLine)), fun T1 hT1 => ?_⟩
      have sT := same_new (o := .tup [.ref L1, .ref L2, .ref G]) hT1
      exact kq _ T1 L1 L2 G ps qs (sH.trans sT) upd_same (sT _ _ eL1) (sT _ _ eL2) (sT _ _ hG) (hcs.map (tup_same sT)) (hwl.map (tup_same sT))
end
end L2.K40

set_option Elab.async false
set_option linter.all false
set_option maxRecDepth 100000
set_option maxHeartbeats 2000000
namespace L2.K40
open PySem PySem.Spec PyProof.Rows L2.Vx
open PySem.W (Frag)
/-! ### a bay, made of its text -/
abbrev BayR := Int × List Stt × List Clk × List (Str × Str) × List Str
def bayW : List Str → Option BayR
  | [] => none
  | l :: r => match handIn l 2 with
    | none => none
    | some h => match startsIn 2 r [] with
      | [] => none
      | s :: ss => match restIn ((s :: ss).map Prod.fst) h (r.drop (s :: ss).length) [] [] with
        | none => none
        | some (cs, wl, gs) => some (h, s :: ss, cs, wl, gs)
def bayIn (z : Str) : Option BayR := bayW (Txt.split z "\n")
theorem nl_eq2 : ("\n" : Str) = ⟨#[10]⟩ := by decide +kernel
theorem rest_pos : ∀ (zs sn : List Str) (hand : Int) (cs cs2 : List Clk) (wl wl2 : List (Str × Str)) (gs : List Str), restIn sn hand zs cs wl = some (cs2, wl2, gs) → 0 < cs2.length
  | [], _, _, _, _, _, _, _, h => by cases h
  | z :: r, sn, hand, cs, cs2, wl, wl2, gs, h => by
    unfold restIn at h
    split at h
    · split at h
      · exact rest_pos r _ _ _ _ _ _ _ h
      · cases h
    · split at h
      · split at h
        · exact rest_pos r _ _ _ _ _ _ _ h
        · cases h
      · split at h
        · rename_i q
          cases h
          exact q.2.2
        · cases h
theorem starts_le : ∀ (n : Nat) (zs : List Str) (ss : List Stt), (startsIn n zs ss).length ≤ ss.length + n
  | 0, _, ss => Nat.le_refl _
  | n + 1, [], ss => by show ss.length ≤ _; omega
  | n + 1, z :: r, ss => by
    unfold startsIn
    split
    · omega
    · have := starts_le n r (ss ++ [‹Stt›])
      rw [List.length_append, List.length_singleton] at this
      omega
section
variable {P : Program} {w : World} {K : Frag} {mg : Str → Option Value} {bs : Heap}
def spRBay (K : Frag) : Sp := fun vs H Q _ => ∃ (z : Str) (h : Int) (ss : List Stt) (cs : List Clk) (wl : List (Str × Str)) (gs : List Str), vs = [.str z] ∧ z.length ≤ 700000 ∧ bayIn z = some (h, ss, cs, wl, gs) ∧
  ∀ H' T S C W G pss ps qs, Same H H' → H' T = some (.tup [.int h, .ref S, .ref C, .ref W, .ref G]) → H' S = some (.tup (pss.map V.ref)) → StsAt H' pss ss → H' C = some (.tup (ps.map V.ref)) → CsAt H' ps cs → H' W = some (.tup (qs.map V.ref)) → WsAt H' qs wl → H' G = some (.tup (gs.map V.str)) → Q (.ref T) H'
theorem scRBay : FnScope ["text", "lines", "hand", "starts", "clicks", "walls", "goes", "name", "_"] ["text"] (defScope sRBay) := ⟨rfl, rfl, rfl, by decide +kernel, rfl, by decide +kernel, by decide +kernel⟩
structure FxRBay (mg : Str → Option Value) : Prop where
  len : mg "len" = none
  tup : mg "tuple" = none
  most : ∃ t, mg "GREATEST_BOUND_baylines" = some (.int 2 t)
theorem ok_rbay {f fH fS fR C fI : Addr} {fd fdH fdS fdR : FuncData} (FP : FD K "read_bay" sRBay f fd) (F : FxRBay mg) (T : ErrT K C fI) (gBad : mg "BadBay" = some (.ref C))
    (GH : FnOk P w K mg bs CX0 3 fH fdH ["line", "most"] spHand) (kH : PySem.W.keepIn K (.ref fH) = true) (gH : mg "read_hand" = some (.ref fH)) (bH : Binds K fdH ["line", "most"] [])
    (GS : FnOk P w K mg bs CX0 5 fS fdS ["lines"] (spRStarts K)) (kS : PySem.W.keepIn K (.ref fS) = true) (gS : mg "read_starts" = some (.ref fS)) (bS : Binds K fdS ["lines"] [])
    (GR : FnOk P w K mg bs (L2.CX P w) 7 fR fdR ["lines", "first", "hand", "starts"] (spRest K)) (kR : PySem.W.keepIn K (.ref fR) = true) (gR : mg "read_rest" = some (.ref fR)) (bR : Binds K fdR ["lines", "first", "hand", "starts"] []) : FnOk P w K mg bs (L2.CX P w) 8 f fd ["text"] (spRBay K) := by
  have sc := scRBay
  obtain ⟨t9, e9⟩ := F.most
  refine FP.okX scRBay (fun vs H Q E h => ?_) (fun cdv A outer s H vs Q E hr h => ?_)
  · obtain ⟨z, h, ss, cs, wl, gs, rfl, _⟩ := h
    rfl
  · obtain ⟨z, h, ss, cs, wl, gs, rfl, hz, hb, kq⟩ := h
    have hr3 : Room 3 (A.deeper (envOfC "read_bay" (defScope sRBay) s.heap.objs.size f cdv)) := hr.mono (by decide)
    have hr5 : Room 5 (A.deeper (envOfC "read_bay" (defScope sRBay) s.heap.objs.size f cdv)) := hr.mono (by decide)
    refine ⟨_, pss_cons (ps_set (i := 1) sc.nd rfl (Or.inl rfl) (pe_split (pv 0) pe_str))
      (pss_cons (ps_set (i := 2) sc.nd rfl (Or.inl rfl) (pe_call GH hr3 (by rfl) gH kH bH .nil pass0 (pa_cons (pe_ix ix_list (pv 1) pe_int (fun _ _ => rfl)) (pa_cons (pe_glob (v := .int 2) rfl e9 ⟨_, rfl⟩) pa_nil))))
      (pss_cons (ps_if (pt_cmpR op_isN (pv 2) pe_non (nomark _)) (pss_one (ps_err rfl T gBad hr (takes_of rfl rfl rfl rfl) (pa_cons pe_int pa_nil))) pss_nil)
      (pss_cons (ps_set (i := 3) sc.nd rfl (Or.inl rfl) (pe_call GS hr5 (by rfl) gS kS bS .nil pass0 (pa_cons (pe_slice sl_list (pv 1) (po_some pe_int) po_none) pa_nil)))
      (pss_cons (ps_if (pt_cmpR op_eq (pe_callB call_len_seq (by rfl) F.len boot_len (pa_cons (pv 3) pa_nil)) pe_int (nomark _)) (pss_one (ps_err rfl T gBad hr (takes_of rfl rfl rfl rfl) (pa_cons pe_int pa_nil))) pss_nil)
      (pss_cons (ps_asg (pe_callS GR hr (by rfl) gR kR bR (fun σ => passAt (takes_of rfl rfl rfl rfl) σ) (pa_cons (pe_slice sl_list (pv 1) (po_some (pe_op op_add pe_int (pe_callB call_len_seq (by rfl) F.len boot_len (pa_cons (pv 3) pa_nil)))) po_none)
            (pa_cons (pe_op op_add pe_int (pe_callB call_len_seq (by rfl) F.len boot_len (pa_cons (pv 3) pa_nil))) (pa_cons (pv 2) (pa_cons
              (pe_lc (own := [("name", 7), ("_", 8)]) (g := gTup K 2 (gCons (gName 7) (gCons (gName 8) gNil))) (by rfl) sc.nd (pi_list (pv 3)) (blkOk_by (N := ["text", "lines", "hand", "starts", "clicks", "walls", "goes", "name", "_"]) (sc := defScope sRBay) (by decide +kernel))
                (fun _ _ _ _ _ => pg_tup rfl (pgs_cons (pg_name (i := 7) sc.nd rfl (Or.inl rfl)) (pgs_cons (pg_name (i := 8) sc.nd rfl (Or.inl rfl)) pgs_nil))) (fun _ _ _ _ _ => pts_nil) (fun _ _ _ _ _ => pv 7)) pa_nil)))))
          (pg_tup rfl (pgs_cons (pg_name (i := 4) sc.nd rfl (Or.inl rfl)) (pgs_cons (pg_name (i := 5) sc.nd rfl (Or.inl rfl)) (pgs_cons (pg_name (i := 6) sc.nd rfl (Or.inl rfl)) pgs_nil)))))
      (pss_cons (ps_if (pt_cmpR op_isN (pv 6) pe_non (nomark _)) (pss_one (ps_err rfl T gBad hr (takes_of rfl rfl rfl rfl) (pa_cons (pe_op op_add (pe_callB call_len_seq (by rfl) F.len boot_len (pa_cons (pv 1) pa_nil)) pe_int) pa_nil))) pss_nil)
      (pss_one (ps_ret (pe_tup (pa_cons (pv 2) (pa_cons (pe_callTy call_tuple_of (by rfl) F.tup boot_tuple (pa_cons (pv 3) pa_nil)) (pa_cons (pe_callTy call_tuple_of (by rfl) F.tup boot_tuple (pa_cons (pv 4) pa_nil))
        (pa_cons (pe_callTy call_tuple_of (by rfl) F.tup boot_tuple (pa_cons (pv 5) pa_nil)) (pa_cons (pv 6) pa_nil)))))))))))))), ?_⟩
    refine rd_seq (rd_set ?_)
    have hz2 : z.length + 2 ≤ sizeLine := Nat.le_trans (by omega : z.length + 2 ≤ 1000000) (by decide)
    refine ⟨_, rfl, ⟨_, rfl⟩, z, _, rfl, rfl, rfl, hz2, fun p hp => ?_⟩
    have s1 : Same H (upd H p (.lst ((Txt.split z "\n").map V.str))) := same_new hp
    have f1 : upd H p (.lst ((Txt.split z "\n").map V.str)) p = some (.lst ((Txt.split z "\n").map V.str)) := upd_same
    generalize upd H p (.lst ((Txt.split z "\n").map V.str)) = H1 at s1 f1 ⊢
    dsimp only
    have part : ∀ y ∈ Txt.split z "\n", y.length ≤ z.length := fun y hy => split_part (s := 10) (by decide) (by rw [← nl_eq2]; exact hy)
    have cnt : (Txt.split z "\n").length ≤ z.length + 1 := by
      have := split_len z (s := 10) (by decide)
      rw [← nl_eq2] at this
      exact this
    have e0 : bayIn z = bayW (Txt.split z "\n") := rfl
    rw [e0] at hb
    generalize Txt.split z "\n" = W at f1 part cnt hb
    clear e0
    cases W with
    | nil => cases hb
    | cons l r =>
    have e1 : bayW (l :: r) = (match handIn l 2 with
      | none => none
      | some h => match startsIn 2 r [] with
        | [] => none
        | s :: ss => match restIn ((s :: ss).map Prod.fst) h (r.drop (s :: ss).length) [] [] with
          | none => none
          | some (cs, wl, gs) => some (h, s :: ss, cs, wl, gs)) := rfl
    rw [e1] at hb
    clear e1
    refine rd_seq (rd_set ?_)
    refine ⟨_, rfl, p, _, 0, .str l, rfl, rfl, SqL.of f1, at0 _ _, l, 2, rfl, Nat.le_trans (part l (by simp)) (by omega), fun H2 s2 => ?_⟩
    dsimp only
    cases hh : handIn l 2 with
    | none => rw [hh] at hb; cases hb
    | some h0 =>
    rw [hh] at hb
    dsimp only at hb
    refine rd_seq (rd_if ?_)
    refine ⟨_, rfl, rfl, _, rfl, ?_⟩
    refine Eq.mpr (if_neg (fun z => by cases of_decide_eq_true z)) ?_
    dsimp only [tNext]
    rw [show optV (some h0) = V.int h0 from rfl]
    have f2 := s2 _ _ f1
    refine rd_seq (rd_set ?_)
    refine ⟨_, rfl, _, rfl, p, _, rfl, SqL.of f2, fun p2 hp2 => ?_⟩
    rw [show cutV ((l :: r).map V.str) (some 1) none = r.map V.str from cut_from (l :: r) 1]
    have s3 : Same H2 (upd H2 p2 (.lst (r.map V.str))) := same_new hp2
    have f3 : upd H2 p2 (.lst (r.map V.str)) p2 = some (.lst (r.map V.str)) := upd_same
    generalize upd H2 p2 (.lst (r.map V.str)) = H3 at s3 f3 ⊢
    refine ⟨p2, r, rfl, SqL.of f3, fun y hy => Nat.le_trans (part y (List.mem_cons_of_mem _ hy)) (by omega), fun H4 q pss s4 hq0 hq hst hl2 => ?_⟩
    dsimp only
    have sA := (((s1.trans s2).trans s3).trans s4)
    have f4 := s4 _ _ (s3 _ _ f2)
    cases hss : startsIn 2 r [] with
    | nil => rw [hss] at hb; cases hb
    | cons st sr =>
    rw [hss] at hb hst hl2
    dsimp only at hb
    obtain ⟨SS, hSS⟩ : ∃ SS, st :: sr = SS := ⟨_, rfl⟩
    rw [hSS] at hb hst hl2
    have hSSp : 0 < SS.length := by rw [← hSS]; simp
    cases hrr : restIn (SS.map Prod.fst) h0 (r.drop SS.length) [] [] with
    | none => rw [hrr] at hb; cases hb
    | some R =>
    obtain ⟨cs1, wl1, gs1⟩ := R
    rw [hrr] at hb
    dsimp only at hb
    have hb2 := Option.some.inj hb
    have e1 : h0 = h := congrArg (fun x => x.1) hb2
    have e2 : SS = ss := congrArg (fun x => x.2.1) hb2
    have e3 : cs1 = cs := congrArg (fun x => x.2.2.1) hb2
    have e4 : wl1 = wl := congrArg (fun x => x.2.2.2.1) hb2
    have e5 : gs1 = gs := congrArg (fun x => x.2.2.2.2) hb2
    rw [← e1, ← e2, ← e3, ← e4, ← e5] at kq
    have lpss : pss.length = SS.length := hst.1
    refine rd_seq (rd_if ?_)
    refine ⟨_, rfl, q, _, rfl, .inl (SqL.of hq), rfl, _, rfl, ?_⟩
    refine Eq.mpr (if_neg (fun z => by
      have h2 := V.int.inj (of_decide_eq_true z)
      rw [List.length_map, lpss] at h2
      omega)) ?_
    dsimp only [tNext]
    refine rd_seq ?_
    have lq : ((pss.map V.ref).length : Int) = (SS.length : Int) := by rw [List.length_map, lpss]
    refine ⟨_, rfl, _, rfl, q, _, rfl, .inl (SqL.of hq), _, _, rfl, rfl, _, rfl, p, _, rfl, SqL.of f4, fun p6 hp6 => ?_⟩
    have ec : cutV ((l :: r).map V.str) (some ((1 : Int) + ((pss.map V.ref).length : Int))) none = (r.drop SS.length).map V.str := by
      rw [lq, show ((1 : Int) + (SS.length : Int)) = ((1 + SS.length : Nat) : Int) by omega, cut_from, Nat.add_comm, List.drop_succ_cons]
    rw [ec]
    have s5 : Same H4 (upd H4 p6 (.lst ((r.drop SS.length).map V.str))) := same_new hp6
    have f6 : upd H4 p6 (.lst ((r.drop SS.length).map V.str)) p6 = some (.lst ((r.drop SS.length).map V.str)) := upd_same
    have hq5 := s5 _ _ hq
    have hst5 := hst.map (tup_same s5)
    generalize upd H4 p6 (.lst ((r.drop SS.length).map V.str)) = H5 at s5 f6 hq5 hst5 ⊢
    refine ⟨_, rfl, q, _, rfl, .inl (SqL.of hq5), _, _, rfl, rfl, _, rfl, _, rfl, q, rfl, ⟨_, SqL.of hq5⟩, fun E0 hE => lc_it (walk_list (K := K) (a := q) (xs := pss.map V.ref)) (fun j H' => Same H5 H' ∧ H' E0 = some (.lst (((SS.take j).map Prod.fst).map V.str))) ⟨same_new hE, upd_same⟩ (fun _ _ _ u => SqL.of (u.1 _ _ hq5)) ?_ ?_⟩
    · rintro j v H6 H7 hj ⟨s6, d6⟩ ⟨rfl, hv⟩
      have hj' : j < pss.length := by simpa using hj
      have hj2 : j < SS.length := by rw [← lpss]; exact hj'
      rw [List.getElem?_map, List.getElem?_eq_getElem hj'] at hv
      cases hv
      obtain ⟨qq, k1, k2⟩ := (hst5.map (tup_same s6)).2 j _ _ (List.getElem?_eq_getElem hj') (List.getElem?_eq_getElem hj2)
      refine ⟨_, _, rfl, SqT.of k1, rfl, _, _, rfl, _, _, rfl, rfl, rfl, rd_yes rfl ?_⟩
      refine ⟨_, rfl, _, d6, ?_, s6.mut hE, ?_⟩
      · rw [List.length_map, List.length_map, List.length_take]
        exact Nat.lt_of_le_of_lt (by omega : min j SS.length ≤ 10) (by decide)
      · rw [upd_same, List.take_succ, List.getElem?_eq_getElem hj2, List.map_append, List.map_append]
        rfl
    · rintro H6 ⟨s6, d6⟩
      rw [List.length_map, lpss, List.take_length] at d6
      have f66 := s6 _ _ f6
      have e7 : V.int ((2 : Int) + ((pss.map V.ref).length : Int)) = V.int ((2 + SS.length : Nat) : Int) := by rw [lq]; congr 1
      refine ⟨p6, E0, r.drop SS.length, 2 + SS.length, h0, SS.map Prod.fst, cs1, wl1, gs1, (by show [V.ref p6, V.int ((2 : Int) + ((pss.map V.ref).length : Int)), V.int h0, V.ref E0] = _; rw [e7]), SqL.of f66, ?_, fun y hy => Nat.le_trans (part y (List.mem_cons_of_mem _ (List.mem_of_mem_drop hy))) (by omega), by omega, d6, by rw [List.length_map]; exact hl2, hrr, fun H7 T0 L1 L2 G ps qs s7 eT x1 x2 eG hcs hwl => ?_⟩
      · rw [List.length_cons] at cnt
        rw [List.length_drop]
        omega
      refine ⟨T0, _, rfl, SqT.of eT, rfl, _, _, rfl, _, _, rfl, _, _, rfl, rfl, ?_⟩
      dsimp only
      refine rd_seq (rd_if ?_)
      refine ⟨_, rfl, rfl, _, rfl, ?_⟩
      refine Eq.mpr (if_neg (fun z => by cases of_decide_eq_true z)) ?_
      dsimp only [tNext]
      have s57 := (s5.trans s6).trans s7
      have hst7 := hst.map (tup_same s57)
      have hq7 := s57 _ _ hq
      have sA7 := sA.trans s57
      refine ⟨_, rfl, _, rfl, q, _, rfl, .inl ⟨SqL.of hq7, fun tS htS => ?_⟩⟩
      have sS := same_new (o := .tup (pss.map V.ref)) htS
      have fS : upd H7 tS (.tup (pss.map V.ref)) tS = some (.tup (pss.map V.ref)) := upd_same
      generalize upd H7 tS (.tup (pss.map V.ref)) = H8 at sS fS ⊢
      refine ⟨_, rfl, L1, _, rfl, .inl ⟨SqL.of (sS _ _ x1), fun tC htC => ?_⟩⟩
      have sC := same_new (o := .tup (ps.map V.ref)) htC
      have fC : upd H8 tC (.tup (ps.map V.ref)) tC = some (.tup (ps.map V.ref)) := upd_same
      generalize upd H8 tC (.tup (ps.map V.ref)) = H9 at sC fC ⊢
      have s89 := sS.trans sC
      refine ⟨_, rfl, L2, _, rfl, .inl ⟨SqL.of (s89 _ _ x2), fun tW htW => ?_⟩⟩
      have sW := same_new (o := .tup (qs.map V.ref)) htW
      have fW : upd H9 tW (.tup (qs.map V.ref)) tW = some (.tup (qs.map V.ref)) := upd_same
      generalize upd H9 tW (.tup (qs.map V.ref)) = H10 at sW fW ⊢
      refine ⟨_, rfl, (by exact (by decide : 5 ≤ sizeLine)), fun tT htT => ?_⟩
      have sT := same_new (o := .tup [.int h0, .ref tS, .ref tC, .ref tW, .ref G]) htT
      have sE := (s89.trans sW).trans sT
      exact kq _ tT tS tC tW G pss ps qs (sA7.trans sE) upd_same (((sC.trans sW).trans sT) _ _ fS) (hst7.map (tup_same sE)) ((sW.trans sT) _ _ fC) (hcs.map (tup_same sE)) (sT _ _ fW) (hwl.map (tup_same sE)) (sE _ _ eG)
end
end L2.K40

set_option Elab.async false
set_option linter.all false
set_option maxRecDepth 100000
set_option maxHeartbeats 2000000
namespace L2.K40
open PySem PySem.Spec PyProof.Rows L2.Vx
open PySem.W (Frag)
/-! ### a bay's own fields -/
theorem rest_le : ∀ (zs sn : List Str) (hand : Int) (cs cs2 : List Clk) (wl wl2 : List (Str × Str)) (gs : List Str), cs.length ≤ 2 → restIn sn hand zs cs wl = some (cs2, wl2, gs) → cs2.length ≤ 2
  | [], _, _, _, _, _, _, _, _, h => by cases h
  | z :: r, sn, hand, cs, cs2, wl, wl2, gs, l, h => by
    unfold restIn at h
    split at h
    · split at h
      · exact rest_le r _ _ _ _ _ _ _ l h
      · cases h
    · split at h
      · split at h
        · rename_i q
          exact rest_le r _ _ _ _ _ _ _ (by rw [List.length_append]; exact q) h
        · cases h
      · split at h
        · cases h
          exact l
        · cases h
theorem bay_facts {z : Str} {h : Int} {ss : List Stt} {cs : List Clk} {wl : List (Str × Str)} {gs : List Str} (e : bayIn z = some (h, ss, cs, wl, gs)) : ss ≠ [] ∧ ss.length ≤ 2 ∧ 0 < cs.length ∧ cs.length ≤ 2 := by
  have e0 : bayIn z = bayW (Txt.split z "\n") := rfl
  rw [e0] at e
  generalize Txt.split z "\n" = W at e
  cases W with
  | nil => cases e
  | cons l r =>
  have e1 : bayW (l :: r) = (match handIn l 2 with
    | none => none
    | some h => match startsIn 2 r [] with
      | [] => none
      | s :: ss => match restIn ((s :: ss).map Prod.fst) h (r.drop (s :: ss).length) [] [] with
        | none => none
        | some (cs, wl, gs) => some (h, s :: ss, cs, wl, gs)) := rfl
  rw [e1] at e
  cases hh : handIn l 2 with
  | none => rw [hh] at e; cases e
  | some h0 =>
  rw [hh] at e
  dsimp only at e
  have hle := starts_le 2 r []
  cases hss : startsIn 2 r [] with
  | nil => rw [hss] at e; cases e
  | cons st sr =>
  rw [hss] at e hle
  dsimp only at e
  cases hrr : restIn ((st :: sr).map Prod.fst) h0 (r.drop (st :: sr).length) [] [] with
  | none => rw [hrr] at e; cases e
  | some R =>
  obtain ⟨cs1, wl1, gs1⟩ := R
  rw [hrr] at e
  dsimp only at e
  have hb2 := Option.some.inj e
  have e2 : st :: sr = ss := congrArg (fun x => x.2.1) hb2
  have e3 : cs1 = cs := congrArg (fun x => x.2.2.1) hb2
  rw [← e2, ← e3]
  exact ⟨by simp, hle, rest_pos _ _ _ _ _ _ _ _ hrr, rest_le _ _ _ _ _ _ _ _ (by simp) hrr⟩
theorem putF_le {n : Nat} {f : Str} {y : V} : ∀ {fs : List (Str × V)}, fs.length ≤ n → (putF f y fs).length ≤ n + 1 := by
  intro fs
  induction fs generalizing n with
  | nil => simp [putF]
  | cons a r ih =>
    intro h
    unfold putF
    split
    · exact Nat.le_succ_of_le h
    · cases n with
      | zero => simp at h
      | succ n =>
        have := ih (n := n) (by simpa using h)
        simp only [List.length_cons]
        omega
/-- a bay's own fields -/
def bayF (z : Str) (h : Int) (st pt wt gt nt ct : Addr) : List (Str × V) := putF "clicks" (.ref ct) (putF "names" (.ref nt) (putF "goes" (.ref gt) (putF "walls" (.ref wt) (putF "points" (.ref pt) (putF "starts" (.ref st) (putF "hand" (.int h) (putF "text" (.str z) [])))))))
def BayAt (B : Addr) (H : Hp) (x : Addr) (z : Str) (r : BayR) : Prop := ∃ (dx st pt wt gt nt ct : Addr) (pss qs : List Addr), H x = some (.ins B dx (bayF z r.1 st pt wt gt nt ct)) ∧ H st = some (.tup (pss.map V.ref)) ∧ StsAt H pss r.2.1 ∧
  H pt = some (.tup ((r.2.2.1.map Clk.name).map V.str)) ∧ H wt = some (.tup (qs.map V.ref)) ∧ WsAt H qs r.2.2.2.1 ∧ H gt = some (.tup (r.2.2.2.2.map V.str))
theorem BayAt.same {B : Addr} {H H' : Hp} {x : Addr} {z : Str} {r : BayR} (h : BayAt B H x z r) (s : Same H H') : BayAt B H' x z r := by
  obtain ⟨dx, st, pt, wt, gt, nt, ct, pss, qs, h1, h2, h3, h4, h5, h6, h7⟩ := h
  exact ⟨dx, st, pt, wt, gt, nt, ct, pss, qs, s _ _ h1, s _ _ h2, h3.map (tup_same s), s _ _ h4, s _ _ h5, h6.map (tup_same s), s _ _ h7⟩
/-- tuples stay -/
def TK (H H' : Hp) : Prop := ∀ p vs, H p = some (.tup vs) → H' p = some (.tup vs)
theorem TK.ins {H : Hp} {x B d : Addr} {fs gs : List (Str × V)} (e : H x = some (.ins B d fs)) : TK H (upd H x (.ins B d gs)) := fun p vs q => (upd_ne (fun z => by rw [z, e] at q; cases q)).trans q
theorem TK.trans {A B C : Hp} (h : TK A B) (k : TK B C) : TK A C := fun p vs q => k _ _ (h _ _ q)
section
variable {P : Program} {w : World} {K : Frag} {mg : Str → Option Value} {bs : Heap}
def spBNew (K : Frag) (B : Addr) : Sp := fun vs H Q _ => ∃ (x dx : Addr) (z : Str) (r : BayR), vs = [.ref x, .str z] ∧ H x = some (.ins B dx []) ∧ z.length ≤ 700000 ∧ bayIn z = some r ∧ ∀ H', But x H H' → BayAt B H' x z r → Q .non H'
theorem scBNew : FnScope ["self", "text", "hand", "starts", "clicks", "walls", "goes", "click", "name", "_"] ["self", "text"] (defScope sBInit) := ⟨rfl, rfl, rfl, by decide +kernel, rfl, by decide +kernel, by decide +kernel⟩
structure FxBNew (K : Frag) (mg : Str → Option Value) (B : Addr) : Prop where
  cls : Cls K B
  nT : NoAttr K B "text"
  nH : NoAttr K B "hand"
  nS : NoAttr K B "starts"
  nP : NoAttr K B "points"
  nW : NoAttr K B "walls"
  nG : NoAttr K B "goes"
  nN : NoAttr K B "names"
  nC : NoAttr K B "clicks"
  isi : mg "isinstance" = none
  str : mg "str" = none
  tup : mg "tuple" = none
theorem ok_bnew {f fR B C fI : Addr} {fd fdR : FuncData} (FP : Fun K "__init__" "Bay.__init__" sBInit f fd) (FI : FxBNew K mg B) (T : ErrT K C fI) (gBad : mg "BadBay" = some (.ref C))
    (GR : FnOk P w K mg bs (L2.CX P w) 8 fR fdR ["text"] (spRBay K)) (kR : PySem.W.keepIn K (.ref fR) = true) (gR : mg "read_bay" = some (.ref fR)) (bR : Binds K fdR ["text"] []) : FnOk P w K mg bs (L2.CX P w) 9 f fd ["self", "text"] (spBNew K B) := by
  have sc := scBNew
  refine FP.okX scBNew (fun vs H Q E h => ?_) (fun cdv A outer s H vs Q E hr h => ?_)
  · obtain ⟨x, dx, z, r, rfl, _⟩ := h
    rfl
  · obtain ⟨x, dx, z, ⟨h, ss, cs, wl, gs⟩, rfl, hx, hz, hb, kq⟩ := h
    obtain ⟨hs1, hs2, hc1, hc2⟩ := bay_facts hb
    refine ⟨_, pss_cons (ps_if (pt_not (pt_val (pe_callB call_isi (by rfl) FI.isi boot_isinstance (pa_cons (pv 1) (pa_cons (pe_bltn (v := .ty "str") (by rfl) FI.str boot_str rfl) pa_nil)))))
        (pss_one (ps_err rfl T gBad hr (takes_of rfl rfl rfl rfl) (pa_cons pe_int pa_nil))) pss_nil)
      (pss_cons (ps_asg (pe_callS GR hr (by rfl) gR kR bR (fun σ => passAt (takes_of rfl rfl rfl rfl) σ) (pa_cons (pv 1) pa_nil))
          (pg_tup rfl (pgs_cons (pg_name (i := 2) sc.nd rfl (Or.inl rfl)) (pgs_cons (pg_name (i := 3) sc.nd rfl (Or.inl rfl)) (pgs_cons (pg_name (i := 4) sc.nd rfl (Or.inl rfl)) (pgs_cons (pg_name (i := 5) sc.nd rfl (Or.inl rfl)) (pgs_cons (pg_name (i := 6) sc.nd rfl (Or.inl rfl)) pgs_nil)))))))
      (pss_cons (ps_fld (pv 0) (pv 1) rfl)
      (pss_cons (ps_fld (pv 0) (pv 2) rfl)
      (pss_cons (ps_fld (pv 0) (pv 3) rfl)
      (pss_cons (ps_fld (pv 0) (pe_callTy call_tuple_of (by rfl) FI.tup boot_tuple (pa_cons (pe_lc (own := [("click", 7)]) (g := gName 7) (by rfl) sc.nd (pi_tup (pv 4)) (blkOk_by (N := ["self", "text", "hand", "starts", "clicks", "walls", "goes", "click", "name", "_"]) (sc := defScope sBInit) (by decide +kernel))
            (fun _ _ _ _ _ => pg_name (i := 7) sc.nd rfl (Or.inl rfl)) (fun _ _ _ _ _ => pts_nil)
            (fun _ _ _ _ _ => pe_ix (r := rIxT K) ix_tup (pv 7) pe_int (fun _ _ => rfl))) pa_nil)) rfl)
      (pss_cons (ps_fld (pv 0) (pv 5) rfl)
      (pss_cons (ps_fld (pv 0) (pv 6) rfl)
      (pss_cons (ps_fld (pv 0) (pe_op op_catT (pe_callTy call_tuple_of (by rfl) FI.tup boot_tuple (pa_cons (pe_lc (own := [("name", 8), ("_", 9)]) (g := gTup K 2 (gCons (gName 8) (gCons (gName 9) gNil))) (by rfl) sc.nd (pi_tup (pv 3)) (blkOk_by (N := ["self", "text", "hand", "starts", "clicks", "walls", "goes", "click", "name", "_"]) (sc := defScope sBInit) (by decide +kernel))
            (fun _ _ _ _ _ => pg_tup rfl (pgs_cons (pg_name (i := 8) sc.nd rfl (Or.inl rfl)) (pgs_cons (pg_name (i := 9) sc.nd rfl (Or.inl rfl)) pgs_nil))) (fun _ _ _ _ _ => pts_nil) (fun _ _ _ _ _ => pv 8)) pa_nil)) (pe_fld (pv 0) rfl)) rfl)
      (pss_one (ps_fld (pv 0) (pv 4) rfl)))))))))), ?_⟩
    refine rd_seq (rd_if ?_)
    refine ⟨_, rfl, .str z, .ty "str", .type "str", _, true, rfl, .ty "str", .base (.str z), kit_ty (by decide +kernel), _, rfl, ?_⟩
    refine Eq.mpr (if_neg (by decide)) ?_
    dsimp only [tNext]
    refine rd_seq ?_
    refine ⟨_, rfl, z, h, ss, cs, wl, gs, rfl, hz, hb, fun H1 T0 S C1 W G pss ps qs s1 eT eS hst eC hcs eW hwl eG => ?_⟩
    refine ⟨T0, _, rfl, SqT.of eT, rfl, _, _, rfl, _, _, rfl, _, _, rfl, _, _, rfl, _, _, rfl, rfl, ?_⟩
    dsimp only
    have hx1 := s1 _ _ hx
    have lpss : pss.length = ss.length := hst.1
    have lps : ps.length = cs.length := hcs.1
    refine rd_seq ?_
    refine ⟨_, rfl, _, rfl, x, B, dx, [], rfl, hx1, FI.cls, FI.nT, by simp, ?_⟩
    dsimp only
    refine rd_seq ?_
    refine ⟨_, rfl, _, rfl, x, B, dx, _, rfl, upd_same, FI.cls, FI.nH, Nat.lt_of_le_of_lt (putF_le (n := 0) (by simp)) (by decide), ?_⟩
    dsimp only
    refine rd_seq ?_
    refine ⟨_, rfl, _, rfl, x, B, dx, _, rfl, upd_same, FI.cls, FI.nS, Nat.lt_of_le_of_lt (putF_le (putF_le (n := 0) (by simp))) (by decide), ?_⟩
    dsimp only
    have b0 : But x H H1 := But.of s1
    have fx : upd (upd (upd H1 x (.ins B dx (putF "text" (.str z) []))) x (.ins B dx (putF "hand" (.int h) (putF "text" (.str z) [])))) x (.ins B dx (putF "starts" (.ref S) (putF "hand" (.int h) (putF "text" (.str z) [])))) x = some (.ins B dx (putF "starts" (.ref S) (putF "hand" (.int h) (putF "text" (.str z) [])))) := upd_same
    have bb : But x H1 (upd (upd (upd H1 x (.ins B dx (putF "text" (.str z) []))) x (.ins B dx (putF "hand" (.int h) (putF "text" (.str z) [])))) x (.ins B dx (putF "starts" (.ref S) (putF "hand" (.int h) (putF "text" (.str z) []))))) := (But.upd.trans But.upd).trans But.upd
    have tt : TK H1 (upd (upd (upd H1 x (.ins B dx (putF "text" (.str z) []))) x (.ins B dx (putF "hand" (.int h) (putF "text" (.str z) [])))) x (.ins B dx (putF "starts" (.ref S) (putF "hand" (.int h) (putF "text" (.str z) []))))) := ((TK.ins hx1).trans (TK.ins upd_same)).trans (TK.ins upd_same)
    generalize upd (upd (upd H1 x (.ins B dx (putF "text" (.str z) []))) x (.ins B dx (putF "hand" (.int h) (putF "text" (.str z) [])))) x (.ins B dx (putF "starts" (.ref S) (putF "hand" (.int h) (putF "text" (.str z) [])))) = H2 at fx bb tt ⊢
    have bA := b0.trans bb
    clear b0 bb
    refine rd_seq ?_
    have eC2 := tt _ _ eC
    have hcs2 := hcs.map tt
    refine ⟨_, rfl, C1, rfl, ⟨_, SqT.of eC2⟩, fun D hD => lc_it (walk_tup (K := K) (a := C1) (xs := ps.map V.ref)) (fun j H' => Same H2 H' ∧ H' D = some (.lst (((cs.take j).map Clk.name).map V.str))) ⟨same_new hD, upd_same⟩ (fun _ _ _ u => SqT.of (u.1 _ _ eC2)) ?_ ?_⟩
    · rintro j v H6 H7 hj ⟨s6, d6⟩ ⟨rfl, hv⟩
      have hj' : j < ps.length := by simpa using hj
      have hj2 : j < cs.length := by rw [← lps]; exact hj'
      rw [List.getElem?_map, List.getElem?_eq_getElem hj'] at hv
      cases hv
      obtain ⟨q0, t0, qs0, k1, _⟩ := (hcs2.map (tup_same s6)).2 j _ _ (List.getElem?_eq_getElem hj') (List.getElem?_eq_getElem hj2)
      refine ⟨rfl, rd_yes rfl ?_⟩
      refine ⟨_, rfl, _, _, 0, .str cs[j].name, rfl, rfl, SqT.of k1, rfl, _, d6, ?_, s6.mut hD, ?_⟩
      · rw [List.length_map, List.length_map, List.length_take]
        exact Nat.lt_of_le_of_lt (by omega : min j cs.length ≤ 6) (by decide)
      · rw [upd_same, List.take_succ, List.getElem?_eq_getElem hj2, List.map_append, List.map_append]
        rfl
    · rintro H6 ⟨s6, d6⟩
      rw [List.length_map, lps, List.take_length] at d6
      refine ⟨D, _, rfl, .inl ⟨SqL.of d6, fun pt hpt => ?_⟩⟩
      have sp := same_new (o := .tup ((cs.map Clk.name).map V.str)) hpt
      have fpt : upd H6 pt (.tup ((cs.map Clk.name).map V.str)) pt = some (.tup ((cs.map Clk.name).map V.str)) := upd_same
      have s56 := s6.trans sp
      generalize upd H6 pt (.tup ((cs.map Clk.name).map V.str)) = H7 at sp fpt s56 ⊢
      have fx7 := s56 _ _ fx
      refine ⟨_, rfl, x, B, dx, _, rfl, fx7, FI.cls, FI.nP, Nat.lt_of_le_of_lt (putF_le (putF_le (putF_le (n := 0) (by simp)))) (by decide), ?_⟩
      dsimp only
      refine rd_seq ?_
      refine ⟨_, rfl, _, rfl, x, B, dx, _, rfl, upd_same, FI.cls, FI.nW, Nat.lt_of_le_of_lt (putF_le (putF_le (putF_le (putF_le (n := 0) (by simp))))) (by decide), ?_⟩
      dsimp only
      refine rd_seq ?_
      refine ⟨_, rfl, _, rfl, x, B, dx, _, rfl, upd_same, FI.cls, FI.nG, Nat.lt_of_le_of_lt (putF_le (putF_le (putF_le (putF_le (putF_le (n := 0) (by simp)))))) (by decide), ?_⟩
      dsimp only
      have fxg : upd (upd (upd H7 x (.ins B dx (putF "points" (.ref pt) (putF "starts" (.ref S) (putF "hand" (.int h) (putF "text" (.str z) [])))))) x (.ins B dx (putF "walls" (.ref W) (putF "points" (.ref pt) (putF "starts" (.ref S) (putF "hand" (.int h) (putF "text" (.str z) []))))))) x (.ins B dx (putF "goes" (.ref G) (putF "walls" (.ref W) (putF "points" (.ref pt) (putF "starts" (.ref S) (putF "hand" (.int h) (putF "text" (.str z) []))))))) x = some (.ins B dx (putF "goes" (.ref G) (putF "walls" (.ref W) (putF "points" (.ref pt) (putF "starts" (.ref S) (putF "hand" (.int h) (putF "text" (.str z) []))))))) := upd_same
      have bb : But x H7 (upd (upd (upd H7 x (.ins B dx (putF "points" (.ref pt) (putF "starts" (.ref S) (putF "hand" (.int h) (putF "text" (.str z) [])))))) x (.ins B dx (putF "walls" (.ref W) (putF "points" (.ref pt) (putF "starts" (.ref S) (putF "hand" (.int h) (putF "text" (.str z) []))))))) x (.ins B dx (putF "goes" (.ref G) (putF "walls" (.ref W) (putF "points" (.ref pt) (putF "starts" (.ref S) (putF "hand" (.int h) (putF "text" (.str z) [])))))))) := (But.upd.trans But.upd).trans But.upd
      have tt2 : TK H7 (upd (upd (upd H7 x (.ins B dx (putF "points" (.ref pt) (putF "starts" (.ref S) (putF "hand" (.int h) (putF "text" (.str z) [])))))) x (.ins B dx (putF "walls" (.ref W) (putF "points" (.ref pt) (putF "starts" (.ref S) (putF "hand" (.int h) (putF "text" (.str z) []))))))) x (.ins B dx (putF "goes" (.ref G) (putF "walls" (.ref W) (putF "points" (.ref pt) (putF "starts" (.ref S) (putF "hand" (.int h) (putF "text" (.str z) [])))))))) := ((TK.ins fx7).trans (TK.ins upd_same)).trans (TK.ins upd_same)
      generalize upd (upd (upd H7 x (.ins B dx (putF "points" (.ref pt) (putF "starts" (.ref S) (putF "hand" (.int h) (putF "text" (.str z) [])))))) x (.ins B dx (putF "walls" (.ref W) (putF "points" (.ref pt) (putF "starts" (.ref S) (putF "hand" (.int h) (putF "text" (.str z) []))))))) x (.ins B dx (putF "goes" (.ref G) (putF "walls" (.ref W) (putF "points" (.ref pt) (putF "starts" (.ref S) (putF "hand" (.int h) (putF "text" (.str z) []))))))) = H8 at fxg bb tt2 ⊢
      have b8 : But x H H8 := (bA.trans (But.of s56)).trans bb
      have t8 : TK H1 H8 := TK.trans (TK.trans tt (tup_same s56)) tt2
      have fpt8 := tt2 _ _ fpt
      have eS8 := t8 _ _ eS
      have hst8 := hst.map t8
      clear fx fx7 bb bA tt tt2 fpt s6 d6 sp s56 eC2 hcs2
      refine rd_seq ?_
      refine ⟨_, rfl, S, rfl, ⟨_, SqT.of eS8⟩, fun D2 hD2 => lc_it (walk_tup (K := K) (a := S) (xs := pss.map V.ref)) (fun j H' => Same H8 H' ∧ H' D2 = some (.lst (((ss.take j).map Prod.fst).map V.str))) ⟨same_new hD2, upd_same⟩ (fun _ _ _ u => SqT.of (u.1 _ _ eS8)) ?_ ?_⟩
      · rintro j v H9 H10 hj ⟨s9, d9⟩ ⟨rfl, hv⟩
        have hj' : j < pss.length := by simpa using hj
        have hj2 : j < ss.length := by rw [← lpss]; exact hj'
        rw [List.getElem?_map, List.getElem?_eq_getElem hj'] at hv
        cases hv
        obtain ⟨qq, k1, k2⟩ := (hst8.map (tup_same s9)).2 j _ _ (List.getElem?_eq_getElem hj') (List.getElem?_eq_getElem hj2)
        refine ⟨_, _, rfl, SqT.of k1, rfl, _, _, rfl, _, _, rfl, rfl, rfl, rd_yes rfl ?_⟩
        refine ⟨_, rfl, _, d9, ?_, s9.mut hD2, ?_⟩
        · rw [List.length_map, List.length_map, List.length_take]
          exact Nat.lt_of_le_of_lt (by omega : min j ss.length ≤ 10) (by decide)
        · rw [upd_same, List.take_succ, List.getElem?_eq_getElem hj2, List.map_append, List.map_append]
          rfl
      · rintro H9 ⟨s9, d9⟩
        rw [List.length_map, lpss, List.take_length] at d9
        refine ⟨D2, _, rfl, .inl ⟨SqL.of d9, fun nt hnt => ?_⟩⟩
        have sn := same_new (o := .tup ((ss.map Prod.fst).map V.str)) hnt
        have fnt : upd H9 nt (.tup ((ss.map Prod.fst).map V.str)) nt = some (.tup ((ss.map Prod.fst).map V.str)) := upd_same
        have s89 := s9.trans sn
        generalize upd H9 nt (.tup ((ss.map Prod.fst).map V.str)) = H10 at sn fnt s89 ⊢
        have fxh := s89 _ _ fxg
        refine ⟨_, rfl, x, B, dx, _, .ref pt, rfl, fxh, FI.cls, FI.nP, by rw [lookup_putF, if_neg (by decide), lookup_putF, if_neg (by decide), lookup_putF, if_pos rfl], ?_⟩
        refine ⟨nt, pt, _, _, rfl, rfl, SqT.of fnt, SqT.of (s89 _ _ fpt8), (fun q => hs1 (by simpa using q)), ?_, fun q => ?_, fun _ t3 ht3 => ?_⟩
        · rw [List.length_map, List.length_map, List.length_map, List.length_map]
          exact Nat.le_trans (by omega : ss.length + cs.length ≤ 4) (by decide)
        · rw [List.map_eq_nil_iff, List.map_eq_nil_iff] at q
          rw [q] at hc1
          cases hc1
        have s3 := same_new (o := .tup ((ss.map Prod.fst).map V.str ++ (cs.map Clk.name).map V.str)) ht3
        generalize upd H10 t3 (.tup ((ss.map Prod.fst).map V.str ++ (cs.map Clk.name).map V.str)) = H11 at s3 ⊢
        have fxi := s3 _ _ fxh
        refine ⟨_, rfl, x, B, dx, _, rfl, fxi, FI.cls, FI.nN, Nat.lt_of_le_of_lt (putF_le (putF_le (putF_le (putF_le (putF_le (putF_le (n := 0) (by simp))))))) (by decide), ?_⟩
        dsimp only
        refine ⟨_, rfl, _, rfl, x, B, dx, _, rfl, upd_same, FI.cls, FI.nC, Nat.lt_of_le_of_lt (putF_le (putF_le (putF_le (putF_le (putF_le (putF_le (putF_le (n := 0) (by simp)))))))) (by decide), ?_⟩
        have sE := s89.trans s3
        have bE : But x H11 (upd (upd H11 x (.ins B dx (putF "names" (.ref t3) (putF "goes" (.ref G) (putF "walls" (.ref W) (putF "points" (.ref pt) (putF "starts" (.ref S) (putF "hand" (.int h) (putF "text" (.str z) []))))))))) x (.ins B dx (putF "clicks" (.ref C1) (putF "names" (.ref t3) (putF "goes" (.ref G) (putF "walls" (.ref W) (putF "points" (.ref pt) (putF "starts" (.ref S) (putF "hand" (.int h) (putF "text" (.str z) [])))))))))) := But.upd.trans But.upd
        have tE : TK H11 (upd (upd H11 x (.ins B dx (putF "names" (.ref t3) (putF "goes" (.ref G) (putF "walls" (.ref W) (putF "points" (.ref pt) (putF "starts" (.ref S) (putF "hand" (.int h) (putF "text" (.str z) []))))))))) x (.ins B dx (putF "clicks" (.ref C1) (putF "names" (.ref t3) (putF "goes" (.ref G) (putF "walls" (.ref W) (putF "points" (.ref pt) (putF "starts" (.ref S) (putF "hand" (.int h) (putF "text" (.str z) [])))))))))) := (TK.ins fxi).trans (TK.ins upd_same)
        have tZ := TK.trans (tup_same sE) tE
        have t1Z := t8.trans tZ
        exact kq _ ((b8.trans (But.of sE)).trans bE) ⟨dx, S, pt, W, G, t3, C1, pss, qs, upd_same, t1Z _ _ eS, hst.map t1Z, tZ _ _ fpt8, t1Z _ _ eW, hwl.map t1Z, t1Z _ _ eG⟩
end
end L2.K40

set_option Elab.async false
set_option linter.all false
set_option maxRecDepth 100000
set_option maxHeartbeats 2000000
namespace L2.K40
open PySem PySem.Spec PyProof.Rows L2.Vx
open PySem.W (Frag)
/-! ### a bay beside another value -/
theorem bayF_text (z : Str) (h : Int) (st pt wt gt nt ct : Addr) : (bayF z h st pt wt gt nt ct).lookup ("text" : Str) = some (.str z) := by
  unfold bayF
  rw [lookup_putF, if_neg (by decide), lookup_putF, if_neg (by decide), lookup_putF, if_neg (by decide), lookup_putF, if_neg (by decide), lookup_putF, if_neg (by decide), lookup_putF, if_neg (by decide), lookup_putF, if_neg (by decide), lookup_putF, if_pos rfl]
theorem bayF_hand (z : Str) (h : Int) (st pt wt gt nt ct : Addr) : (bayF z h st pt wt gt nt ct).lookup ("hand" : Str) = some (.int h) := by
  unfold bayF
  rw [lookup_putF, if_neg (by decide), lookup_putF, if_neg (by decide), lookup_putF, if_neg (by decide), lookup_putF, if_neg (by decide), lookup_putF, if_neg (by decide), lookup_putF, if_neg (by decide), lookup_putF, if_pos rfl]
theorem bayF_starts (z : Str) (h : Int) (st pt wt gt nt ct : Addr) : (bayF z h st pt wt gt nt ct).lookup ("starts" : Str) = some (.ref st) := by
  unfold bayF
  rw [lookup_putF, if_neg (by decide), lookup_putF, if_neg (by decide), lookup_putF, if_neg (by decide), lookup_putF, if_neg (by decide), lookup_putF, if_neg (by decide), lookup_putF, if_pos rfl]
theorem bayF_points (z : Str) (h : Int) (st pt wt gt nt ct : Addr) : (bayF z h st pt wt gt nt ct).lookup ("points" : Str) = some (.ref pt) := by
  unfold bayF
  rw [lookup_putF, if_neg (by decide), lookup_putF, if_neg (by decide), lookup_putF, if_neg (by decide), lookup_putF, if_neg (by decide), lookup_putF, if_pos rfl]
theorem bayF_walls (z : Str) (h : Int) (st pt wt gt nt ct : Addr) : (bayF z h st pt wt gt nt ct).lookup ("walls" : Str) = some (.ref wt) := by
  unfold bayF
  rw [lookup_putF, if_neg (by decide), lookup_putF, if_neg (by decide), lookup_putF, if_neg (by decide), lookup_putF, if_pos rfl]
theorem bayF_goes (z : Str) (h : Int) (st pt wt gt nt ct : Addr) : (bayF z h st pt wt gt nt ct).lookup ("goes" : Str) = some (.ref gt) := by
  unfold bayF
  rw [lookup_putF, if_neg (by decide), lookup_putF, if_neg (by decide), lookup_putF, if_pos rfl]
section
variable {P : Program} {w : World} {K : Frag} {mg : Str → Option Value} {bs : Heap}
structure FxIsiB (K : Frag) (mg : Str → Option Value) (B : Addr) : Prop where
  ha : PySem.W.findIn K (.ref B) "__class__" = some (some (.builtin "object.__class__"))
  hn : PySem.W.specialIn K (.builtin "object.__class__") "__get__" = some (some (.builtin "getset_descriptor.__get__"))
  ht : PySem.W.takesIn K (.builtin "object.__class__") = some true
  hm : PySem.W.mroIn K B (.type "object") = some true
  kB : PySem.W.kitOne K (.ref B) (.ref B) = some true
  gB : mg "Bay" = some (.ref B)
theorem BayAt.ty {B x : Addr} {H : Hp} {z : Str} {r : BayR} (h : BayAt B H x z r) (c : Cls K B) (FI : FxIsiB K mg B) : TyX K H (.ref x) (.ref B) := by
  obtain ⟨dx, st, pt, wt, gt, nt, ct, pss, qs, h1, _⟩ := h
  exact .base (.ins h1 c FI.ha FI.hn FI.ht FI.hm)
def spBEq (K : Frag) (B : Addr) : Sp := fun vs H Q _ => ∃ (a : Addr) (v : V) (z : Str) (r : BayR), vs = [.ref a, v] ∧ BayAt B H a z r ∧
  (((∃ t, TyX K H v t ∧ PySem.W.kitOne K t (.ref B) = some false) ∧ ∀ H', Same H H' → Q (.bl false) H') ∨ ∃ (b : Addr) (z2 : Str) (r2 : BayR), v = .ref b ∧ BayAt B H b z2 r2 ∧ ∀ H', Same H H' → Q (.bl (decide (z = z2))) H')
theorem scBEq : FnScope ["self", "other"] ["self", "other"] (defScope sBEq) := ⟨rfl, rfl, rfl, by decide +kernel, rfl, by decide +kernel, by decide +kernel⟩
theorem ok_beq {f B : Addr} {fd : FuncData} (FP : Fun K "__eq__" "Bay.__eq__" sBEq f fd) (FB : FxBNew K mg B) (FI : FxIsiB K mg B) : FnOk P w K mg bs CX0 1 f fd ["self", "other"] (spBEq K B) := by
  have sc := scBEq
  refine FP.ok scBEq (fun vs H Q E h => ?_) (fun cdv A outer s H vs Q E hr h => ?_)
  · obtain ⟨a, v, z, r, rfl, _⟩ := h
    rfl
  · obtain ⟨a, v, z, r, rfl, ha, h⟩ := h
    refine ⟨_, pss_one (ps_ret (pe_and (pe_callB call_isi (by rfl) FB.isi boot_isinstance (pa_cons (pv 1) (pa_cons (pe_ref FI.gB) pa_nil)))
      (pe_one (pe_cmpR op_eq (pe_fld (pv 0) rfl) (pe_fld (pv 1) rfl) (nomark _))))), ?_⟩
    rcases h with ⟨⟨t, hv, hk⟩, k⟩ | ⟨b, z2, r2, rfl, hb, k⟩
    · refine ⟨_, rfl, v, .ref B, _, _, false, rfl, .own B, hv, hk, _, rfl, ?_⟩
      refine Eq.mpr (if_neg (by decide)) ?_
      exact k H (Same.refl H)
    · refine ⟨_, rfl, .ref b, .ref B, _, _, true, rfl, .own B, hb.ty FB.cls FI, FI.kB, _, rfl, ?_⟩
      refine Eq.mpr (if_pos rfl) ?_
      obtain ⟨dx, st, pt, wt, gt, nt, ct, pss, qs, h1, _⟩ := ha
      obtain ⟨dx2, st2, pt2, wt2, gt2, nt2, ct2, pss2, qs2, g1, _⟩ := hb
      refine ⟨_, rfl, a, B, dx, _, .str z, rfl, h1, FB.cls, FB.nT, bayF_text _ _ _ _ _ _ _ _, _, rfl, b, B, dx2, _, .str z2, rfl, g1, FB.cls, FB.nT, bayF_text _ _ _ _ _ _ _ _, rfl, ?_⟩
      have e : decide (V.str z = V.str z2) = decide (z = z2) := by
        rw [Bool.eq_iff_iff]
        simp
      show Q (.bl (decide (V.str z = V.str z2))) H
      rw [e]
      exact k H (Same.refl H)
end
end L2.K40

set_option Elab.async false
set_option linter.all false
set_option maxRecDepth 100000
set_option maxHeartbeats 4000000
namespace L2.K40
open PySem PySem.Spec PyProof.Rows L2.Vx
open PySem.W (Frag)
/-! ### drawn names, aims of a bay -/
def poolN : List Str := ["a", "b", "c", "at", "by", "cross", "within", "wall", "point", "hand", "zzzzzzzz", "corner", "x"]
def stepsB : List Int := [0, 0, 1, 2, 3, 5, -1, -2, -4]
def AimB (m : Aim) (ns : List Str) : Prop :=
  match m with
  | .at _ _ => False
  | .by o x y => o ∈ ns ∧ x ∈ stepsB ∧ y ∈ stepsB
  | .cross a b => a ∈ ns ∧ b ∈ ns
theorem pool_ok : ∀ u ∈ poolN, PyData.strOk u = true := by decide +kernel
theorem pool_nodup : poolN.Nodup := by decide +kernel
theorem canAll : ∀ us : List Str, (∀ u ∈ us, u ∈ poolN) → PyData.canLayAll0 (us.map PyData.str) = true
  | [], _ => rfl
  | u :: us, h => by
    rw [List.map_cons]
    unfold PyData.canLayAll0 PyData.canLay0
    rw [pool_ok u (h u (List.mem_cons_self ..)), canAll us fun x hx => h x (List.mem_cons_of_mem _ hx)]
    rfl
theorem depthAll : ∀ us : List Str, PyData.depthAll (us.map PyData.str) = 0
  | [] => rfl
  | u :: us => by
    rw [List.map_cons]
    unfold PyData.depthAll PyData.depth
    rw [depthAll us]
    rfl
theorem shaped_names {us : List Str} (h : ∀ u ∈ us, u ∈ poolN) : SeqAt.shaped (.list (us.map PyData.str)) = true := by
  unfold SeqAt.shaped PyData.canLay0 PyData.depth
  rw [canAll us h, depthAll us]
  rfl
theorem dp_strs {K : Frag} {H : Hp} : ∀ us : List Str, DpAll K H (us.map V.str) (us.map PyData.str)
  | [] => .nil
  | u :: us => .cons (.str u) (dp_strs us)
theorem eqv_nil (us : List Str) : PyData.eqv (.list (us.map PyData.str)) (.list []) = decide (us = []) := by
  cases us with
  | nil => rfl
  | cons u us => rfl
theorem num_len {n : Int} (h0 : 0 ≤ n) (h7 : n ≤ 99) : (Str.ofString (toString n)).length ≤ 2 := by
  obtain ⟨m, rfl⟩ : ∃ m : Nat, n = (m : Int) := ⟨n.toNat, by omega⟩
  rw [TL.len_tl, TL.tl_num]
  exact TL.numL_len (by decide) (by omega)
theorem small99 {n : Int} (h0 : 0 ≤ n) (h7 : n ≤ 99) : n.natAbs.log2 < 1920 := by
  obtain ⟨m, rfl⟩ : ∃ m : Nat, n = (m : Int) := ⟨n.toNat, by omega⟩
  exact small_log (by omega)
theorem len_app (a b : Str) : (a ++ b).length = a.length + b.length := by
  rw [TL.len_tl, TL.tl_append, List.length_append, ← TL.len_tl, ← TL.len_tl]
section
variable {P : Program} {w : World} {K : Frag} {mg : Str → Option Value} {bs : Heap}
def spNames (K : Frag) : Sp := fun vs H Q _ => ∃ (p : Addr) (m : Nat) (k : Int), vs = [.ref p, .int (m : Nat)] ∧ m ≤ 13 ∧ 0 ≤ k ∧ k < 900000 ∧ Pot H p k ∧
  ∀ H' q (us : List Str), But p H H' → H q = none → H' q = some (.lst (us.map V.str)) → us.Nodup → (∀ u ∈ us, u ∈ poolN) → us.length = m → Pot H' p (k + m) → Q (.ref q) H'
theorem scNames : FnScope ["pot", "many", "pool"] ["pot", "many"] (defScope sNames) := ⟨rfl, rfl, rfl, by decide +kernel, rfl, by decide +kernel, by decide +kernel⟩
theorem strs_list {ys : List V} (h : ∀ v ∈ ys, ∃ u : Str, v = .str u) : ∃ us : List Str, ys = us.map V.str := by
  induction ys with
  | nil => exact ⟨[], rfl⟩
  | cons y ys ih =>
    obtain ⟨u, rfl⟩ := h y (by simp)
    obtain ⟨us, rfl⟩ := ih fun v hv => h v (List.mem_cons_of_mem _ hv)
    exact ⟨u :: us, rfl⟩
theorem perm_strs {a b : List Str} (h : (a.map V.str).Perm (b.map V.str)) : a.Perm b := by
  have := h.map (fun v => match v with | V.str s => s | _ => Str.empty)
  rw [List.map_map, List.map_map] at this
  have e : ∀ l : List Str, l.map ((fun v => match v with | V.str s => s | _ => Str.empty) ∘ V.str) = l := fun l => (List.map_congr_left fun _ _ => rfl).trans (List.map_id l)
  rw [e, e] at this
  exact this
/-- some of unlike texts: unlike texts, all of them among these -/
theorem some_strs {ys rest : List V} {us : List Str} (h : (ys ++ rest).Perm (us.map V.str)) (hn : us.Nodup) : ∃ xs : List Str, ys = xs.map V.str ∧ xs.Nodup ∧ ∀ x ∈ xs, x ∈ us := by
  have all : ∀ v ∈ ys ++ rest, ∃ u : Str, v = .str u := fun v hv => by
    obtain ⟨u, _, rfl⟩ := List.mem_map.mp (h.mem_iff.mp hv)
    exact ⟨u, rfl⟩
  obtain ⟨xs, rfl⟩ := strs_list fun v hv => all v (List.mem_append_left _ hv)
  obtain ⟨re, rfl⟩ := strs_list fun v hv => all v (List.mem_append_right _ hv)
  rw [← List.map_append] at h
  have pm := perm_strs h
  exact ⟨xs, rfl, (List.nodup_append.mp (pm.nodup_iff.mpr hn)).1, fun x hx => pm.mem_iff.mp (List.mem_append_left _ hx)⟩
theorem ok_names {f fT fS : Addr} {fd fdT fdS : FuncData} (FP : FD K "_law_names" sNames f fd) (F : Dx mg) (FT : FD K "_law_take" sTake fT fdT) (gT : mg "_law_take" = some (.ref fT)) (bT : Binds K fdT ["pot", "upto"] [])
    (FS : FD K "_law_some" sSome fS fdS) (gS : mg "_law_some" = some (.ref fS)) (bS : Binds K fdS ["pot", "pool", "many"] []) : FnOk P w K mg bs CX0 3 f fd ["pot", "many"] (spNames K) := by
  have sc := scNames
  have GS : FnOk P w K mg bs CX0 2 fS fdS ["pot", "pool", "many"] (spSome K) := ok_some FS F FT gT bT
  refine FP.ok scNames (fun vs H Q E h => ?_) (fun cdv A outer s H vs Q E hr h => ?_)
  · obtain ⟨p, m, k, rfl, _⟩ := h
    rfl
  · obtain ⟨p, m, t, rfl, hm, t0, ht, hP, k⟩ := h
    refine ⟨_, pss_cons (ps_set (i := 2) sc.nd rfl (Or.inl rfl) (pe_lst (pa_cons pe_str (pa_cons pe_str (pa_cons pe_str (pa_cons pe_str (pa_cons pe_str (pa_cons pe_str (pa_cons pe_str (pa_cons pe_str (pa_cons pe_str (pa_cons pe_str (pa_cons pe_str (pa_cons pe_str (pa_cons pe_str pa_nil)))))))))))))))
      (pss_one (ps_ret (pe_call GS hr (by rfl) gS FS.kp bS .nil pass0 (pa_cons (pv 0) (pa_cons (pv 2) (pa_cons (pv 1) pa_nil)))))), ?_⟩
    refine rd_seq (rd_set ?_)
    refine ⟨(by exact (by decide : 13 ≤ sizeLine)), fun L hL => ?_⟩
    have fL : upd H L (.lst (poolN.map V.str)) L = some (.lst (poolN.map V.str)) := upd_same
    have s1 : Same H (upd H L (.lst (poolN.map V.str))) := same_new hL
    dsimp only
    change tRet _ _ _ (upd H L (.lst (poolN.map V.str)))
    generalize upd H L (.lst (poolN.map V.str)) = H1 at fL s1 ⊢
    refine ⟨_, rfl, _, rfl, _, rfl, p, L, _, m, t, rfl, hP.ne hL, SqL.of fL, by decide, hm, t0, by omega, hP.same s1, fun H' q ys rest k2 hq hq' pm ly hP' => ?_⟩
    obtain ⟨xs, rfl, hn, hx⟩ := some_strs pm pool_nodup
    exact k H' q xs ((But.of s1).trans k2) (s1.free hq) hq' hn hx (by rw [List.length_map] at ly; exact ly) hP'
def spBAim (K : Frag) : Sp := fun vs H Q _ => ∃ (p l : Addr) (ns : List Str) (k : Int), vs = [.ref p, .ref l] ∧ l ≠ p ∧ SqL K H l (ns.map V.str) ∧ 0 < ns.length ∧ ns.length ≤ 6 ∧ 0 ≤ k ∧ k < 800000 ∧ Pot H p k ∧
  ∀ H' q m, But p H H' → H q = none → H' q = some (.tup (aimV m)) → AimB m ns → Pot H' p (k + 4) → Q (.ref q) H'
theorem scBAim : FnScope ["pot", "names", "steps"] ["pot", "names"] (defScope sBAim) := ⟨rfl, rfl, rfl, by decide +kernel, rfl, by decide +kernel, by decide +kernel⟩
theorem ok_bAim {f fT fO : Addr} {fd fdT fdO : FuncData} (FP : FD K "_law_bay_aim" sBAim f fd) (F : Dx mg) (FT : FD K "_law_take" sTake fT fdT) (gT : mg "_law_take" = some (.ref fT)) (bT : Binds K fdT ["pot", "upto"] [])
    (FO : FD K "_law_of" sOf fO fdO) (gO : mg "_law_of" = some (.ref fO)) (bO : Binds K fdO ["pot", "some"] []) : FnOk P w K mg bs CX0 3 f fd ["pot", "names"] (spBAim K) := by
  have sc := scBAim
  have GT : FnOk P w K mg bs CX0 1 fT fdT ["pot", "upto"] spTake := ok_take FT F
  have GO : FnOk P w K mg bs CX0 2 fO fdO ["pot", "some"] (spOf K) := ok_of FO F FT gT bT
  refine FP.ok scBAim (fun vs H Q E h => ?_) (fun cdv A outer s H vs Q E hr h => ?_)
  · obtain ⟨p, l, ns, k, rfl, _⟩ := h
    rfl
  · obtain ⟨p, l, ns, t, rfl, nlp, hl, hl0, hl6, t0, ht, hP, k⟩ := h
    have hr1 : Room 1 (A.deeper (envOfC "_law_bay_aim" (defScope sBAim) s.heap.objs.size f cdv)) := hr.mono (by decide)
    refine ⟨_, pss_cons (ps_set (i := 2) sc.nd rfl (Or.inl rfl) (pe_lst (pa_cons pe_int (pa_cons pe_int (pa_cons pe_int (pa_cons pe_int (pa_cons pe_int (pa_cons pe_int (pa_cons (pe_un un_neg pe_int) (pa_cons (pe_un un_neg pe_int) (pa_cons (pe_un un_neg pe_int) pa_nil)))))))))))
      (pss_cons (ps_if (pt_cmpR op_eq (pe_call GT hr1 (by rfl) gT FT.kp bT .nil pass0 (pa_cons (pv 0) (pa_cons pe_int pa_nil))) pe_int (nomark _))
          (pss_one (ps_ret (pe_tup (pa_cons pe_str (pa_cons (pe_call GO hr (by rfl) gO FO.kp bO .nil pass0 (pa_cons (pv 0) (pa_cons (pv 1) pa_nil))) (pa_cons (pe_call GO hr (by rfl) gO FO.kp bO .nil pass0 (pa_cons (pv 0) (pa_cons (pv 1) pa_nil))) pa_nil)))))) pss_nil)
      (pss_one (ps_ret (pe_tup (pa_cons pe_str (pa_cons (pe_call GO hr (by rfl) gO FO.kp bO .nil pass0 (pa_cons (pv 0) (pa_cons (pv 1) pa_nil))) (pa_cons (pe_call GO hr (by rfl) gO FO.kp bO .nil pass0 (pa_cons (pv 0) (pa_cons (pv 2) pa_nil)))
          (pa_cons (pe_call GO hr (by rfl) gO FO.kp bO .nil pass0 (pa_cons (pv 0) (pa_cons (pv 2) pa_nil))) pa_nil)))))))), ?_⟩
    refine rd_seq (rd_set ?_)
    refine ⟨1, rfl, 2, rfl, 4, rfl, (by exact (by decide : 9 ≤ sizeLine)), fun L hL => ?_⟩
    have fL : upd H L (.lst (stepsB.map V.int)) L = some (.lst (stepsB.map V.int)) := upd_same
    have s1 : Same H (upd H L (.lst (stepsB.map V.int))) := same_new hL
    dsimp only
    change tSeq _ _ _ _ (upd H L (.lst (stepsB.map V.int)))
    generalize upd H L (.lst (stepsB.map V.int)) = H1 at fL s1 ⊢
    have nL : L ≠ p := hP.ne hL
    have lS : (stepsB.map V.int).length = 9 := rfl
    have lm : (ns.map V.str).length = ns.length := List.length_map ..
    have hl1 := s1.seq hl
    have hP1 := hP.same s1
    refine rd_seq (rd_if ?_)
    refine ⟨_, rfl, p, 3, t, rfl, by decide, by decide, by omega, hP1, fun H2 j k2 hP2 j0 j3 => ⟨rfl, _, rfl, ?_⟩⟩
    have hl2 := k2.seq nlp hl1
    have fL2 := k2 _ _ nL fL
    have k02 := (But.of s1).trans k2
    by_cases c1 : V.int j = V.int 0
    · refine Eq.mpr (if_pos (decide_eq_true c1)) ?_
      refine ⟨_, rfl, _, rfl, p, l, _, t + 1, rfl, nlp, hl2, by omega, by omega, by omega, hP2, fun H5 v5 k5 hP5 hv5 => ?_⟩
      obtain ⟨a, ha, rfl⟩ := List.mem_map.mp hv5
      refine ⟨_, rfl, _, rfl, p, l, _, t + 1 + 1, rfl, nlp, k5.seq nlp hl2, by omega, by omega, by omega, hP5, fun H6 v6 k6 hP6 hv6 => ?_⟩
      obtain ⟨b, hb, rfl⟩ := List.mem_map.mp hv6
      refine ⟨(by exact (by decide : 3 ≤ sizeLine)), fun q hq => ?_⟩
      have kA := k02.trans (k5.trans k6)
      exact k _ q (.cross a b) (kA.trans (But.of (same_new hq))) (kA.free hq hP6.some.choose_spec) upd_same ⟨ha, hb⟩ ((hP6.same (same_new hq)).mono (by omega))
    · refine Eq.mpr (if_neg (fun q => c1 (of_decide_eq_true q))) ?_
      dsimp only [tNext]
      refine ⟨_, rfl, _, rfl, p, l, _, t + 1, rfl, nlp, hl2, by omega, by omega, by omega, hP2, fun H5 v5 k5 hP5 hv5 => ?_⟩
      obtain ⟨a, ha, rfl⟩ := List.mem_map.mp hv5
      refine ⟨_, rfl, _, rfl, p, L, _, t + 1 + 1, rfl, nL, SqL.of (k5 _ _ nL fL2), by omega, by omega, by omega, hP5, fun H6 v6 k6 hP6 hv6 => ?_⟩
      obtain ⟨x, hx, rfl⟩ := List.mem_map.mp hv6
      refine ⟨_, rfl, _, rfl, p, L, _, t + 1 + 1 + 1, rfl, nL, SqL.of (k6 _ _ nL (k5 _ _ nL fL2)), by omega, by omega, by omega, hP6, fun H7 v7 k7 hP7 hv7 => ?_⟩
      obtain ⟨y, hy, rfl⟩ := List.mem_map.mp hv7
      refine ⟨(by exact (by decide : 4 ≤ sizeLine)), fun q hq => ?_⟩
      have kA := k02.trans ((k5.trans k6).trans k7)
      exact k _ q (.by a x y) (kA.trans (But.of (same_new hq))) (kA.free hq hP7.some.choose_spec) upd_same ⟨ha, hx, hy⟩ ((hP7.same (same_new hq)).mono (by omega))
end
end L2.K40

set_option Elab.async false
set_option linter.all false
set_option maxRecDepth 100000
set_option maxHeartbeats 4000000
namespace L2.K40
open PySem PySem.Spec PyProof.Rows L2.Vx
open PySem.W (Frag)
/-! ### the text of a drawn plan -/
inductive Ln where
  | pt (n : Str) (m : Aim) (o : Option Int)
  | wl (a b : Str)
def LnAt (H : Hp) (p : Addr) : Ln → Prop
  | .pt n m o => ∃ q, H p = some (.tup [.str "point", .str n, .ref q, optV o]) ∧ H q = some (.tup (aimV m))
  | .wl a b => H p = some (.tup [.str "wall", .str a, .str b])
def LnsAt (H : Hp) (ps : List Addr) (ls : List Ln) : Prop := ps.length = ls.length ∧ ∀ (i : Nat) (p : Addr) (l : Ln), ps[i]? = some p → ls[i]? = some l → LnAt H p l
theorem LnAt.map {H H' : Hp} {p : Addr} {l : Ln} (h : LnAt H p l) (k : ∀ p vs, H p = some (.tup vs) → H' p = some (.tup vs)) : LnAt H' p l := by
  cases l with
  | pt n m o =>
    obtain ⟨q, h1, h2⟩ := h
    exact ⟨q, k _ _ h1, k _ _ h2⟩
  | wl a b => exact k _ _ h
theorem LnsAt.map {H H' : Hp} {ps : List Addr} {ls : List Ln} (h : LnsAt H ps ls) (k : ∀ p vs, H p = some (.tup vs) → H' p = some (.tup vs)) : LnsAt H' ps ls := ⟨h.1, fun i p l a b => (h.2 i p l a b).map k⟩
def numT (i : Int) : Str := Str.ofString (toString i)
def txtOf : V → Str
  | .str s => s
  | .int i => numT i
  | _ => Str.empty
def SmallV (v : V) : Prop := (∃ s : Str, v = .str s ∧ s.length ≤ 20) ∨ ∃ i : Int, v = .int i ∧ -1000 < i ∧ i < 1000
def LnSmall : Ln → Prop
  | .pt n m o => n.length ≤ 20 ∧ (∀ v ∈ aimV m, SmallV v) ∧ ∀ b, o = some b → 0 ≤ b ∧ b ≤ 99
  | .wl a b => a.length ≤ 20 ∧ b.length ≤ 20
def ptText (n : Str) (m : Aim) : Str := Txt.join " " ("point" :: n :: (aimV m).map txtOf)
def lineText : Ln → Str
  | .wl a b => Txt.join " " ["wall", a, b]
  | .pt n m none => ptText n m
  | .pt n m (some b) => ptText n m ++ " within " ++ numT b
theorem num1000 {i : Int} (h0 : -1000 < i) (h1 : i < 1000) : i.natAbs.log2 < 1920 ∧ (numT i).length ≤ 5 := by
  refine ⟨?_, ?_⟩
  · by_cases e : i.natAbs = 0
    · rw [e]; decide
    · exact (Nat.log2_lt e).mpr (Nat.lt_trans (by omega : i.natAbs < 1000) (by decide +kernel))
  · have h : ∀ n : Nat, n < 1000 → (numT (n : Int)).length ≤ 5 ∧ (numT (-(n : Int))).length ≤ 5 := by decide +kernel
    obtain ⟨n, hn⟩ : ∃ n : Nat, i = (n : Int) ∨ i = -(n : Int) := ⟨i.natAbs, by omega⟩
    rcases hn with rfl | rfl
    · exact (h n (by omega)).1
    · exact (h n (by omega)).2
theorem txt_len {v : V} (h : SmallV v) : (txtOf v).length ≤ 20 := by
  rcases h with ⟨s, rfl, hs⟩ | ⟨i, rfl, h0, h1⟩
  · exact hs
  · exact Nat.le_trans (num1000 h0 h1).2 (by decide)
theorem aimV_len (m : Aim) : (aimV m).length ≤ 4 := by cases m <;> (show _ ≤ _; simp [aimV])
theorem tot_le {B : Nat} : ∀ (ys : List Str), (∀ y ∈ ys, y.length ≤ B) → tot ys ≤ ys.length * (B + 1)
  | [], _ => by simp [tot_nil]
  | y :: ys, h => by
    rw [tot_cons, List.length_cons, Nat.succ_mul]
    have := h y (by simp)
    have := tot_le ys fun x hx => h x (List.mem_cons_of_mem _ hx)
    omega
theorem point_len : ("point" : Str).length = 5 := by decide +kernel
theorem wall_len : ("wall" : Str).length = 4 := by decide +kernel
theorem within_len : (" within " : Str).length = 8 := by decide +kernel
theorem pt_tot {n : Str} {m : Aim} (hn : n.length ≤ 20) (hm : ∀ v ∈ aimV m, SmallV v) : tot ("point" :: n :: (aimV m).map txtOf) ≤ 200 := by
  rw [tot_cons, tot_cons, point_len]
  have h := tot_le (B := 20) ((aimV m).map txtOf) (fun y hy => by
    obtain ⟨v, hv, rfl⟩ := List.mem_map.mp hy
    exact txt_len (hm v hv))
  rw [List.length_map] at h
  have := aimV_len m
  omega
section
variable {P : Program} {w : World} {K : Frag} {mg : Str → Option Value} {bs : Heap}
def spLine (K : Frag) : Sp := fun vs H Q _ => ∃ (p : Addr) (l : Ln), vs = [.ref p] ∧ LnAt H p l ∧ LnSmall l ∧ ∀ H', Same H H' → Q (.str (lineText l)) H'
theorem scLine : FnScope ["line", "text", "part"] ["line"] (defScope sLine) := ⟨rfl, rfl, rfl, by decide +kernel, rfl, by decide +kernel, by decide +kernel⟩
theorem ok_line {f : Addr} {fd : FuncData} (FP : FD K "_law_line_text" sLine f fd) (gS : mg "str" = none) : FnOk P w K mg bs CX0 1 f fd ["line"] (spLine K) := by
  have sc := scLine
  refine FP.ok scLine (fun vs H Q E h => ?_) (fun cdv A outer s H vs Q E hr h => ?_)
  · obtain ⟨p, l, rfl, _⟩ := h
    rfl
  · obtain ⟨p, l, rfl, hl, hsm, k⟩ := h
    refine ⟨_, pss_cons (ps_if (pt_cmpR op_eq (pe_ix ix_tup (pv 0) pe_int (fun _ _ => rfl)) pe_str (nomark _)) (pss_one (ps_ret (pe_join pe_str (pv 0)))) pss_nil)
      (pss_cons (ps_set (i := 1) sc.nd rfl (Or.inl rfl) (pe_join pe_str (pe_op op_cat (pe_lst (pa_cons pe_str (pa_cons (pe_ix ix_tup (pv 0) pe_int (fun _ _ => rfl)) pa_nil)))
          (pe_lc (own := [("part", 2)]) (g := gName 2) (by rfl) sc.nd (pi_tup (pe_ix ix_tup (pv 0) pe_int (fun _ _ => rfl))) (blkOk_by (N := ["line", "text", "part"]) (sc := defScope sLine) (by decide +kernel))
            (fun _ _ _ _ _ => pg_name (i := 2) sc.nd rfl (Or.inl rfl)) (fun _ _ _ _ _ => pts_nil)
            (fun _ _ _ _ _ => pe_callTy (CallR.or call_str_int SkE.call_str_str) (by rfl) gS boot_str (pa_cons (pv 2) pa_nil))))))
      (pss_one (ps_ret (pe_ifExp (pt_cmpR op_isN (pe_ix ix_tup (pv 0) pe_int (fun _ _ => rfl)) pe_non (nomark _)) (pv 1)
          (pe_op op_add_str (pe_op op_add_str (pv 1) pe_str) (pe_callTy call_str_int (by rfl) gS boot_str (pa_cons (pe_ix ix_tup (pv 0) pe_int (fun _ _ => rfl)) pa_nil))))))), ?_⟩
    refine rd_seq (rd_if ?_)
    cases l with
    | wl a b =>
      have e : H p = some (.tup [.str "wall", .str a, .str b]) := hl
      obtain ⟨ha, hb⟩ := hsm
      refine ⟨_, rfl, p, _, 0, .str "wall", rfl, rfl, SqT.of e, rfl, rfl, _, rfl, ?_⟩
      refine Eq.mpr (if_pos (decide_eq_true rfl)) ?_
      refine ⟨⟨_, rfl⟩, _, rfl, " ", p, ["wall", a, b], rfl, rfl, .inr (SqT.of e), ?_, k H (Same.refl H)⟩
      rw [tot_sum _ sp1, tot_cons, tot_cons, tot_cons, tot_nil, wall_len]
      omega
    | pt n m o =>
      obtain ⟨q, e, eq⟩ := hl
      obtain ⟨hn, hm, ho⟩ := hsm
      refine ⟨_, rfl, p, _, 0, .str "point", rfl, rfl, SqT.of e, rfl, rfl, _, rfl, ?_⟩
      refine Eq.mpr (if_neg (by decide +kernel)) ?_
      dsimp only [tNext]
      refine rd_seq (rd_set ?_)
      refine ⟨⟨_, rfl⟩, _, rfl, p, _, 1, .str n, rfl, rfl, SqT.of e, rfl, (by exact (by decide : 2 ≤ sizeLine)), fun L hL => ?_⟩
      have s1 : Same H (upd H L (.lst [.str "point", .str n])) := same_new hL
      have fL : upd H L (.lst [.str "point", .str n]) L = some (.lst [.str "point", .str n]) := upd_same
      generalize upd H L (.lst [.str "point", .str n]) = H1 at s1 fL ⊢
      have e1 := s1 _ _ e
      have eq1 := s1 _ _ eq
      have l4 := aimV_len m
      refine ⟨_, rfl, p, _, 2, .ref q, rfl, rfl, SqT.of e1, rfl, q, rfl, ⟨_, SqT.of eq1⟩, fun E1 hE => lc_it (walk_tup (K := K) (a := q) (xs := aimV m)) (fun j H' => Same H1 H' ∧ H' E1 = some (.lst ((((aimV m).take j).map txtOf).map V.str))) ⟨same_new hE, upd_same⟩ (fun _ _ _ u => SqT.of (u.1 _ _ eq1)) ?_ ?_⟩
      · rintro j v H5 H6 hj ⟨s5, d5⟩ ⟨rfl, hv⟩
        refine ⟨rfl, rd_yes rfl ?_⟩
        refine ⟨_, rfl, ?_⟩
        have fin : ∃ acc, H6 E1 = some (.lst acc) ∧ acc.length < sizeLine ∧ Same H1 (upd H6 E1 (.lst (acc ++ [V.str (txtOf v)]))) ∧ upd H6 E1 (.lst (acc ++ [V.str (txtOf v)])) E1 = some (.lst ((((aimV m).take (j + 1)).map txtOf).map V.str)) := by
          refine ⟨_, d5, ?_, s5.mut hE, ?_⟩
          · rw [List.length_map, List.length_map, List.length_take]
            exact Nat.lt_of_le_of_lt (by omega : min j (aimV m).length ≤ 100) (by decide)
          · rw [upd_same, List.take_succ, hv, List.map_append, List.map_append]
            rfl
        rcases hm v (List.mem_of_getElem? hv) with ⟨u, rfl, _⟩ | ⟨i, rfl, h0, h1⟩
        · exact .inr ⟨u, rfl, fin⟩
        · exact .inl ⟨i, rfl, (num1000 h0 h1).1, fin⟩
      · rintro H5 ⟨s5, d5⟩
        rw [List.take_length] at d5
        refine ⟨L, E1, _, _, rfl, rfl, s5 _ _ fL, d5, Nat.le_trans (by rw [List.length_map, List.length_map]; show 2 + _ ≤ 100; omega : _ ≤ 100) (by decide), fun G hG => ?_⟩
        have e6 : [V.str "point", V.str n] ++ ((aimV m).map txtOf).map V.str = (("point" : Str) :: n :: (aimV m).map txtOf).map V.str := rfl
        rw [e6]
        have s6 := same_new (o := .lst ((("point" : Str) :: n :: (aimV m).map txtOf).map V.str)) hG
        have fG : upd H5 G (.lst ((("point" : Str) :: n :: (aimV m).map txtOf).map V.str)) G = some (.lst ((("point" : Str) :: n :: (aimV m).map txtOf).map V.str)) := upd_same
        generalize upd H5 G (.lst ((("point" : Str) :: n :: (aimV m).map txtOf).map V.str)) = H6 at s6 fG ⊢
        have tt := pt_tot hn hm
        refine ⟨" ", G, _, rfl, rfl, .inl (SqL.of fG), by rw [tot_sum _ sp1]; omega, ?_⟩
        have lz : (ptText n m).length ≤ 200 := Nat.le_trans (join_tot sp1 _) tt
        have sAll := (s1.trans s5).trans s6
        have e7 := sAll _ _ e
        dsimp only
        change tRet _ _ _ H6
        refine ⟨_, rfl, p, _, 3, optV o, rfl, rfl, SqT.of e7, rfl, rfl, _, rfl, ?_⟩
        have kk := k H6 sAll
        cases o with
        | none =>
          refine Eq.mpr (if_pos rfl) ?_
          exact ⟨_, rfl, kk⟩
        | some b =>
          obtain ⟨b0, b9⟩ := ho b rfl
          refine Eq.mpr (if_neg (fun z => by cases of_decide_eq_true z)) ?_
          have lb := num_len b0 b9
          refine ⟨_, rfl, _, _, rfl, rfl, Nat.le_trans (by show (ptText n m).length + _ ≤ 300; rw [within_len]; omega : _ ≤ 300) (by decide), ?_⟩
          refine ⟨_, rfl, p, _, 3, .int b, rfl, rfl, SqT.of e7, rfl, b, rfl, small99 b0 b9, _, _, rfl, rfl, Nat.le_trans (by show (ptText n m ++ " within ").length + (Str.ofString (toString b)).length ≤ 400; rw [len_app, within_len]; omega : _ ≤ 400) (by decide), ?_⟩
          exact kk
end
end L2.K40

set_option Elab.async false
set_option linter.all false
set_option maxRecDepth 100000
set_option maxHeartbeats 8000000
namespace L2.K40
open PySem PySem.Spec PyProof.Rows L2.Vx
open PySem.W (Frag)
/-! ### a drawn bay -/
def nmsOf : List Ln → List Str
  | [] => []
  | .pt n _ _ :: r => n :: nmsOf r
  | .wl _ _ :: r => nmsOf r
def wlsOf : List Ln → List (Str × Str)
  | [] => []
  | .pt _ _ _ :: r => wlsOf r
  | .wl a b :: r => (a, b) :: wlsOf r
theorem nms_app : ∀ a b : List Ln, nmsOf (a ++ b) = nmsOf a ++ nmsOf b
  | [], _ => rfl
  | .pt n _ _ :: r, b => congrArg (n :: ·) (nms_app r b)
  | .wl _ _ :: r, b => nms_app r b
theorem wls_app : ∀ a b : List Ln, wlsOf (a ++ b) = wlsOf a ++ wlsOf b
  | [], _ => rfl
  | .pt _ _ _ :: r, b => wls_app r b
  | .wl x y :: r, b => congrArg ((x, y) :: ·) (wls_app r b)
theorem ln_count : ∀ ls : List Ln, ls.length = (nmsOf ls).length + (wlsOf ls).length
  | [] => rfl
  | .pt n m o :: r => by
    have := ln_count r
    show r.length + 1 = (nmsOf r).length + 1 + (wlsOf r).length
    omega
  | .wl a b :: r => by
    have := ln_count r
    show r.length + 1 = (nmsOf r).length + ((wlsOf r).length + 1)
    omega
/-- the lines of a bay below points of these names, behind so many own points and walls -/
def okB (ns : List Str) (nc nw : Nat) : List Ln → Prop
  | [] => True
  | .pt n m o :: r => (n ∈ poolN ∧ n ∉ ns ∧ AimB m ns ∧ (∀ b, o = some b → 0 ≤ b ∧ b ≤ 1) ∧ nc < 2) ∧ okB (ns ++ [n]) (nc + 1) nw r
  | .wl a b :: r => (a ∈ ns ∧ b ∈ ns ∧ a ≠ b ∧ nw < 2) ∧ okB ns nc (nw + 1) r
theorem okB_app : ∀ (a b : List Ln) (ns : List Str) (nc nw : Nat), okB ns nc nw a → okB (ns ++ nmsOf a) (nc + (nmsOf a).length) (nw + (wlsOf a).length) b → okB ns nc nw (a ++ b)
  | [], b, ns, nc, nw, _, h => by simpa [nmsOf, wlsOf] using h
  | .pt n m o :: r, b, ns, nc, nw, h1, h2 => ⟨h1.1, okB_app r b (ns ++ [n]) (nc + 1) nw h1.2 (by
      have e : nc + 1 + (nmsOf r).length = nc + (nmsOf (.pt n m o :: r)).length := by show _ = nc + ((nmsOf r).length + 1); omega
      rw [List.append_assoc, e]
      exact h2)⟩
  | .wl x y :: r, b, ns, nc, nw, h1, h2 => ⟨h1.1, okB_app r b ns nc (nw + 1) h1.2 (by
      have e : nw + 1 + (wlsOf r).length = nw + (wlsOf (.wl x y :: r)).length := by show _ = nw + ((wlsOf r).length + 1); omega
      rw [e]
      exact h2)⟩
theorem cut_takeV (ws : List V) (m : Nat) : cutV ws none (some (m : Nat)) = ws.take m := by
  unfold cutV HT.sIx
  dsimp only
  rw [if_neg (by omega), Int.toNat_natCast, List.drop_zero, Nat.sub_zero]
  by_cases h : m ≤ ws.length
  · rw [Nat.min_eq_left h]
  · rw [Nat.min_eq_right (by omega), List.take_of_length_le (by omega), List.take_of_length_le (by omega)]
theorem cut_both (ws : List V) (a b : Nat) (h : b ≤ ws.length) : cutV ws (some (a : Nat)) (some ((a + b : Nat) : Int)) = (ws.drop a).take b := by
  unfold cutV HT.sIx
  dsimp only
  rw [if_neg (by omega), if_neg (by omega), Int.toNat_natCast, Int.toNat_natCast]
  by_cases ha : a ≤ ws.length
  · rw [Nat.min_eq_left ha]
    by_cases hb : a + b ≤ ws.length
    · rw [Nat.min_eq_left hb, Nat.add_sub_cancel_left]
    · rw [Nat.min_eq_right (by omega), List.take_of_length_le (by rw [List.length_drop]; omega), List.take_of_length_le (by rw [List.length_drop]; omega)]
  · rw [List.drop_of_length_le (by omega : ws.length ≤ a), List.drop_of_length_le (by omega : ws.length ≤ min a ws.length)]
    simp
def places6 : List (Int × Int) := [(3, 0), (0, 4), (5, 2), (-4, 1), (2, -2), (0, 0)]
/-- the lore of a bay -/
structure Lore where
  hand : Int
  ss : List Stt
  ls : List Ln
  gs : List Str
def okLore (b : Lore) : Prop := 0 ≤ b.hand ∧ b.hand ≤ 2 ∧ ((∃ n, b.ss = [(n, 0, 0)] ∧ n ∈ poolN) ∨ ∃ n n2 x y, b.ss = [(n, 0, 0), (n2, x, y)] ∧ n ∈ poolN ∧ n2 ∈ poolN ∧ n ≠ n2 ∧ (x, y) ∈ places6) ∧
  okB (b.ss.map Prod.fst) 0 0 b.ls ∧ 0 < (nmsOf b.ls).length ∧ b.gs.Nodup ∧ (∀ g ∈ b.gs, g ∈ b.ss.map Prod.fst ++ nmsOf b.ls) ∧ b.gs.length = b.ss.length
def lrB (h : Int) (S L G : Addr) : List (Key × V) := [(.inr "hand", .int h), (.inr "starts", .ref S), (.inr "lines", .ref L), (.inr "goes", .ref G)]
def LoreAt (H : Hp) (D : Addr) (b : Lore) : Prop := ∃ S L G pss ps, H D = some (.dK (lrB b.hand S L G)) ∧ H S = some (.lst (pss.map V.ref)) ∧ StsAt H pss b.ss ∧ H L = some (.lst (ps.map V.ref)) ∧ LnsAt H ps b.ls ∧ H G = some (.tup (b.gs.map V.str))
section
variable {P : Program} {w : World} {K : Frag} {mg : Str → Option Value} {bs : Heap}
def spBay (K : Frag) : Sp := fun vs H Q _ => ∃ (p : Addr) (k : Int), vs = [.ref p, .int 2] ∧ 0 ≤ k ∧ k < 700000 ∧ Pot H p k ∧
  ∀ H' D S L G pss ps b, But p H H' → Pot H' p (k + 50) → H D = none → H S = none → H L = none → H' D = some (.dK (lrB b.hand S L G)) → H' S = some (.lst (pss.map V.ref)) → StsAt H' pss b.ss → H' L = some (.lst (ps.map V.ref)) → LnsAt H' ps b.ls → H' G = some (.tup (b.gs.map V.str)) → okLore b → Q (.ref D) H'
theorem scBay : FnScope ["pot", "most", "names", "many", "second", "starts", "name", "some", "lines", "walls", "goes", "place"] ["pot", "most"] (defScope sBay) := ⟨rfl, rfl, rfl, by decide +kernel, rfl, by decide +kernel, by decide +kernel⟩
theorem ok_bay {f fT fO fS fN fA : Addr} {fd fdT fdO fdS fdN fdA : FuncData} (FP : FD K "_law_bay" sBay f fd) (F : Dx mg) (gTu : mg "tuple" = none) (FT : FD K "_law_take" sTake fT fdT) (gT : mg "_law_take" = some (.ref fT)) (bT : Binds K fdT ["pot", "upto"] [])
    (FO : FD K "_law_of" sOf fO fdO) (gO : mg "_law_of" = some (.ref fO)) (bO : Binds K fdO ["pot", "some"] [])
    (FS : FD K "_law_some" sSome fS fdS) (gS : mg "_law_some" = some (.ref fS)) (bS : Binds K fdS ["pot", "pool", "many"] [])
    (FN : FD K "_law_names" sNames fN fdN) (gN : mg "_law_names" = some (.ref fN)) (bN : Binds K fdN ["pot", "many"] [])
    (FA : FD K "_law_bay_aim" sBAim fA fdA) (gA : mg "_law_bay_aim" = some (.ref fA)) (bA : Binds K fdA ["pot", "names"] []) : FnOk P w K mg bs CX0 4 f fd ["pot", "most"] (spBay K) := by
  have sc := scBay
  have GT : FnOk P w K mg bs CX0 1 fT fdT ["pot", "upto"] spTake := ok_take FT F
  have GO : FnOk P w K mg bs CX0 2 fO fdO ["pot", "some"] (spOf K) := ok_of FO F FT gT bT
  have GS : FnOk P w K mg bs CX0 2 fS fdS ["pot", "pool", "many"] (spSome K) := ok_some FS F FT gT bT
  have GN : FnOk P w K mg bs CX0 3 fN fdN ["pot", "many"] (spNames K) := ok_names FN F FT gT bT FS gS bS
  have GA : FnOk P w K mg bs CX0 3 fA fdA ["pot", "names"] (spBAim K) := ok_bAim FA F FT gT bT FO gO bO
  refine FP.ok scBay (fun vs H Q E h => ?_) (fun cdv A outer s H vs Q E hr h => ?_)
  · obtain ⟨p, k, rfl, _⟩ := h
    rfl
  · obtain ⟨p, t, rfl, t0, ht, hP, k⟩ := h
    have hr1 : Room 1 (A.deeper (envOfC "_law_bay" (defScope sBay) s.heap.objs.size f cdv)) := hr.mono (by decide)
    have hr2 : Room 2 (A.deeper (envOfC "_law_bay" (defScope sBay) s.heap.objs.size f cdv)) := hr.mono (by decide)
    refine ⟨_, pss_cons (ps_par (i := 2) (j := 3) rfl sc.nd rfl rfl (by decide) rfl rfl (pa_cons (pe_call GN hr (by rfl) gN FN.kp bN .nil pass0 (pa_cons (pv 0) (pa_cons pe_int pa_nil)))
          (pa_cons (pe_op op_add pe_int (pe_call GT hr1 (by rfl) gT FT.kp bT .nil pass0 (pa_cons (pv 0) (pa_cons pe_int pa_nil)))) pa_nil)) rfl)
      (pss_cons (ps_set (i := 4) sc.nd rfl (Or.inl rfl) (pe_call GO hr2 (by rfl) gO FO.kp bO .nil pass0 (pa_cons (pv 0) (pa_cons (pe_lst (pa_cons (pe_tup (pa_cons pe_int (pa_cons pe_int pa_nil))) (pa_cons (pe_tup (pa_cons pe_int (pa_cons pe_int pa_nil)))
          (pa_cons (pe_tup (pa_cons pe_int (pa_cons pe_int pa_nil))) (pa_cons (pe_tup (pa_cons (pe_un un_neg pe_int) (pa_cons pe_int pa_nil))) (pa_cons (pe_tup (pa_cons pe_int (pa_cons (pe_un un_neg pe_int) pa_nil))) (pa_cons (pe_tup (pa_cons pe_int (pa_cons pe_int pa_nil))) pa_nil))))))) pa_nil))))
      (pss_cons (ps_set (i := 5) sc.nd rfl (Or.inl rfl) (pe_slice sl_list (pe_lst (pa_cons (pe_tup (pa_cons (pe_ix ix_list (pv 2) pe_int (fun _ _ => rfl)) (pa_cons (pe_tup (pa_cons pe_int (pa_cons pe_int pa_nil))) pa_nil)))
          (pa_cons (pe_tup (pa_cons (pe_ix ix_list (pv 2) pe_int (fun _ _ => rfl)) (pa_cons (pv 4) pa_nil))) pa_nil))) po_none (po_some (pv 3))))
      (pss_cons (ps_par3 (i := 7) (j := 8) (l := 9) rfl sc.nd rfl rfl rfl (by decide) (by decide) (by decide) rfl rfl rfl (pa_cons (pe_lc (own := [("name", 6), ("place", 11)]) (g := gTup K 2 (gCons (gName 6) (gCons (gName 11) gNil))) (by rfl) sc.nd (pi_list (pv 5)) (blkOk_by (N := ["pot", "most", "names", "many", "second", "starts", "name", "some", "lines", "walls", "goes", "place"]) (sc := defScope sBay) (by decide +kernel))
              (fun _ _ _ _ _ => pg_tup rfl (pgs_cons (pg_name (i := 6) sc.nd rfl (Or.inl rfl)) (pgs_cons (pg_name (i := 11) sc.nd rfl (Or.inl rfl)) pgs_nil))) (fun _ _ _ _ _ => pts_nil) (fun _ _ _ _ _ => pv 6)) (pa_cons (pe_lst pa_nil) (pa_cons pe_int pa_nil))) rfl)
      (pss_cons (ps_for PassesOwn.never rfl (pi_list (pe_slice sl_list (pv 2) (po_some (pv 3)) (po_some (pe_op op_add (pe_op op_add (pv 3) pe_int) (pe_call GT hr1 (by rfl) gT FT.kp bT .nil pass0 (pa_cons (pv 0) (pa_cons pe_int pa_nil))))))) (pg_name (i := 6) sc.nd rfl (Or.inl rfl))
        (pss_cons (ps_expr (pe_bm PySem.F.plainAttrs_list PySem.F.slot_list_append PySem.F.type_list_append mt_append (pv 8) (pa_cons (pe_tup (pa_cons pe_str (pa_cons (pv 6)
            (pa_cons (pe_call GA hr (by rfl) gA FA.kp bA .nil pass0 (pa_cons (pv 0) (pa_cons (pv 7) pa_nil))) (pa_cons (pe_call GO hr2 (by rfl) gO FO.kp bO .nil pass0 (pa_cons (pv 0) (pa_cons (pe_lst (pa_cons pe_non (pa_cons pe_non (pa_cons pe_int (pa_cons pe_int pa_nil))))) pa_nil))) pa_nil))))) pa_nil)))
        (pss_cons (ps_expr (pe_bm PySem.F.plainAttrs_list PySem.F.slot_list_append PySem.F.type_list_append mt_append (pv 7) (pa_cons (pv 6) pa_nil)))
        (pss_one (ps_while PassesOwn.never (PW.pt (pw_and (pt_cmpR op_lt (pv 9) pe_int (nomark _)) (pw_and1 (pt_cmpR op_eq (pe_call GT hr1 (by rfl) gT FT.kp bT .nil pass0 (pa_cons (pv 0) (pa_cons pe_int pa_nil))) pe_int (nomark _)))))
            (pss_cons (ps_expr (pe_bm PySem.F.plainAttrs_list PySem.F.slot_list_append PySem.F.type_list_append mt_append (pv 8) (pa_cons (pe_op op_catT (pe_tup (pa_cons pe_str pa_nil)) (pe_callTy call_tuple_of (by rfl) gTu boot_tuple
              (pa_cons (pe_call GS hr2 (by rfl) gS FS.kp bS .nil pass0 (pa_cons (pv 0) (pa_cons (pv 7) (pa_cons pe_int pa_nil)))) pa_nil))) pa_nil)))
            (pss_one (ps_set (i := 9) sc.nd rfl (Or.inl rfl) (pe_op op_add (pv 9) pe_int)))))))))
      (pss_cons (ps_set (i := 10) sc.nd rfl (Or.inl rfl) (pe_callTy call_tuple_of (by rfl) gTu boot_tuple (pa_cons (pe_call GS hr2 (by rfl) gS FS.kp bS .nil pass0 (pa_cons (pv 0) (pa_cons (pe_slice sl_list (pe_revL (pv 7)) po_none (po_some (pe_op op_add (pv 3) pe_int))) (pa_cons (pv 3) pa_nil)))) pa_nil)))
      (pss_one (ps_ret (pe_disp (pps_cons pe_str (pe_call GT hr1 (by rfl) gT FT.kp bT .nil pass0 (pa_cons (pv 0) (pa_cons (pe_op op_add (pv 1) pe_int) pa_nil))) (pps_cons pe_str (pv 5) (pps_cons pe_str (pv 8) (pps_cons pe_str (pv 10) pps_nil)))) (by rfl) (by rfl) (fun z => by cases z) (by decide))))))))), ?_⟩
    refine rd_seq ?_
    refine ⟨_, rfl, p, 4, t, rfl, by decide, t0, by omega, hP, fun H1 Nm us k1 hNm0 hNm hnd hin hlen hP1 => ?_⟩
    refine ⟨_, rfl, p, 2, t + 4, rfl, by decide, by decide, by omega, hP1.mono (by omega), fun H3 i1 k3 hP3 i10 i12 => ?_⟩
    refine ⟨_, _, rfl, rfl, ?_⟩
    obtain ⟨m, hm⟩ : ∃ m : Nat, 1 + i1 = (m : Int) := ⟨(1 + i1).toNat, by omega⟩
    have hm1 : 1 ≤ m := by omega
    have hm2 : m ≤ 2 := by omega
    have nNm : Nm ≠ p := hP.ne hNm0
    have hNm3 := k3 _ _ nNm hNm
    refine ⟨_, _, rfl, ?_⟩
    dsimp only
    rw [hm]
    refine rd_seq (rd_set ?_)
    refine ⟨_, rfl, (by exact (by decide : 2 ≤ sizeLine)), fun A1 hA1 => ?_⟩
    have sA1 : Same H3 (upd H3 A1 (.tup [.int 3, .int 0])) := same_new hA1
    have fA1 : upd H3 A1 (.tup [.int 3, .int 0]) A1 = some (.tup [.int 3, .int 0]) := upd_same
    generalize upd H3 A1 _ = G1 at sA1 fA1 ⊢
    refine ⟨(by exact (by decide : 2 ≤ sizeLine)), fun A2 hA2 => ?_⟩
    have sA2 : Same G1 (upd G1 A2 (.tup [.int 0, .int 4])) := same_new hA2
    have fA2 : upd G1 A2 (.tup [.int 0, .int 4]) A2 = some (.tup [.int 0, .int 4]) := upd_same
    generalize upd G1 A2 _ = G2 at sA2 fA2 ⊢
    refine ⟨(by exact (by decide : 2 ≤ sizeLine)), fun A3 hA3 => ?_⟩
    have sA3 : Same G2 (upd G2 A3 (.tup [.int 5, .int 2])) := same_new hA3
    have fA3 : upd G2 A3 (.tup [.int 5, .int 2]) A3 = some (.tup [.int 5, .int 2]) := upd_same
    generalize upd G2 A3 _ = G3 at sA3 fA3 ⊢
    refine ⟨4, rfl, (by exact (by decide : 2 ≤ sizeLine)), fun A4 hA4 => ?_⟩
    have sA4 : Same G3 (upd G3 A4 (.tup [.int (-4), .int 1])) := same_new hA4
    have fA4 : upd G3 A4 (.tup [.int (-4), .int 1]) A4 = some (.tup [.int (-4), .int 1]) := upd_same
    generalize upd G3 A4 _ = G4 at sA4 fA4 ⊢
    refine ⟨2, rfl, (by exact (by decide : 2 ≤ sizeLine)), fun A5 hA5 => ?_⟩
    have sA5 : Same G4 (upd G4 A5 (.tup [.int 2, .int (-2)])) := same_new hA5
    have fA5 : upd G4 A5 (.tup [.int 2, .int (-2)]) A5 = some (.tup [.int 2, .int (-2)]) := upd_same
    generalize upd G4 A5 _ = G5 at sA5 fA5 ⊢
    refine ⟨(by exact (by decide : 2 ≤ sizeLine)), fun A6 hA6 => ?_⟩
    have sA6 : Same G5 (upd G5 A6 (.tup [.int 0, .int 0])) := same_new hA6
    have fA6 : upd G5 A6 (.tup [.int 0, .int 0]) A6 = some (.tup [.int 0, .int 0]) := upd_same
    generalize upd G5 A6 _ = G6 at sA6 fA6 ⊢
    refine ⟨(by exact (by decide : 6 ≤ sizeLine)), fun L0 hL0 => ?_⟩
    have sG : Same H3 G6 := ((((sA1.trans sA2).trans sA3).trans sA4).trans sA5).trans sA6
    have s0 : Same G6 (upd G6 L0 (.lst ([A1, A2, A3, A4, A5, A6].map V.ref))) := same_new hL0
    have hP6 := (hP3.same sG).same s0
    have dr : ∀ v ∈ [A1, A2, A3, A4, A5, A6].map V.ref, ∃ A x y, v = V.ref A ∧ G6 A = some (.tup [.int x, .int y]) ∧ (x, y) ∈ places6 := by
      intro v hv
      simp only [List.map_cons, List.map_nil, List.mem_cons, List.not_mem_nil, or_false] at hv
      rcases hv with rfl | rfl | rfl | rfl | rfl | rfl
      · exact ⟨A1, _, _, rfl, ((((sA2.trans sA3).trans sA4).trans sA5).trans sA6) _ _ fA1, by decide⟩
      · exact ⟨A2, _, _, rfl, (((sA3.trans sA4).trans sA5).trans sA6) _ _ fA2, by decide⟩
      · exact ⟨A3, _, _, rfl, ((sA4.trans sA5).trans sA6) _ _ fA3, by decide⟩
      · exact ⟨A4, _, _, rfl, (sA5.trans sA6) _ _ fA4, by decide⟩
      · exact ⟨A5, _, _, rfl, sA6 _ _ fA5, by decide⟩
      · exact ⟨A6, _, _, rfl, fA6, by decide⟩
    refine ⟨p, L0, [A1, A2, A3, A4, A5, A6].map V.ref, t + 4 + 1, rfl, (hP3.same sG).ne hL0, SqL.of upd_same, by simp, by simp, by omega, hP6, fun H7 v k7 hP7 hv => ?_⟩
    obtain ⟨A0, x0, y0, rfl, fA0, hxy⟩ := dr v hv
    have k67 : But p G6 H7 := (But.of s0).trans k7
    have nA0 : A0 ≠ p := fun z => by
      obtain ⟨a, b, c, e, _⟩ := hP3.same sG
      rw [z, e] at fA0
      cases fA0
    have fA7 := k67 _ _ nA0 fA0
    have k37 : But p H3 H7 := (But.of sG).trans k67
    have hNm7 := k37 _ _ nNm hNm3
    have kA : But p H H7 := (k1.trans k3).trans k37
    clear dr hv k7 k67 k37 hP6 s0 hL0 sG sA1 sA2 sA3 sA4 sA5 sA6 fA1 fA2 fA3 fA4 fA5 fA6 hA1 hA2 hA3 hA4 hA5 hA6 hNm3 hNm hP3 k1 k3 fA0
    dsimp only
    obtain ⟨n0, n1, n2, n3, rfl⟩ : ∃ n0 n1 n2 n3, us = [n0, n1, n2, n3] := by
      rcases us with _ | ⟨a, _ | ⟨b, _ | ⟨c, _ | ⟨d, _ | ⟨e, r⟩⟩⟩⟩⟩ <;> first | exact ⟨_, _, _, _, rfl⟩ | (simp at hlen)
    refine rd_seq (rd_set ?_)
    refine ⟨_, rfl, Nm, _, 0, .str n0, rfl, rfl, SqL.of hNm7, at0 _ _, (by exact (by decide : 2 ≤ sizeLine)), fun B1 hB1 => ?_⟩
    have sB1 := same_new (o := .tup [.int 0, .int 0]) hB1
    have fB1 : upd H7 B1 (.tup [.int 0, .int 0]) B1 = some (.tup [.int 0, .int 0]) := upd_same
    generalize upd H7 B1 _ = G1 at sB1 fB1 ⊢
    refine ⟨(by exact (by decide : 2 ≤ sizeLine)), fun B2 hB2 => ?_⟩
    have sB2 := same_new (o := .tup [.str n0, .ref B1]) hB2
    have fB2 : upd G1 B2 (.tup [.str n0, .ref B1]) B2 = some (.tup [.str n0, .ref B1]) := upd_same
    generalize upd G1 B2 _ = G2 at sB2 fB2 ⊢
    have hNmG := (sB1.trans sB2) _ _ hNm7
    refine ⟨_, rfl, Nm, _, 1, .str n1, rfl, rfl, SqL.of hNmG, at1 _ _ _, _, rfl, (by exact (by decide : 2 ≤ sizeLine)), fun B3 hB3 => ?_⟩
    have sB3 := same_new (o := .tup [.str n1, .ref A0]) hB3
    have fB3 : upd G2 B3 (.tup [.str n1, .ref A0]) B3 = some (.tup [.str n1, .ref A0]) := upd_same
    generalize upd G2 B3 _ = G3 at sB3 fB3 ⊢
    refine ⟨(by exact (by decide : 2 ≤ sizeLine)), fun B4 hB4 => ?_⟩
    have sB4 := same_new (o := .lst ([B2, B3].map V.ref)) hB4
    have fB4 : upd G3 B4 (.lst ([B2, B3].map V.ref)) B4 = some (.lst ([B2, B3].map V.ref)) := upd_same
    change tNoPart _ (upd G3 B4 (.lst ([B2, B3].map V.ref))) _
    generalize upd G3 B4 (.lst ([B2, B3].map V.ref)) = G4 at sB4 fB4 ⊢
    refine ⟨_, rfl, _, rfl, B4, _, rfl, SqL.of fB4, fun Sa hSa => ?_⟩
    rw [cut_takeV]
    have s74 : Same H7 G4 := ((sB1.trans sB2).trans sB3).trans sB4
    obtain ⟨SS, pss, epss, hst4, esn, lSS, okSS⟩ : ∃ (SS : List Stt) (pss : List Addr), ([B2, B3].map V.ref).take m = pss.map V.ref ∧ StsAt G4 pss SS ∧ SS.map Prod.fst = [n0, n1, n2, n3].take m ∧ SS.length = m ∧
        ((∃ n, SS = [(n, 0, 0)] ∧ n ∈ poolN) ∨ ∃ n n2 x y, SS = [(n, 0, 0), (n2, x, y)] ∧ n ∈ poolN ∧ n2 ∈ poolN ∧ n ≠ n2 ∧ (x, y) ∈ places6) := by
      have a1 : StAt G4 B2 (n0, 0, 0) := ⟨B1, (sB3.trans sB4) _ _ fB2, ((sB2.trans sB3).trans sB4) _ _ fB1⟩
      have a2 : StAt G4 B3 (n1, x0, y0) := ⟨A0, sB4 _ _ fB3, s74 _ _ fA7⟩
      have m12 : m = 1 ∨ m = 2 := by omega
      rcases m12 with rfl | rfl
      · refine ⟨[(n0, 0, 0)], [B2], rfl, ⟨rfl, fun j a b ha hb => ?_⟩, rfl, rfl, .inl ⟨n0, rfl, hin _ (by simp)⟩⟩
        cases j with
        | zero => cases ha; cases hb; exact a1
        | succ j => simp at ha
      · refine ⟨[(n0, 0, 0), (n1, x0, y0)], [B2, B3], rfl, ⟨rfl, fun j a b ha hb => ?_⟩, rfl, rfl, .inr ⟨n0, n1, x0, y0, rfl, hin _ (by simp), hin _ (by simp), fun z => ?_, hxy⟩⟩
        · cases j with
          | zero => cases ha; cases hb; exact a1
          | succ j =>
            cases j with
            | zero => cases ha; cases hb; exact a2
            | succ j => simp at ha
        · rw [z] at hnd
          simp at hnd
    rw [epss]
    obtain ⟨us, hus⟩ : ∃ us, [n0, n1, n2, n3] = us := ⟨_, rfl⟩
    rw [hus] at hnd hin hlen hNm7 hNmG esn
    have lpss : pss.length = SS.length := hst4.1
    have s5 : Same G4 (upd G4 Sa (.lst (pss.map V.ref))) := same_new hSa
    have fSa : upd G4 Sa (.lst (pss.map V.ref)) Sa = some (.lst (pss.map V.ref)) := upd_same
    have nSa : Sa ≠ p := (hP7.same s74).ne hSa
    generalize upd G4 Sa (.lst (pss.map V.ref)) = G5 at s5 fSa ⊢
    have s75 := s74.trans s5
    have hst5 := hst4.map (tup_same s5)
    have hNm5 := s75 _ _ hNm7
    have hP5 := hP7.same s75
    have hSa0 : H Sa = none := (kA.trans (But.of s74)).free hSa (hP7.same s74).some.choose_spec
    dsimp only
    refine rd_seq ?_
    refine ⟨_, rfl, Sa, rfl, ⟨_, SqL.of fSa⟩, fun Sm hSm => lc_it (walk_list (K := K) (a := Sa) (xs := pss.map V.ref)) (fun j H' => Same G5 H' ∧ H' Sm = some (.lst (((SS.take j).map Prod.fst).map V.str))) ⟨same_new hSm, upd_same⟩ (fun _ _ _ u => SqL.of (u.1 _ _ fSa)) ?_ ?_⟩
    · rintro j v H9 H10 hj ⟨s9, d9⟩ ⟨rfl, hv⟩
      have hj' : j < pss.length := by simpa using hj
      have hj2 : j < SS.length := by rw [← lpss]; exact hj'
      rw [List.getElem?_map, List.getElem?_eq_getElem hj'] at hv
      cases hv
      obtain ⟨qq, k1, k2⟩ := (hst5.map (tup_same s9)).2 j _ _ (List.getElem?_eq_getElem hj') (List.getElem?_eq_getElem hj2)
      refine ⟨_, _, rfl, SqT.of k1, rfl, _, _, rfl, _, _, rfl, rfl, rfl, rd_yes rfl ?_⟩
      refine ⟨_, rfl, _, d9, ?_, s9.mut hSm, ?_⟩
      · rw [List.length_map, List.length_map, List.length_take]
        exact Nat.lt_of_le_of_lt (by omega : min j SS.length ≤ 10) (by decide)
      · rw [upd_same, List.take_succ, List.getElem?_eq_getElem hj2, List.map_append, List.map_append]
        rfl
    rintro G6 ⟨s6, fSm⟩
    rw [List.length_map, lpss, List.take_length] at fSm
    have nSm : Sm ≠ p := hP5.ne hSm
    have hSm0 : H Sm = none := (kA.trans (But.of s75)).free hSm hP5.some.choose_spec
    have nSaSm : Sa ≠ Sm := ne_of_none fSa hSm
    refine ⟨Nat.zero_le _, fun Ls hLs => ?_⟩
    have s7 : Same G6 (upd G6 Ls (.lst [])) := same_new hLs
    have fLs : upd G6 Ls (.lst []) Ls = some (.lst []) := upd_same
    have hP6 := hP5.same s6
    have nLs : Ls ≠ p := hP6.ne hLs
    have nSmLs : Sm ≠ Ls := ne_of_none fSm hLs
    have nSaLs : Sa ≠ Ls := ne_of_none (s6 _ _ fSa) hLs
    have hLs0 : H Ls = none := ((kA.trans (But.of s75)).trans (But.of s6)).free hLs hP6.some.choose_spec
    generalize upd G6 Ls (.lst []) = G7 at s7 fLs ⊢
    have s57 := s6.trans s7
    have fSm7 := s7 _ _ fSm
    have fSa7 := s57 _ _ fSa
    have hst7 := hst5.map (tup_same s57)
    have hNm8 := s57 _ _ hNm5
    have hPG := hP5.same s57
    have kB : But p H G7 := (kA.trans (But.of s75)).trans (But.of s57)
    clear hst5 hst4 fSa fSm s6 s7 s57 s75 s74 s5 hP5 hP6 hP7 sB1 sB2 sB3 sB4 fB1 fB2 fB3 fB4 hB1 hB2 hB3 hB4 hNmG hNm7 hNm5 fA7 hSa hSm hLs kA
    refine ⟨_, _, _, rfl, ?_⟩
    dsimp only
    refine rd_seq ?_
    refine ⟨_, rfl, _, rfl, _, rfl, _, rfl, _, _, rfl, rfl, _, rfl, p, 2, t + 4 + 1 + 1, rfl, by decide, by decide, by omega, hPG, fun H9 j9 k9 hP9 j0 j2 => ?_⟩
    obtain ⟨c, hc⟩ : ∃ c : Nat, 1 + j9 = (c : Int) := ⟨(1 + j9).toNat, by omega⟩
    have hc1 : 1 ≤ c := by omega
    have hc2 : c ≤ 2 := by omega
    refine ⟨_, _, rfl, rfl, _, rfl, Nm, _, rfl, SqL.of (k9 _ _ nNm hNm8), fun Z hZ => ?_⟩
    have ez : cutV (us.map V.str) (some ((m : Int))) (some ((m : Int) + 1 + j9)) = ((us.drop m).take c).map V.str := by
      rw [show ((m : Int) + 1 + j9) = ((m + c : Nat) : Int) by omega, cut_both _ _ _ (by rw [List.length_map, hlen]; omega), List.map_take, List.map_drop]
    rw [ez]
    have lz : ((us.drop m).take c).length = c := by rw [List.length_take, List.length_drop, hlen]; omega
    have huz : us.take m ++ (us.drop m).take c = us.take (m + c) := by rw [List.take_add]
    have hndz : (SS.map Prod.fst ++ (us.drop m).take c).Nodup := by rw [esn, huz]; exact hnd.sublist (List.take_sublist _ _)
    have hinz : ∀ v ∈ (us.drop m).take c, v ∈ poolN := fun v hv => hin v (List.mem_of_mem_drop (List.mem_of_mem_take hv))
    generalize (us.drop m).take c = zs at lz hndz hinz ⊢
    have lsn : (SS.map Prod.fst).length = m := by rw [List.length_map, lSS]
    have sZ : Same H9 (upd H9 Z (.lst (zs.map V.str))) := same_new hZ
    have fZ : upd H9 Z (.lst (zs.map V.str)) Z = some (.lst (zs.map V.str)) := upd_same
    have kZ : But p G7 (upd H9 Z (.lst (zs.map V.str))) := k9.trans (But.of sZ)
    have hPZ := hP9.same sZ
    have nZ : Z ≠ p := hP9.ne hZ
    have fSm9 := k9 _ _ nSm fSm7
    have fLs9 := k9 _ _ nLs fLs
    have nSmZ : Sm ≠ Z := ne_of_none fSm9 hZ
    have nLsZ : Ls ≠ Z := ne_of_none fLs9 hZ
    generalize upd H9 Z (.lst (zs.map V.str)) = H10 at sZ fZ kZ hPZ ⊢
    have tupB0 : ∀ {H' H'' : Hp} {k : Int}, Pot H' p k → But p H' H'' → ∀ a vs, H' a = some (.tup vs) → H'' a = some (.tup vs) := fun hP k a vs e => k _ _ (fun z => by rw [z] at e; obtain ⟨_, _, _, ep, _⟩ := hP; rw [ep] at e; cases e) e
    refine ⟨Z, rfl, ⟨_, SqL.of fZ⟩, for_it (walk_list (K := K) (a := Z) (xs := zs.map V.str)) (fun i σ H' => ∃ (v6 : Option V) (ps : List Addr) (ls : List Ln), σ = [some (.ref p), some (.int 2), some (.ref Nm), some (.int (m : Nat)), some (.ref A0), some (.ref Sa), v6, some (.ref Sm), some (.ref Ls), some (.int ((wlsOf ls).length : Nat)), none, none] ∧ But p H H' ∧ H' Z = some (.lst (zs.map V.str)) ∧
      H' Sm = some (.lst ((SS.map Prod.fst ++ zs.take i).map V.str)) ∧ H' Ls = some (.lst (ps.map V.ref)) ∧ LnsAt H' ps ls ∧ okB (SS.map Prod.fst) 0 0 ls ∧ nmsOf ls = zs.take i ∧ (wlsOf ls).length ≤ 2 ∧ H' Sa = some (.lst (pss.map V.ref)) ∧ StsAt H' pss SS ∧ Pot H' p (t + 7 + 8 * i + 3 * (wlsOf ls).length))
      ⟨none, [], [], rfl, kB.trans kZ, fZ, by rw [List.take_zero, List.append_nil]; exact kZ _ _ nSm fSm7, kZ _ _ nLs fLs, ⟨rfl, fun i p l e => by simp at e⟩, trivial, rfl, by simp [wlsOf], kZ _ _ nSa fSa7, hst7.map (tupB0 hPG kZ), hPZ.mono (by simp [wlsOf]; omega)⟩ (fun i σ H' _ u => ?_) ?_ ?_⟩
    · obtain ⟨_, _, _, _, _, u, _⟩ := u
      exact SqL.of u
    · rintro i x σ H60 H6 hi ⟨v6, ps, ls, rfl, kH, hZ6, hSm6, hLs6, hls, hok, hnms, hwl, hSa6, hst6, hP6⟩ ⟨rfl, hx⟩
      have hi' : i < zs.length := by simpa using hi
      have hx2 : x = .str zs[i] := by
        rw [List.getElem?_map, List.getElem?_eq_getElem hi'] at hx
        exact (Option.some.inj hx).symm
      subst hx2
      have htake : zs.take (i + 1) = zs.take i ++ [zs[i]] := by rw [List.take_succ, List.getElem?_eq_getElem hi']; rfl
      have hui : zs[i] ∈ zs := List.getElem_mem hi'
      have hnt : (SS.map Prod.fst ++ zs.take (i + 1)).Nodup := hndz.sublist (List.Sublist.append_left (List.take_sublist _ _) _)
      generalize zs[i] = u at htake hui ⊢
      have hnot : u ∉ SS.map Prod.fst ++ zs.take i := fun q => by
        rw [htake, ← List.append_assoc] at hnt
        exact (List.nodup_append.mp hnt).2.2 _ q _ (List.mem_singleton.mpr rfl) rfl
      have lt : (zs.take i).length = i := by rw [List.length_take]; omega
      have lnm : (nmsOf ls).length = i := by rw [hnms, lt]
      have lcnt : ls.length = i + (wlsOf ls).length := by rw [ln_count, lnm]
      have lps : ps.length = ls.length := hls.1
      dsimp only
      refine rd_seq ?_
      have lSm : (SS.map Prod.fst ++ zs.take i).length = m + i := by rw [List.length_append, lsn, lt]
      have nZs : Z ≠ Ls := Ne.symm nLsZ
      refine ⟨_, rfl, .inl ⟨rfl, _, SqL.of hLs6⟩, _, rfl, _, rfl, _, rfl, p, Sm, SS.map Prod.fst ++ zs.take i, t + 7 + 8 * i + 3 * (wlsOf ls).length, rfl, nSm, SqL.of hSm6, by omega, by omega, by omega, by omega, hP6, fun HA q ma kA hq0 hq hma hPA => ?_⟩
      refine ⟨_, rfl, (by exact (by decide : 4 ≤ sizeLine)), fun LN hLN => ?_⟩
      have sN : Same HA (upd HA LN (.lst [.non, .non, .int 0, .int 1])) := same_new hLN
      refine ⟨p, LN, [.non, .non, .int 0, .int 1], t + 7 + 8 * i + 3 * (wlsOf ls).length + 4, rfl, hPA.ne hLN, SqL.of upd_same, by simp, by simp, by omega, hPA.same sN, fun HB vb kB' hPB hvb => ?_⟩
      obtain ⟨o, rfl, ho⟩ : ∃ o : Option Int, vb = optV o ∧ ∀ b, o = some b → 0 ≤ b ∧ b ≤ 1 := by
        simp only [List.mem_cons, List.not_mem_nil, or_false] at hvb
        rcases hvb with rfl | rfl | rfl | rfl
        · exact ⟨none, rfl, fun b e => by cases e⟩
        · exact ⟨none, rfl, fun b e => by cases e⟩
        · exact ⟨some 0, rfl, fun b e => by cases e; decide⟩
        · exact ⟨some 1, rfl, fun b e => by cases e; decide⟩
      have kAB : But p HA HB := (But.of sN).trans kB'
      have nq : q ≠ p := hP6.ne hq0
      have k6B : But p H6 HB := kA.trans kAB
      refine ⟨(by exact (by decide : 4 ≤ sizeLine)), fun T1 hT1 => ?_⟩
      have sT1 : Same HB (upd HB T1 (.tup [.str "point", .str u, .ref q, optV o])) := same_new hT1
      have fT1 : upd HB T1 (.tup [.str "point", .str u, .ref q, optV o]) T1 = some (.tup [.str "point", .str u, .ref q, optV o]) := upd_same
      have fq1 := sT1 _ _ (kAB _ _ nq hq)
      have kHC : But p H (upd HB T1 (.tup [.str "point", .str u, .ref q, optV o])) := (kH.trans k6B).trans (But.of sT1)
      have hZC := sT1 _ _ (k6B _ _ nZ hZ6)
      have hSmC := sT1 _ _ (k6B _ _ nSm hSm6)
      have hLsC := sT1 _ _ (k6B _ _ nLs hLs6)
      have hSaC := sT1 _ _ (k6B _ _ nSa hSa6)
      have tkC := TK.trans (fun a vs e => tupB0 hP6 k6B a vs e) (tup_same sT1)
      have hlsC := hls.map tkC
      have hstC := hst6.map tkC
      have hPC := hPB.same sT1
      generalize upd HB T1 (.tup [.str "point", .str u, .ref q, optV o]) = HC at fT1 fq1 kHC hZC hSmC hLsC hSaC hlsC hstC hPC ⊢
      clear tkC sT1 kAB k6B kB' sN kA hq hPA hPB hvb hZ6 hSm6 hLs6 hSa6 hls hst6 hP6 kH hLN hT1
      refine ⟨Ls, _, _, rfl, rfl, hLsC, Nat.lt_of_le_of_lt (by rw [List.length_map, lps]; omega : (ps.map V.ref).length ≤ 100) (by decide), ?_⟩
      have em : ps.map V.ref ++ [V.ref T1] = (ps ++ [T1]).map V.ref := by rw [List.map_append]; rfl
      rw [em]
      have fLsD : upd HC Ls (.lst ((ps ++ [T1]).map V.ref)) Ls = some (.lst ((ps ++ [T1]).map V.ref)) := upd_same
      have tkD : TK HC (upd HC Ls (.lst ((ps ++ [T1]).map V.ref))) := tup_upd hLsC
      have hlsD : LnsAt (upd HC Ls (.lst ((ps ++ [T1]).map V.ref))) (ps ++ [T1]) (ls ++ [.pt u ma o]) := snoc_at (hlsC.map tkD) ⟨q, tkD _ _ fT1, tkD _ _ fq1⟩
      have hstD := hstC.map tkD
      have hZD : upd HC Ls (.lst ((ps ++ [T1]).map V.ref)) Z = _ := (upd_ne nZs).trans hZC
      have hSmD : upd HC Ls (.lst ((ps ++ [T1]).map V.ref)) Sm = _ := (upd_ne nSmLs).trans hSmC
      have hSaD : upd HC Ls (.lst ((ps ++ [T1]).map V.ref)) Sa = _ := (upd_ne nSaLs).trans hSaC
      have hPD : Pot (upd HC Ls (.lst ((ps ++ [T1]).map V.ref))) p (t + 7 + 8 * i + 3 * (wlsOf ls).length + 5) := by
        obtain ⟨a1, b1, c1, e, r1⟩ := hPC.mono (by omega : t + 7 + 8 * i + 3 * (wlsOf ls).length + 4 + 1 ≤ t + 7 + 8 * i + 3 * (wlsOf ls).length + 5)
        exact ⟨a1, b1, c1, (upd_ne (Ne.symm nLs)).trans e, r1⟩
      have kHD : But p H (upd HC Ls (.lst ((ps ++ [T1]).map V.ref))) := kHC.mut hLs0
      have enm : nmsOf (ls ++ [.pt u ma o]) = zs.take (i + 1) := by rw [nms_app, hnms, htake]; rfl
      have ewl : wlsOf (ls ++ [.pt u ma o]) = wlsOf ls := by rw [wls_app]; exact List.append_nil _
      have okD : okB (SS.map Prod.fst) 0 0 (ls ++ [.pt u ma o]) := okB_app ls _ _ 0 0 hok ⟨⟨hinz u hui, by rw [hnms]; exact hnot, by rw [hnms]; exact hma, ho, by rw [lnm]; omega⟩, trivial⟩
      generalize upd HC Ls (.lst ((ps ++ [T1]).map V.ref)) = HD at fLsD hlsD hstD hZD hSmD hSaD hPD kHD ⊢
      rw [← ewl] at hPD hwl
      have eσ : (wlsOf ls).length = (wlsOf (ls ++ [.pt u ma o])).length := by rw [ewl]
      rw [eσ]
      generalize ls ++ [.pt u ma o] = ls1 at hlsD enm okD hPD hwl ⊢
      generalize ps ++ [T1] = ps1 at fLsD hlsD
      clear hLsC hlsC hstC hZC hSmC hSaC hPC kHC fT1 fq1 tkD ewl eσ em lps lcnt lnm hok hnms
      dsimp only
      refine rd_seq ?_
      refine ⟨_, rfl, .inl ⟨rfl, _, SqL.of hSmD⟩, _, rfl, Sm, _, _, rfl, rfl, hSmD, Nat.lt_of_le_of_lt (by rw [List.length_map, lSm]; omega : _ ≤ 100) (by decide), ?_⟩
      have em2 : (SS.map Prod.fst ++ zs.take i).map V.str ++ [V.str u] = (SS.map Prod.fst ++ zs.take (i + 1)).map V.str := by
        rw [htake, ← List.append_assoc]
        exact (List.map_append (f := V.str) (l₁ := SS.map Prod.fst ++ zs.take i) (l₂ := [u])).symm
      rw [em2]
      have fSmE : upd HD Sm (.lst ((SS.map Prod.fst ++ zs.take (i + 1)).map V.str)) Sm = some (.lst ((SS.map Prod.fst ++ zs.take (i + 1)).map V.str)) := upd_same
      have tkE : TK HD (upd HD Sm (.lst ((SS.map Prod.fst ++ zs.take (i + 1)).map V.str))) := tup_upd hSmD
      have hlsE := hlsD.map tkE
      have hstE := hstD.map tkE
      have hZE : upd HD Sm (.lst ((SS.map Prod.fst ++ zs.take (i + 1)).map V.str)) Z = _ := (upd_ne (Ne.symm nSmZ)).trans hZD
      have hLsE : upd HD Sm (.lst ((SS.map Prod.fst ++ zs.take (i + 1)).map V.str)) Ls = _ := (upd_ne (Ne.symm nSmLs)).trans fLsD
      have hSaE : upd HD Sm (.lst ((SS.map Prod.fst ++ zs.take (i + 1)).map V.str)) Sa = _ := (upd_ne nSaSm).trans hSaD
      have hPE : Pot (upd HD Sm (.lst ((SS.map Prod.fst ++ zs.take (i + 1)).map V.str))) p (t + 7 + 8 * i + 3 * (wlsOf ls1).length + 5) := by
        obtain ⟨a1, b1, c1, e, r1⟩ := hPD
        exact ⟨a1, b1, c1, (upd_ne (Ne.symm nSm)).trans e, r1⟩
      have kHE : But p H (upd HD Sm (.lst ((SS.map Prod.fst ++ zs.take (i + 1)).map V.str))) := kHD.mut hSm0
      generalize upd HD Sm (.lst ((SS.map Prod.fst ++ zs.take (i + 1)).map V.str)) = HE at fSmE hlsE hstE hZE hLsE hSaE hPE kHE ⊢
      clear hlsD hstD hZD hSmD hSaD hPD kHD fLsD tkE em2 lSm
      have lSm : (SS.map Prod.fst ++ zs.take (i + 1)).length = m + (i + 1) := by rw [List.length_append, lsn, List.length_take]; omega
      dsimp only
      refine ⟨fun m' σ' H' => ∃ (ps : List Addr) (ls : List Ln), σ' = [some (.ref p), some (.int 2), some (.ref Nm), some (.int (m : Nat)), some (.ref A0), some (.ref Sa), some (.str u), some (.ref Sm), some (.ref Ls), some (.int ((wlsOf ls).length : Nat)), none, none] ∧ But p H H' ∧ H' Z = some (.lst (zs.map V.str)) ∧
        H' Sm = some (.lst ((SS.map Prod.fst ++ zs.take (i + 1)).map V.str)) ∧ H' Ls = some (.lst (ps.map V.ref)) ∧ LnsAt H' ps ls ∧ okB (SS.map Prod.fst) 0 0 ls ∧ nmsOf ls = zs.take (i + 1) ∧ (wlsOf ls).length ≤ 2 ∧ H' Sa = some (.lst (pss.map V.ref)) ∧ StsAt H' pss SS ∧ Pot H' p (t + 7 + 8 * i + 3 * (wlsOf ls).length + 5) ∧ m' = 2 - (wlsOf ls).length,
        ⟨_, ps1, ls1, rfl, kHE, hZE, fSmE, hLsE, hlsE, okD, enm, hwl, hSaE, hstE, hPE, rfl⟩, ?_⟩
      clear fSmE hlsE hstE hZE hLsE hSaE hPE kHE okD enm hwl
      rintro m' σ' H2 ⟨ps2, ls2, rfl, kD, hZ2, hSm2, hLs2, hls2, okD, enD, hwD, hSa2, hst2, hPD, rfl⟩
      have lt1 : (zs.take (i + 1)).length = i + 1 := by rw [List.length_take]; omega
      have lcnt : ls2.length = i + 1 + (wlsOf ls2).length := by rw [ln_count, enD, lt1]
      have lps : ps2.length = ls2.length := hls2.1
      have out : ∀ H', But p H2 H' → Pot H' p (t + 7 + 8 * i + 3 * (wlsOf ls2).length + 6) → ∃ (v6 : Option V) (ps : List Addr) (ls : List Ln),
          ([some (.ref p), some (.int 2), some (.ref Nm), some (.int (m : Nat)), some (.ref A0), some (.ref Sa), some (.str u), some (.ref Sm), some (.ref Ls), some (.int ((wlsOf ls2).length : Nat)), none, none] : St) =
            [some (.ref p), some (.int 2), some (.ref Nm), some (.int (m : Nat)), some (.ref A0), some (.ref Sa), v6, some (.ref Sm), some (.ref Ls), some (.int ((wlsOf ls).length : Nat)), none, none] ∧ But p H H' ∧ H' Z = some (.lst (zs.map V.str)) ∧
      H' Sm = some (.lst ((SS.map Prod.fst ++ zs.take (i + 1)).map V.str)) ∧ H' Ls = some (.lst (ps.map V.ref)) ∧ LnsAt H' ps ls ∧ okB (SS.map Prod.fst) 0 0 ls ∧ nmsOf ls = zs.take (i + 1) ∧ (wlsOf ls).length ≤ 2 ∧ H' Sa = some (.lst (pss.map V.ref)) ∧ StsAt H' pss SS ∧ Pot H' p (t + 7 + 8 * ((i + 1 : Nat) : Int) + 3 * (wlsOf ls).length) := fun H' kb hP' =>
        ⟨_, ps2, ls2, rfl, kD.trans kb, kb _ _ nZ hZ2, kb _ _ nSm hSm2, kb _ _ nLs hLs2, hls2.map (tupB0 hPD kb), okD, enD, hwD, kb _ _ nSa hSa2, hst2.map (tupB0 hPD kb), hP'.mono (by omega)⟩
      refine ⟨_, rfl, _, _, rfl, rfl, _, rfl, ?_⟩
      by_cases hw : (((wlsOf ls2).length : Nat) : Int) < 2
      case neg =>
        refine Eq.mpr (if_neg (fun q => hw (of_decide_eq_true q))) ?_
        refine Eq.mpr (if_neg Bool.false_ne_true) ?_
        exact out H2 (But.refl _ _) (hPD.mono (by omega))
      refine Eq.mpr (if_pos (decide_eq_true hw)) ?_
      refine ⟨_, rfl, p, 3, t + 7 + 8 * i + 3 * (wlsOf ls2).length + 5, rfl, by decide, by decide, by omega, hPD, fun HE r kE hPE r0 r3 => ⟨rfl, _, rfl, ?_⟩⟩
      by_cases hr0 : V.int r = V.int 0
      case neg =>
        refine Eq.mpr (if_neg (fun q => hr0 (of_decide_eq_true q))) ?_
        exact out HE kE (hPE.mono (by omega))
      refine Eq.mpr (if_pos (decide_eq_true hr0)) ?_
      refine ⟨_, fun σ' H' h => h, ?_⟩
      clear out
      have kHE := kD.trans kE
      have hZE := kE _ _ nZ hZ2
      have hSmE := kE _ _ nSm hSm2
      have hLsE := kE _ _ nLs hLs2
      have hSaE := kE _ _ nSa hSa2
      have tkE := fun a vs e => tupB0 hPD kE a vs e
      have hlsE := hls2.map tkE
      have hstE := hst2.map tkE
      clear tkE hZ2 hSm2 hLs2 hSa2 hls2 hst2 hPD kD kE
      refine rd_seq ?_
      refine ⟨_, rfl, .inl ⟨rfl, _, SqL.of hLsE⟩, (by exact (by decide : 1 ≤ sizeLine)), fun TW hTW => ?_⟩
      have sW : Same HE (upd HE TW (.tup [.str "wall"])) := same_new hTW
      have fW : upd HE TW (.tup [.str "wall"]) TW = some (.tup [.str "wall"]) := upd_same
      have hPW := hPE.same sW
      have nTW : TW ≠ p := hPE.ne hTW
      have hSmW := sW _ _ hSmE
      generalize upd HE TW (.tup [.str "wall"]) = HW at sW fW hPW hSmW ⊢
      have lSm2 : ((SS.map Prod.fst ++ zs.take (i + 1)).map V.str).length = m + (i + 1) := by rw [List.length_map, lSm]
      refine ⟨_, rfl, _, rfl, p, Sm, _, 2, t + 7 + 8 * i + 3 * (wlsOf ls2).length + 5 + 1, rfl, nSm, SqL.of hSmW, by omega, by omega, by omega, by omega, hPW, fun HG q ys rest kG hq0 hq pm ly hPG => ?_⟩
      obtain ⟨xs, rfl, hxn, hxi⟩ := some_strs pm hnt
      rw [List.length_map] at ly
      obtain ⟨x, y, rfl⟩ : ∃ x y, xs = [x, y] := by
        rcases xs with _ | ⟨x, _ | ⟨y, _ | ⟨z, r⟩⟩⟩
        · cases ly
        · cases ly
        · exact ⟨_, _, rfl⟩
        · simp only [List.length_cons] at ly; omega
      have hxy2 : x ≠ y := fun e => by
        rw [e] at hxn
        exact (List.nodup_cons.mp hxn).1 (List.mem_singleton.mpr rfl)
      refine ⟨q, _, rfl, .inl ⟨SqL.of hq, fun T2 hT2 => ?_⟩⟩
      have s2 := same_new (o := .tup ([x, y].map V.str)) hT2
      have f2 : upd HG T2 (.tup ([x, y].map V.str)) T2 = some (.tup ([x, y].map V.str)) := upd_same
      have kEG := (But.of sW).trans (kG.trans (But.of s2))
      have hPH := hPG.same s2
      have fWH := s2 _ _ (kG _ _ nTW fW)
      generalize upd HG T2 (.tup ([x, y].map V.str)) = HH at s2 f2 kEG hPH fWH ⊢
      refine ⟨TW, T2, _, _, rfl, rfl, SqT.of fWH, SqT.of f2, (fun q => by cases q), (by exact (by decide : 3 ≤ sizeLine)), (fun q => by cases q), fun _ T3 hT3 => ?_⟩
      have s3 : Same HH (upd HH T3 (.tup ([.str "wall"] ++ [x, y].map V.str))) := same_new hT3
      have f3 : upd HH T3 (.tup ([.str "wall"] ++ [x, y].map V.str)) T3 = some (.tup [.str "wall", .str x, .str y]) := upd_same
      have kEI := kEG.trans (But.of s3)
      have hPI := hPH.same s3
      generalize upd HH T3 (.tup ([.str "wall"] ++ [x, y].map V.str)) = HI at s3 f3 kEI hPI ⊢
      have hZI := kEI _ _ nZ hZE
      have hSmI := kEI _ _ nSm hSmE
      have hLsI := kEI _ _ nLs hLsE
      have hSaI := kEI _ _ nSa hSaE
      have tkI := fun a vs e => tupB0 hPE kEI a vs e
      have hlsI := hlsE.map tkI
      have hstI := hstE.map tkI
      refine ⟨Ls, _, _, rfl, rfl, hLsI, Nat.lt_of_le_of_lt (by rw [List.length_map, lps]; omega : (ps2.map V.ref).length ≤ 100) (by decide), ?_⟩
      have em : ps2.map V.ref ++ [V.ref T3] = (ps2 ++ [T3]).map V.ref := by rw [List.map_append]; rfl
      rw [em]
      have ewl : wlsOf (ls2 ++ [.wl x y]) = wlsOf ls2 ++ [(x, y)] := wls_app _ _
      have lwl : (wlsOf (ls2 ++ [.wl x y])).length = (wlsOf ls2).length + 1 := by rw [ewl, List.length_append]; rfl
      have tkJ : TK HI (upd HI Ls (.lst ((ps2 ++ [T3]).map V.ref))) := tup_upd hLsI
      dsimp only
      refine rd_set ?_
      refine ⟨_, rfl, _, _, rfl, rfl, ?_⟩
      refine ⟨_, ?_, ps2 ++ [T3], ls2 ++ [Ln.wl x y], ?_, (kHE.trans kEI).mut hLs0, (upd_ne nZs).trans hZI, (upd_ne nSmLs).trans hSmI, upd_same, snoc_at (r := Ln.wl x y) (hlsI.map tkJ) (show LnAt _ T3 (Ln.wl x y) from tkJ _ _ f3), ?_, ?_, ?_, (upd_ne nSaLs).trans hSaI, hstI.map tkJ, ?_, rfl⟩
      · rw [lwl]; omega
      · rw [lwl]; rfl
      · refine okB_app ls2 _ _ 0 0 okD ⟨⟨?_, ?_, hxy2, by omega⟩, trivial⟩
        · rw [enD]; exact hxi x (by simp)
        · rw [enD]; exact hxi y (by simp)
      · rw [nms_app, enD]; exact List.append_nil _
      · rw [lwl]; omega
      · obtain ⟨a1, b1, c1, e, r1⟩ := hPI.mono (by rw [lwl]; omega : t + 7 + 8 * i + 3 * (wlsOf ls2).length + 5 + 1 + (2 : Nat) ≤ t + 7 + 8 * i + 3 * (wlsOf (ls2 ++ [.wl x y])).length + 5)
        exact ⟨a1, b1, c1, (upd_ne (Ne.symm nLs)).trans e, r1⟩
    · rintro σ H6 ⟨v6, ps, ls, rfl, kH, hZ6, hSm6, hLs6, hls, hok, hnms, hwl, hSa6, hst6, hP6⟩
      rw [List.length_map, List.take_length] at hnms
      rw [List.length_map, List.take_length] at hSm6
      rw [List.length_map] at hP6
      have lcnt : ls.length = c + (wlsOf ls).length := by rw [ln_count, hnms, lz]
      dsimp only
      refine rd_seq (rd_set ?_)
      refine ⟨_, rfl, _, rfl, Sm, _, rfl, SqL.of hSm6, fun R0 hR0 => ?_⟩
      rw [← List.map_reverse]
      have sR : Same H6 (upd H6 R0 (.lst ((SS.map Prod.fst ++ zs).reverse.map V.str))) := same_new hR0
      have fR : upd H6 R0 (.lst ((SS.map Prod.fst ++ zs).reverse.map V.str)) R0 = some (.lst ((SS.map Prod.fst ++ zs).reverse.map V.str)) := upd_same
      generalize upd H6 R0 (.lst ((SS.map Prod.fst ++ zs).reverse.map V.str)) = H7 at sR fR ⊢
      refine ⟨_, rfl, _, _, rfl, rfl, _, rfl, R0, _, rfl, SqL.of fR, fun R1 hR1 => ?_⟩
      rw [show ((m : Int) + 1) = ((m + 1 : Nat) : Int) by omega, cut_takeV, ← List.map_take]
      have sR1 : Same H7 (upd H7 R1 (.lst (((SS.map Prod.fst ++ zs).reverse.take (m + 1)).map V.str))) := same_new hR1
      have fR1 : upd H7 R1 (.lst (((SS.map Prod.fst ++ zs).reverse.take (m + 1)).map V.str)) R1 = some (.lst (((SS.map Prod.fst ++ zs).reverse.take (m + 1)).map V.str)) := upd_same
      have lrv : ((SS.map Prod.fst ++ zs).reverse.take (m + 1)).length = m + 1 := by rw [List.length_take, List.length_reverse, List.length_append, lsn, lz]; omega
      have ndr : ((SS.map Prod.fst ++ zs).reverse.take (m + 1)).Nodup := ((List.reverse_perm _).nodup_iff.mpr hndz).sublist (List.take_sublist _ _)
      have inr : ∀ g ∈ (SS.map Prod.fst ++ zs).reverse.take (m + 1), g ∈ SS.map Prod.fst ++ zs := fun g hg => List.mem_reverse.mp (List.mem_of_mem_take hg)
      generalize (SS.map Prod.fst ++ zs).reverse.take (m + 1) = rv at sR1 fR1 lrv ndr inr ⊢
      have s67 := sR.trans sR1
      have hP7 := hP6.same s67
      have nR1 : R1 ≠ p := (hP6.same sR).ne hR1
      generalize upd H7 R1 (.lst (rv.map V.str)) = H8 at sR1 fR1 s67 hP7 ⊢
      have lrv2 : (rv.map V.str).length = m + 1 := by rw [List.length_map, lrv]
      refine ⟨_, rfl, p, R1, _, m, t + 7 + 8 * zs.length + 3 * (wlsOf ls).length, rfl, nR1, SqL.of fR1, by omega, by omega, by omega, by omega, hP7, fun H9 q ys rest kG hq0 hq pm ly hP9 => ?_⟩
      obtain ⟨gs, rfl, hgn, hgi⟩ := some_strs pm ndr
      rw [List.length_map] at ly
      refine ⟨q, _, rfl, .inl ⟨SqL.of hq, fun G hG => ?_⟩⟩
      have sG := same_new (o := .tup (gs.map V.str)) hG
      have fG : upd H9 G (.tup (gs.map V.str)) G = some (.tup (gs.map V.str)) := upd_same
      have k69 : But p H6 (upd H9 G (.tup (gs.map V.str))) := (But.of s67).trans (kG.trans (But.of sG))
      have hPG2 := hP9.same sG
      have nG : G ≠ p := hP9.ne hG
      generalize upd H9 G (.tup (gs.map V.str)) = HG at sG fG k69 hPG2 ⊢
      have kHG := kH.trans k69
      have hLsG := k69 _ _ nLs hLs6
      have hSaG := k69 _ _ nSa hSa6
      have tkG := fun a vs e => tupB0 hP6 k69 a vs e
      have hlsG := hls.map tkG
      have hstG := hst6.map tkG
      dsimp only
      refine fun D hD => ?_
      have sD : Same HG (upd HG D (.dK [])) := same_new hD
      have fD : upd HG D (.dK []) D = some (.dK []) := upd_same
      have nDp : D ≠ p := hPG2.ne hD
      have hD0 : H D = none := kHG.free hD hPG2.some.choose_spec
      have hPD := hPG2.same sD
      generalize upd HG D (.dK []) = HD at sD fD hPD ⊢
      refine ⟨_, rfl, _, rfl, _, _, rfl, rfl, p, 3, _, rfl, by decide, by decide, ?_, hPD, fun HE hd kE hPE hd0 hd3 => ?_⟩
      · have := hwl
        omega
      have sHE := (But.of sD).trans kE
      have nSaD : Sa ≠ D := ne_of_none hSaG hD
      have nLsD : Ls ≠ D := ne_of_none hLsG hD
      have nGD : G ≠ D := ne_of_none fG hD
      have tkE := fun a vs e => tupB0 hPG2 sHE a vs e
      have fDE := kE _ _ nDp fD
      have tkF : TK HE (upd HE D (.dK (lrB hd Sa Ls G))) := fun a vs e => (upd_ne (fun z => by rw [z, fDE] at e; cases e)).trans e
      refine ⟨_, rfl, _, rfl, _, rfl, fDE, [(.inr "hand", .int hd), (.inr "starts", .ref Sa), (.inr "lines", .ref Ls), (.inr "goes", .ref G)], rfl, (by simp), ?_⟩
      refine k _ D Sa Ls G pss ps ⟨hd, SS, ls, gs⟩ ((kHG.trans sHE).mut hD0) ?_ hD0 hSa0 hLs0 upd_same ((upd_ne nSaD).trans (sHE _ _ nSa hSaG)) ((hstG.map tkE).map tkF) ((upd_ne nLsD).trans (sHE _ _ nLs hLsG)) ((hlsG.map tkE).map tkF) ((upd_ne nGD).trans (sHE _ _ nG fG)) ?_
      · obtain ⟨a1, b1, c1, e, r1⟩ := hPE.mono (by omega : t + 7 + 8 * (zs.length : Int) + 3 * (wlsOf ls).length + m + 1 ≤ t + 50)
        exact ⟨a1, b1, c1, (upd_ne (Ne.symm nDp)).trans e, r1⟩
      · refine ⟨hd0, by show hd ≤ 2; omega, okSS, hok, by show 0 < (nmsOf ls).length; rw [hnms, lz]; omega, hgn, fun g hg => ?_, ?_⟩
        · show g ∈ SS.map Prod.fst ++ nmsOf ls
          rw [hnms]
          exact inr g (hgi g hg)
        · show gs.length = SS.length
          rw [ly, lSS]
end
end L2.K40

set_option Elab.async false
set_option linter.all false
set_option maxRecDepth 100000
set_option maxHeartbeats 4000000
namespace L2.K40
open PySem PySem.Spec PyProof.Rows L2.Vx
open PySem.W (Frag)
/-! ### the text of a drawn bay -/
def startText (s : Stt) : Str := "from " ++ s.1 ++ " " ++ numT s.2.1 ++ " " ++ numT s.2.2
def goesText (gs : List Str) : Str := "goes " ++ Txt.join " " gs
def bayLines (b : Lore) : List Str := ("hand " ++ numT b.hand) :: (b.ss.map startText ++ b.ls.map lineText ++ [goesText b.gs])
def bayText (b : Lore) : Str := Txt.join "\n" (bayLines b)
theorem line_len {l : Ln} (h : LnSmall l) : (lineText l).length ≤ 300 := by
  cases l with
  | wl a b =>
    obtain ⟨ha, hb⟩ := h
    refine Nat.le_trans (join_tot sp1 _) ?_
    rw [tot_cons, tot_cons, tot_cons, tot_nil, wall_len]
    omega
  | pt n m o =>
    obtain ⟨hn, hm, ho⟩ := h
    have lz : (ptText n m).length ≤ 200 := Nat.le_trans (join_tot sp1 _) (pt_tot hn hm)
    cases o with
    | none => exact Nat.le_trans lz (by decide)
    | some b =>
      obtain ⟨b0, b9⟩ := ho b rfl
      have lb : (numT b).length ≤ 2 := num_len b0 b9
      show (ptText n m ++ " within " ++ numT b).length ≤ 300
      rw [len_app, len_app, within_len]
      omega
theorem hand_len : ("hand " : Str).length = 5 := by decide +kernel
theorem from_len : ("from " : Str).length = 5 := by decide +kernel
theorem goes_len : ("goes " : Str).length = 5 := by decide +kernel
def StSmall (s : Stt) : Prop := s.1.length ≤ 20 ∧ (-1000 < s.2.1 ∧ s.2.1 < 1000) ∧ -1000 < s.2.2 ∧ s.2.2 < 1000
def LoreSmall (b : Lore) : Prop := (0 ≤ b.hand ∧ b.hand ≤ 2) ∧ (∀ s ∈ b.ss, StSmall s) ∧ b.ss.length ≤ 2 ∧ (∀ l ∈ b.ls, LnSmall l) ∧ b.ls.length ≤ 4 ∧ (∀ g ∈ b.gs, g.length ≤ 20) ∧ b.gs.length ≤ 2
theorem start_tlen {s : Stt} (h : StSmall s) : (startText s).length ≤ 50 := by
  obtain ⟨h1, h2, h3⟩ := h
  have l2 := (num1000 h2.1 h2.2).2
  have l3 := (num1000 h3.1 h3.2).2
  show ("from " ++ s.1 ++ " " ++ numT s.2.1 ++ " " ++ numT s.2.2).length ≤ 50
  rw [len_app, len_app, len_app, len_app, len_app, from_len, sp1]
  omega
theorem goes_tot {gs : List Str} (h : ∀ g ∈ gs, g.length ≤ 20) (l : gs.length ≤ 2) : tot gs ≤ 42 := by
  have := tot_le (B := 20) gs h
  omega
theorem goes_tlen {gs : List Str} (h : ∀ g ∈ gs, g.length ≤ 20) (l : gs.length ≤ 2) : (goesText gs).length ≤ 50 := by
  have h1 := goes_tot h l
  have h2 : (Txt.join " " gs).length ≤ tot gs := join_tot sp1 _
  show ("goes " ++ Txt.join " " gs).length ≤ 50
  rw [len_app, goes_len]
  omega
theorem bay_lines {b : Lore} (h : LoreSmall b) : (∀ y ∈ bayLines b, y.length ≤ 300) ∧ (bayLines b).length ≤ 8 := by
  obtain ⟨⟨h0, h9⟩, hs, ls, hl, ll, hg, lg⟩ := h
  refine ⟨fun y hy => ?_, ?_⟩
  · rcases List.mem_cons.mp hy with rfl | hy
    · have lb : (numT b.hand).length ≤ 2 := num_len h0 (by omega)
      rw [len_app, hand_len]
      omega
    · rcases List.mem_append.mp hy with hy | hy
      · rcases List.mem_append.mp hy with hy | hy
        · obtain ⟨s, hs2, rfl⟩ := List.mem_map.mp hy
          exact Nat.le_trans (start_tlen (hs s hs2)) (by decide)
        · obtain ⟨l, hl2, rfl⟩ := List.mem_map.mp hy
          exact line_len (hl l hl2)
      · rw [List.mem_singleton.mp hy]
        exact Nat.le_trans (goes_tlen hg lg) (by decide)
  · show ((b.ss.map startText ++ b.ls.map lineText ++ [goesText b.gs]).length + 1) ≤ 8
    rw [List.length_append, List.length_append, List.length_map, List.length_map, List.length_singleton]
    omega
theorem bay_tot {b : Lore} (h : LoreSmall b) : tot (bayLines b) ≤ 3000 := by
  have h2 := tot_le (B := 300) (bayLines b) (bay_lines h).1
  have := (bay_lines h).2
  omega
theorem sz {a b : Str} (h : a.length + b.length ≤ 1000) : a.length + b.length ≤ sizeLine := Nat.le_trans h (by decide)
theorem nl1b : ("\n" : Str).length = 1 := by decide +kernel
theorem bay_len {b : Lore} (h : LoreSmall b) : (bayText b).length ≤ 3000 := Nat.le_trans (join_tot nl1b _) (bay_tot h)
section
variable {P : Program} {w : World} {K : Frag} {mg : Str → Option Value} {bs : Heap}
def spBText (K : Frag) : Sp := fun vs H Q _ => ∃ (D S L G : Addr) (pss ps : List Addr) (b : Lore), vs = [.ref D] ∧ H D = some (.dK (lrB b.hand S L G)) ∧ H S = some (.lst (pss.map V.ref)) ∧ StsAt H pss b.ss ∧ H L = some (.lst (ps.map V.ref)) ∧ LnsAt H ps b.ls ∧ H G = some (.tup (b.gs.map V.str)) ∧ LoreSmall b ∧
  ∀ H', Same H H' → Q (.str (bayText b)) H'
theorem scBText : FnScope ["bay", "lines", "name", "place", "line"] ["bay"] (defScope sBText) := ⟨rfl, rfl, rfl, by decide +kernel, rfl, by decide +kernel, by decide +kernel⟩
theorem ok_btext {f fL : Addr} {fd fdL : FuncData} (FP : FD K "_law_bay_text" sBText f fd) (gS : mg "str" = none) (FL : FD K "_law_line_text" sLine fL fdL) (gL : mg "_law_line_text" = some (.ref fL)) (bL : Binds K fdL ["line"] []) : FnOk P w K mg bs CX0 2 f fd ["bay"] (spBText K) := by
  have sc := scBText
  have GL : FnOk P w K mg bs CX0 1 fL fdL ["line"] (spLine K) := ok_line FL gS
  refine FP.ok scBText (fun vs H Q E h => ?_) (fun cdv A outer s H vs Q E hr h => ?_)
  · obtain ⟨D, S, L, G, pss, ps, b, rfl, _⟩ := h
    rfl
  · obtain ⟨D, S, L, G, pss, ps, b, rfl, hD, hS, hst, hL, hls, hG, hsm, k⟩ := h
    have hu := hu_of hr
    refine ⟨_, pss_cons (ps_set (i := 1) sc.nd rfl (Or.inl rfl) (pe_lst (pa_cons (pe_op op_add_str pe_str (pe_callTy call_str_int (by rfl) gS boot_str (pa_cons (pe_dget hu (pv 0) pe_str (fun _ _ => rfl)) pa_nil))) pa_nil)))
      (pss_cons (ps_expr (pe_bm PySem.F.plainAttrs_list PySem.F.slot_list_extend PySem.F.type_list_extend mt_extend (pv 1) (pa_cons
          (pe_lc (own := [("name", 2), ("place", 3)]) (g := gTup K 2 (gCons (gName 2) (gCons (gName 3) gNil))) (by rfl) sc.nd (pi_list (pe_dget hu (pv 0) pe_str (fun _ _ => rfl))) (blkOk_by (N := ["bay", "lines", "name", "place", "line"]) (sc := defScope sBText) (by decide +kernel))
            (fun _ _ _ _ _ => pg_tup rfl (pgs_cons (pg_name (i := 2) sc.nd rfl (Or.inl rfl)) (pgs_cons (pg_name (i := 3) sc.nd rfl (Or.inl rfl)) pgs_nil))) (fun _ _ _ _ _ => pts_nil)
            (fun _ _ _ _ _ => pe_op op_add_str (pe_op op_add_str (pe_op op_add_str (pe_op op_add_str (pe_op op_add_str pe_str (pv 2)) pe_str) (pe_callTy call_str_int (by rfl) gS boot_str (pa_cons (pe_ix (r := rIxT K) ix_tup (pv 3) pe_int (fun _ _ => rfl)) pa_nil))) pe_str) (pe_callTy call_str_int (by rfl) gS boot_str (pa_cons (pe_ix (r := rIxT K) ix_tup (pv 3) pe_int (fun _ _ => rfl)) pa_nil)))) pa_nil)))
      (pss_cons (ps_expr (pe_bm PySem.F.plainAttrs_list PySem.F.slot_list_extend PySem.F.type_list_extend mt_extend (pv 1) (pa_cons
          (pe_lc (own := [("line", 4)]) (g := gName 4) (by rfl) sc.nd (pi_list (pe_dget hu (pv 0) pe_str (fun _ _ => rfl))) (blkOk_by (N := ["bay", "lines", "name", "place", "line"]) (sc := defScope sBText) (by decide +kernel))
            (fun _ _ _ _ _ => pg_name (i := 4) sc.nd rfl (Or.inl rfl)) (fun _ _ _ _ _ => pts_nil)
            (fun _ _ _ _ _ => pe_call GL hr (by rfl) gL FL.kp bL .nil pass0 (pa_cons (pv 4) pa_nil))) pa_nil)))
      (pss_one (ps_ret (pe_join pe_str (pe_op op_cat (pv 1) (pe_lst (pa_cons (pe_op op_add_str pe_str (pe_join pe_str (pe_dget hu (pv 0) pe_str (fun _ _ => rfl)))) pa_nil)))))))), ?_⟩
    obtain ⟨⟨h0, h9⟩, hss, lss, hll, lll, hgg, lgg⟩ := id hsm
    have lb : (numT b.hand).length ≤ 2 := num_len h0 (by omega)
    refine rd_seq (rd_set ?_)
    refine ⟨_, rfl, D, .int b.hand, rfl, DGet.k (k := Sum.inr "hand") hD, b.hand, rfl, small99 h0 (by omega), _, _, rfl, rfl, sz (by show _ + (numT b.hand).length ≤ 1000; rw [hand_len]; omega), (by exact (by decide : 1 ≤ sizeLine)), fun M hM => ?_⟩
    have s1 : Same H (upd H M (.lst [.str ("hand " ++ numT b.hand)])) := same_new hM
    have fM : upd H M (.lst [.str ("hand " ++ numT b.hand)]) M = some (.lst ([("hand " ++ numT b.hand)].map V.str)) := upd_same
    dsimp only
    change tSeq _ _ _ _ (upd H M (.lst [.str ("hand " ++ numT b.hand)]))
    generalize upd H M (.lst [.str ("hand " ++ numT b.hand)]) = H1 at s1 fM ⊢
    refine rd_seq ?_
    have hS1 := s1 _ _ hS
    have hst1 := hst.map (tup_same s1)
    have lpss : pss.length = b.ss.length := hst.1
    have lps : ps.length = b.ls.length := hls.1
    refine ⟨_, rfl, .inl ⟨rfl, _, SqL.of fM⟩, _, rfl, D, .ref S, rfl, DGet.k (k := Sum.inr "starts") (s1 _ _ hD), S, rfl, ⟨_, SqL.of hS1⟩, fun E0 hE => lc_it (walk_list (K := K) (a := S) (xs := pss.map V.ref)) (fun j H' => Same H1 H' ∧ H' E0 = some (.lst (((b.ss.take j).map startText).map V.str))) ⟨same_new hE, upd_same⟩ (fun _ _ _ u => SqL.of (u.1 _ _ hS1)) ?_ ?_⟩
    · rintro j v H5 H6 hj ⟨s5, d5⟩ ⟨rfl, hv⟩
      have hj' : j < pss.length := by simpa using hj
      have hj2 : j < b.ss.length := by rw [← lpss]; exact hj'
      rw [List.getElem?_map, List.getElem?_eq_getElem hj'] at hv
      cases hv
      obtain ⟨q, k1, k2⟩ := (hst1.map (tup_same s5)).2 j _ _ (List.getElem?_eq_getElem hj') (List.getElem?_eq_getElem hj2)
      have fin : ∃ acc, H6 E0 = some (.lst acc) ∧ acc.length < sizeLine ∧ Same H1 (upd H6 E0 (.lst (acc ++ [V.str (startText b.ss[j])]))) ∧ upd H6 E0 (.lst (acc ++ [V.str (startText b.ss[j])])) E0 = some (.lst (((b.ss.take (j + 1)).map startText).map V.str)) := by
        refine ⟨_, d5, ?_, s5.mut hE, ?_⟩
        · rw [List.length_map, List.length_map, List.length_take]
          exact Nat.lt_of_le_of_lt (by omega : min j b.ss.length ≤ 10) (by decide)
        · rw [upd_same, List.take_succ, List.getElem?_eq_getElem hj2, List.map_append, List.map_append]
          rfl
      have hsj := hss _ (List.getElem_mem hj2)
      generalize b.ss[j] = sj at k1 k2 fin hsj
      obtain ⟨n, x, y⟩ := sj
      obtain ⟨z1, z2, z3⟩ := hsj
      have zx := num1000 z2.1 z2.2
      have zy := num1000 z3.1 z3.2
      have e1 : n.length ≤ 20 := z1
      have e2 : (numT x).length ≤ 5 := zx.2
      have e3 : (numT y).length ≤ 5 := zy.2
      refine ⟨_, _, rfl, SqT.of k1, rfl, _, _, rfl, _, _, rfl, rfl, rfl, rd_yes rfl ?_⟩
      refine ⟨_, rfl, _, _, rfl, rfl, sz (by rw [from_len]; omega), _, _, rfl, rfl, sz (by rw [len_app, from_len, sp1]; omega), _, rfl, q, _, 0, .int x, rfl, rfl, SqT.of k2, at0 _ _, x, rfl, zx.1, _, _, rfl, rfl, sz (by show _ + (numT x).length ≤ 1000; rw [len_app, len_app, from_len, sp1]; omega), _, _, rfl, rfl,
        sz (by show ("from " ++ n ++ " " ++ numT x).length + _ ≤ 1000; rw [len_app, len_app, len_app, from_len, sp1]; omega), _, rfl, q, _, 1, .int y, rfl, rfl, SqT.of k2, at1 _ _ _, y, rfl, zy.1, _, _, rfl, rfl, sz (by show ("from " ++ n ++ " " ++ numT x ++ " ").length + (numT y).length ≤ 1000; rw [len_app, len_app, len_app, len_app, from_len, sp1]; omega), fin⟩
    rintro H5 ⟨s5, d5⟩
    rw [List.length_map, lpss, List.take_length] at d5
    have fM5 := s5 _ _ fM
    have nEM : E0 ≠ M := fun z => by rw [z, fM] at hE; cases hE
    refine ⟨M, E0, _, _, rfl, rfl, fM5, d5, Nat.le_trans (by rw [List.length_map, List.length_map, List.length_map, List.length_singleton]; omega : _ ≤ 100) (by decide), ?_⟩
    rw [← List.map_append]
    have s15 : Same H (upd H5 M (.lst (([("hand " ++ numT b.hand)] ++ b.ss.map startText).map V.str))) := (s1.trans s5).mut hM
    have fM6 : upd H5 M (.lst (([("hand " ++ numT b.hand)] ++ b.ss.map startText).map V.str)) M = some (.lst (([("hand " ++ numT b.hand)] ++ b.ss.map startText).map V.str)) := upd_same
    generalize upd H5 M (.lst (([("hand " ++ numT b.hand)] ++ b.ss.map startText).map V.str)) = H6 at s15 fM6 ⊢
    clear d5 fM5 s5 hst1 hS1 s1 fM
    dsimp only
    refine rd_seq ?_
    have hL6 := s15 _ _ hL
    have hls6 := hls.map (tup_same s15)
    refine ⟨_, rfl, .inl ⟨rfl, _, SqL.of fM6⟩, _, rfl, D, .ref L, rfl, DGet.k (k := Sum.inr "lines") (s15 _ _ hD), L, rfl, ⟨_, SqL.of hL6⟩, fun E1 hE1 => lc_it (walk_list (K := K) (a := L) (xs := ps.map V.ref)) (fun j H' => Same H6 H' ∧ H' E1 = some (.lst (((b.ls.take j).map lineText).map V.str))) ⟨same_new hE1, upd_same⟩ (fun _ _ _ u => SqL.of (u.1 _ _ hL6)) ?_ ?_⟩
    · rintro j v H7 H8 hj ⟨s7, d7⟩ ⟨rfl, hv⟩
      have hj' : j < ps.length := by simpa using hj
      have hj2 : j < b.ls.length := by rw [← lps]; exact hj'
      rw [List.getElem?_map, List.getElem?_eq_getElem hj'] at hv
      cases hv
      have hp := (hls6.map (tup_same s7)).2 j _ _ (List.getElem?_eq_getElem hj') (List.getElem?_eq_getElem hj2)
      refine ⟨rfl, rd_yes rfl ?_⟩
      refine ⟨_, rfl, _, b.ls[j], rfl, hp, hll _ (List.getElem_mem hj2), fun H9 s9 => ⟨_, s9 _ _ d7, ?_, (s7.trans s9).mut hE1, ?_⟩⟩
      · rw [List.length_map, List.length_map, List.length_take]
        exact Nat.lt_of_le_of_lt (by omega : min j b.ls.length ≤ 100) (by decide)
      · rw [upd_same, List.take_succ, List.getElem?_eq_getElem hj2, List.map_append, List.map_append]
        rfl
    rintro H7 ⟨s7, d7⟩
    rw [List.length_map, lps, List.take_length] at d7
    have fM7 := s7 _ _ fM6
    refine ⟨M, E1, _, _, rfl, rfl, fM7, d7, Nat.le_trans (by rw [List.length_map, List.length_append, List.length_map, List.length_map, List.length_map, List.length_singleton]; omega : _ ≤ 100) (by decide), ?_⟩
    rw [← List.map_append]
    have s17 : Same H (upd H7 M (.lst ((([("hand " ++ numT b.hand)] ++ b.ss.map startText) ++ b.ls.map lineText).map V.str))) := (s15.trans s7).mut hM
    have fM8 : upd H7 M (.lst ((([("hand " ++ numT b.hand)] ++ b.ss.map startText) ++ b.ls.map lineText).map V.str)) M = some (.lst ((([("hand " ++ numT b.hand)] ++ b.ss.map startText) ++ b.ls.map lineText).map V.str)) := upd_same
    generalize upd H7 M (.lst ((([("hand " ++ numT b.hand)] ++ b.ss.map startText) ++ b.ls.map lineText).map V.str)) = H8 at s17 fM8 ⊢
    clear d7 fM7 s7 hls6 hL6 s15 fM6
    dsimp only
    have tg := goes_tot hgg lgg
    have lj : (Txt.join " " b.gs).length ≤ 42 := Nat.le_trans (join_tot sp1 _) tg
    refine ⟨⟨_, rfl⟩, _, rfl, ⟨_, rfl⟩, _, rfl, D, .ref G, rfl, DGet.k (k := Sum.inr "goes") (s17 _ _ hD), " ", G, b.gs, rfl, rfl, .inr (SqT.of (s17 _ _ hG)), by rw [tot_sum _ sp1]; omega, _, _, rfl, rfl, sz (by show _ + (Txt.join " " b.gs).length ≤ 1000; rw [goes_len]; omega), (by exact (by decide : 1 ≤ sizeLine)), fun N hN => ?_⟩
    have sN := same_new (o := .lst [.str (goesText b.gs)]) hN
    have fN : upd H8 N (.lst [.str (goesText b.gs)]) N = some (.lst ([goesText b.gs].map V.str)) := upd_same
    change rCat _ _ (upd H8 N (.lst [.str (goesText b.gs)])) _
    generalize upd H8 N (.lst [.str (goesText b.gs)]) = H9 at sN fN ⊢
    have e : ((([("hand " ++ numT b.hand)] ++ b.ss.map startText) ++ b.ls.map lineText).map V.str) ++ [goesText b.gs].map V.str = (bayLines b).map V.str := by
      rw [← List.map_append]
      rfl
    have ll8 := (bay_lines hsm).2
    refine ⟨M, N, _, _, rfl, rfl, sN _ _ fM8, fN, Nat.le_trans (by rw [← List.length_append, e, List.length_map]; omega : _ ≤ 100) (by decide), fun Q1 hQ1 => ?_⟩
    rw [e]
    have tt := bay_tot hsm
    refine ⟨"\n", Q1, bayLines b, rfl, rfl, .inl (SqL.of upd_same), by rw [tot_sum _ nl1b]; omega, ?_⟩
    exact k _ ((s17.trans sN).trans (same_new hQ1))
end
end L2.K40

set_option Elab.async false
set_option linter.all false
set_option maxRecDepth 100000
set_option maxHeartbeats 8000000
namespace L2.K40
open PySem PySem.Spec PyProof.Rows L2.Vx
open PySem.W (Frag)
open TL (tl)
/-! ### a drawn bay's text is read as it was drawn -/
theorem cut_one {s : Nat} : ∀ (p acc : List Nat), s ∉ p → cutAt s acc p = [acc ++ p]
  | [], acc, _ => by unfold cutAt; simp
  | c :: r, acc, h => by
    unfold cutAt
    rw [if_neg (fun e => h (by simp [e])), cut_one r (acc ++ [c]) (fun q => h (List.mem_cons_of_mem _ q))]
    simp
theorem cut_app {s : Nat} : ∀ (p acc r : List Nat), s ∉ p → cutAt s acc (p ++ s :: r) = (acc ++ p) :: cutAt s [] r
  | [], acc, r, _ => by
    show cutAt s acc (s :: r) = _
    conv => lhs; unfold cutAt
    rw [if_pos rfl, List.append_nil]
  | c :: p, acc, r, h => by
    show cutAt s acc (c :: (p ++ s :: r)) = _
    conv => lhs; unfold cutAt
    rw [if_neg (fun e => h (by simp [e])), cut_app p (acc ++ [c]) r (fun q => h (List.mem_cons_of_mem _ q))]
    simp
theorem cut_glue {s : Nat} : ∀ (ps : List (List Nat)), ps ≠ [] → (∀ p ∈ ps, s ∉ p) → cutAt s [] (glue s ps) = ps
  | [], h, _ => absurd rfl h
  | [p], _, h => cut_one p [] (h p (by simp))
  | p :: q :: r, _, h => by
    show cutAt s [] (p ++ s :: glue s (q :: r)) = _
    rw [cut_app p [] _ (h p (by simp)), cut_glue (q :: r) (by simp) (fun x hx => h x (List.mem_cons_of_mem _ hx))]
    rfl
theorem joinL_glue (s : Nat) : ∀ ps : List (List Nat), TL.joinL [s] ps = glue s ps
  | [] => rfl
  | [p] => rfl
  | p :: q :: r => by
    show p ++ ([s] ++ TL.joinL [s] (q :: r)) = p ++ s :: glue s (q :: r)
    rw [joinL_glue s (q :: r)]
    rfl
theorem map_tl_inj : ∀ {a b : List Str}, a.map tl = b.map tl → a = b
  | [], [], _ => rfl
  | [], _ :: _, h => by cases h
  | _ :: _, [], h => by cases h
  | x :: a, y :: b, h => by
    rw [List.map_cons, List.map_cons] at h
    injection h with h1 h2
    rw [TL.ext_tl h1, map_tl_inj h2]
theorem tl_join' (s : Nat) (ys : List Str) : tl (Txt.join ⟨#[s]⟩ ys) = glue s (ys.map tl) := by
  rw [TL.join_eq, TL.tl_join]
  exact joinL_glue s _
theorem split_join {s : Nat} (hs : s < 256) {ys : List Str} (h0 : ys ≠ []) (h : ∀ y ∈ ys, s ∉ tl y) : Txt.split (Txt.join ⟨#[s]⟩ ys) ⟨#[s]⟩ = ys := by
  apply map_tl_inj
  rw [split_cut _ hs, tl_join']
  exact cut_glue _ (by simpa using h0) (fun p hp => by
    obtain ⟨y, hy, rfl⟩ := List.mem_map.mp hp
    exact h y hy)
theorem glue_two (s : Nat) (a b : List Nat) : ∀ ps : List (List Nat), ps ≠ [] → glue s (ps ++ [a, b]) = glue s ps ++ s :: (a ++ s :: b)
  | [], h => absurd rfl h
  | [p], _ => rfl
  | p :: q :: r, _ => by
    show p ++ s :: glue s ((q :: r) ++ [a, b]) = (p ++ s :: glue s (q :: r)) ++ s :: (a ++ s :: b)
    rw [glue_two s a b (q :: r) (by simp)]
    simp
/-- the words of a line -/
def ownW : Option Int → List Str
  | none => []
  | some b => [("within" : Str), numT b]
def lineW : Ln → List Str
  | .wl a b => ["wall", a, b]
  | .pt n m o => (("point" : Str) :: n :: (aimV m).map txtOf) ++ ownW o
theorem line_join : ∀ l : Ln, lineText l = Txt.join " " (lineW l)
  | .wl a b => rfl
  | .pt n m none => by
    show Txt.join " " (("point" : Str) :: n :: (aimV m).map txtOf) = Txt.join " " ((("point" : Str) :: n :: (aimV m).map txtOf) ++ [])
    rw [List.append_nil]
  | .pt n m (some b) => by
    apply TL.ext_tl
    show tl (Txt.join " " (("point" : Str) :: n :: (aimV m).map txtOf) ++ " within " ++ numT b) = tl (Txt.join " " ((("point" : Str) :: n :: (aimV m).map txtOf) ++ [("within" : Str), numT b]))
    rw [TL.tl_append, TL.tl_append, sp_eq, tl_join', tl_join', List.map_append, show [("within" : Str), numT b].map tl = [tl "within", tl (numT b)] from rfl, glue_two _ _ _ _ (by simp)]
    rw [show tl (" within " : Str) = 32 :: (tl ("within" : Str) ++ [32]) by decide +kernel]
    simp
def free (x : Str) : Prop := 32 ∉ tl x ∧ 10 ∉ tl x ∧ ∀ c ∈ tl x, c < 16 ^ 8
instance (x : Str) : Decidable (free x) := inferInstanceAs (Decidable (_ ∧ _ ∧ _))
theorem pool_free : ∀ u ∈ poolN, free u := by decide +kernel
theorem nums_free : ∀ x ∈ stepsB, free (numT x) := by decide +kernel
theorem n99_free : ∀ n : Nat, n < 100 → free (numT (n : Int)) := by decide +kernel
theorem words_free : free "point" ∧ free "wall" ∧ free "within" ∧ free "at" ∧ free "by" ∧ free "cross" := by decide +kernel
theorem own_free {o : Option Int} (h : ∀ b, o = some b → 0 ≤ b ∧ b ≤ 1) : ∀ y ∈ ownW o, free y := by
  cases o with
  | none => intro y hy; cases hy
  | some b =>
    intro y hy
    obtain ⟨h0, h9⟩ := h b rfl
    obtain ⟨n, rfl⟩ : ∃ n : Nat, b = (n : Int) := ⟨b.toNat, by omega⟩
    simp only [ownW, List.mem_cons, List.not_mem_nil, or_false] at hy
    rcases hy with rfl | rfl
    · exact words_free.2.2.1
    · exact n99_free n (by omega)
theorem aim_free {m : Aim} {ns : List Str} (h : AimB m ns) (hns : ∀ u ∈ ns, u ∈ poolN) : ∀ y ∈ (aimV m).map txtOf, free y := by
  obtain ⟨f1, f2, f3, f4, f5, f6⟩ := words_free
  cases m with
  | «at» x y => exact h.elim
  | «by» o x y =>
    obtain ⟨ho, hx, hy⟩ := h
    intro u hu
    simp only [aimV, txtOf, List.map_cons, List.map_nil, List.mem_cons, List.not_mem_nil, or_false] at hu
    rcases hu with rfl | rfl | rfl | rfl
    · exact f5
    · exact pool_free _ (hns _ ho)
    · exact nums_free x hx
    · exact nums_free y hy
  | cross a b =>
    obtain ⟨ha, hb⟩ := h
    intro u hu
    simp only [aimV, txtOf, List.map_cons, List.map_nil, List.mem_cons, List.not_mem_nil, or_false] at hu
    rcases hu with rfl | rfl | rfl
    · exact f6
    · exact pool_free _ (hns _ ha)
    · exact pool_free _ (hns _ hb)
/-- a line that can stand there -/
def LnOk (ns : List Str) (nc nw : Nat) : Ln → Prop
  | .pt n m o => n ∈ poolN ∧ n ∉ ns ∧ AimB m ns ∧ (∀ b, o = some b → 0 ≤ b ∧ b ≤ 1) ∧ nc < 2
  | .wl a b => a ∈ ns ∧ b ∈ ns ∧ a ≠ b ∧ nw < 2
theorem ln_free {l : Ln} {ns : List Str} {nc nw : Nat} (h : LnOk ns nc nw l) (hns : ∀ u ∈ ns, u ∈ poolN) : ∀ y ∈ lineW l, free y := by
  cases l with
  | wl a b =>
    obtain ⟨ha, hb, _⟩ := h
    intro u hu
    simp only [lineW, List.mem_cons, List.not_mem_nil, or_false] at hu
    rcases hu with rfl | rfl | rfl
    · exact words_free.2.1
    · exact pool_free _ (hns _ ha)
    · exact pool_free _ (hns _ hb)
  | pt n m o =>
    obtain ⟨hn, _, hm, ho, _⟩ := h
    intro u hu
    rcases List.mem_append.mp hu with hu | hu
    · rcases List.mem_cons.mp hu with rfl | hu
      · exact words_free.1
      · rcases List.mem_cons.mp hu with rfl | hu
        · exact pool_free _ hn
        · exact aim_free hm hns _ hu
    · exact own_free ho _ hu
theorem line_ne (l : Ln) : lineW l ≠ [] := by cases l <;> simp [lineW]
theorem line_split {l : Ln} {ns : List Str} {nc nw : Nat} (h : LnOk ns nc nw l) (hns : ∀ u ∈ ns, u ∈ poolN) : Txt.split (lineText l) " " = lineW l := by
  rw [line_join, sp_eq]
  exact split_join (by decide) (line_ne l) fun y hy => (ln_free h hns y hy).1
theorem glue_mem {s : Nat} {c : Nat} : ∀ ps : List (List Nat), c ∈ glue s ps → c = s ∨ ∃ p ∈ ps, c ∈ p
  | [], h => by cases h
  | [p], h => .inr ⟨p, by simp, h⟩
  | p :: q :: r, h => by
    rcases List.mem_append.mp (show c ∈ p ++ s :: glue s (q :: r) from h) with h | h
    · exact .inr ⟨p, by simp, h⟩
    · rcases List.mem_cons.mp h with rfl | h
      · exact .inl rfl
      · rcases glue_mem (q :: r) h with h | ⟨u, hu, hc⟩
        · exact .inl h
        · exact .inr ⟨u, List.mem_cons_of_mem _ hu, hc⟩
theorem line_nl {l : Ln} {ns : List Str} {nc nw : Nat} (h : LnOk ns nc nw l) (hns : ∀ u ∈ ns, u ∈ poolN) : 10 ∉ tl (lineText l) := by
  rw [line_join, sp_eq, tl_join']
  intro q
  rcases glue_mem _ q with q | ⟨u, hu, hc⟩
  · cases q
  · obtain ⟨y, hy, rfl⟩ := List.mem_map.mp hu
    exact (ln_free h hns y hy).2.1 hc
theorem line_plain {l : Ln} {ns : List Str} {nc nw : Nat} (h : LnOk ns nc nw l) (hns : ∀ u ∈ ns, u ∈ poolN) : ∀ c ∈ tl (lineText l), c < 16 ^ 8 := by
  rw [line_join, sp_eq, tl_join']
  intro c q
  rcases glue_mem _ q with rfl | ⟨u, hu, hc⟩
  · decide
  · obtain ⟨y, hy, rfl⟩ := List.mem_map.mp hu
    exact (ln_free h hns y hy).2.2 c hc
theorem sgn_round : ∀ x ∈ stepsB, sgnIn (numT x) 999 = some x := by decide +kernel
theorem pool_name : ∀ u ∈ poolN, nameIn u = true := by decide +kernel
theorem n99_round : ∀ n : Nat, n < 100 → numIn (numT (n : Int)) 0 99 = some (n : Int) := by decide +kernel
theorem hand_round : ∀ n : Nat, n < 3 → handIn ("hand " ++ numT (n : Int)) 2 = some (n : Int) ∧ 10 ∉ tl ("hand " ++ numT (n : Int)) ∧ ∀ c ∈ tl ("hand " ++ numT (n : Int)), c < 16 ^ 8 := by decide +kernel
theorem bound_round {o : Option Int} (h : ∀ b, o = some b → 0 ≤ b ∧ b ≤ 1) (hand : Int) : boundW (ownW o) hand = some (o.getD hand) := by
  cases o with
  | none => rfl
  | some b =>
    obtain ⟨h0, h9⟩ := h b rfl
    obtain ⟨n, rfl⟩ : ∃ n : Nat, b = (n : Int) := ⟨b.toNat, by omega⟩
    show (if ("within" : Str) = "within" then numIn (numT (n : Int)) 0 99 else none) = some (n : Int)
    rw [if_pos rfl]
    exact n99_round n (by omega)
theorem wall_none {p : Str} {r ns : List Str} (h : p ≠ "wall") : wallW (p :: r) ns = none := by
  rcases r with _ | ⟨a, _ | ⟨b, _ | ⟨c, r⟩⟩⟩
  · rfl
  · rfl
  · exact if_neg fun q => h q.1
  · rfl
theorem ne_words : ("at" : Str) ≠ "cross" ∧ ("by" : Str) ≠ "cross" ∧ ("at" : Str) ≠ "by" ∧ ("cross" : Str) ≠ "by" ∧ ("point" : Str) ≠ "wall" := by decide +kernel
theorem aimw_in : (Str.ofString "at") ∈ aimWords ∧ (Str.ofString "by") ∈ aimWords ∧ (Str.ofString "cross") ∈ aimWords := by decide +kernel
theorem point_round {n : Str} {m : Aim} {o : Option Int} {ns : List Str} {nc nw : Nat} (h : LnOk ns nc nw (.pt n m o)) (hand : Int) : pointW (lineW (.pt n m o)) ns hand = some (n, m, o.getD hand) := by
  obtain ⟨hn, hno, hm, ho, _⟩ := h
  have hb := bound_round ho hand
  obtain ⟨n1, n2, n3, n4, _⟩ := ne_words
  obtain ⟨a1, a2, a3⟩ := aimw_in
  have fin : ∀ {k : Str} {r : List Str}, k ∈ aimWords → aimW (((("point" : Str) :: n :: k :: r).drop 2).take (manyOf k - 2)) ns = some m → (("point" : Str) :: n :: k :: r).drop (manyOf k) = ownW o → pointW (("point" : Str) :: n :: k :: r) ns hand = some (n, m, o.getD hand) := by
    intro k r hk h1 h2
    refine (if_pos ⟨rfl, hk⟩).trans ?_
    rw [h1, h2, hb]
    exact if_pos ⟨pool_name n hn, hno⟩
  cases m with
  | «at» x y => exact hm.elim
  | «by» a x y =>
    obtain ⟨ha, hx, hy⟩ := hm
    refine fin (k := "by") (r := [a, numT x, numT y] ++ ownW o) a2 ?_ ?_
    · rw [show manyOf "by" = 6 from if_pos rfl]
      have e : aimW ["by", a, numT x, numT y] ns = byOf a (sgnIn (numT x) 999) (sgnIn (numT y) 999) := by
        show (if ("by" : Str) = "cross" then none else if ("by" : Str) = "by" ∧ a ∈ ns then byOf a (sgnIn (numT x) 999) (sgnIn (numT y) 999) else none) = _
        rw [if_neg n2, if_pos ⟨rfl, ha⟩]
      rw [sgn_round x hx, sgn_round y hy] at e
      exact e
    · rw [show manyOf "by" = 6 from if_pos rfl]
      rfl
  | cross a b =>
    obtain ⟨ha, hb'⟩ := hm
    refine fin (k := "cross") (r := [a, b] ++ ownW o) a3 ?_ ?_
    · rw [show manyOf "cross" = 5 from if_neg n4]
      have e : aimW ["cross", a, b] ns = some (.cross a b) := by
        have e2 : aimW ["cross", a, b] ns = crossW ["cross", a, b] ns := by
          show (if ("cross" : Str) = "cross" then crossW ["cross", a, b] ns else if ("cross" : Str) = "at" then atOf (sgnIn a 999) (sgnIn b 999) else none) = _
          rw [if_pos rfl]
        exact e2.trans (if_pos (show a ∈ ns ∧ b ∈ ns from ⟨ha, hb'⟩))
      exact e
    · rw [show manyOf "cross" = 5 from if_neg n4]
      rfl
/-- the clicks that are told -/
def clksOf (h : Int) : List (Str × Str) → List Ln → List Clk
  | _, [] => []
  | wl, .pt n m o :: r => ⟨n, m, o.getD h, wl⟩ :: clksOf h wl r
  | wl, .wl a b :: r => clksOf h (wl ++ [(a, b)]) r
theorem clks_names (h : Int) : ∀ (ls : List Ln) (wl : List (Str × Str)), (clksOf h wl ls).map Clk.name = nmsOf ls
  | [], _ => rfl
  | .pt n m o :: r, wl => congrArg (n :: ·) (clks_names h r wl)
  | .wl a b :: r, wl => clks_names h r (wl ++ [(a, b)])
theorem point_no {p : Str} {r ns : List Str} {hand : Int} (h : p ≠ "point") : ownPt (p :: r) ns hand = none := by
  have e : pointW (p :: r) ns hand = none := by
    rcases r with _ | ⟨a, _ | ⟨b, r⟩⟩
    · rfl
    · rfl
    · exact if_neg fun q => h q.1
  unfold ownPt
  rw [e]
theorem goes_ne : ("goes" : Str) ≠ "wall" ∧ ("goes" : Str) ≠ "point" ∧ ("point" : Str) ≠ "from" ∧ ("wall" : Str) ≠ "from" ∧ free "goes" ∧ free "from" := by decide +kernel
theorem goes_join {gs : List Str} (h : gs ≠ []) : goesText gs = Txt.join " " ("goes" :: gs) := by
  apply TL.ext_tl
  show tl ("goes " ++ Txt.join " " gs) = _
  rw [TL.tl_append, sp_eq, tl_join', tl_join', List.map_cons]
  cases gs with
  | nil => exact absurd rfl h
  | cons g r =>
    show tl ("goes " : Str) ++ glue 32 (tl g :: r.map tl) = tl ("goes" : Str) ++ 32 :: glue 32 (tl g :: r.map tl)
    rw [show tl ("goes " : Str) = tl ("goes" : Str) ++ [32] by decide +kernel]
    simp
theorem goes_free {gs : List Str} (hp : ∀ g ∈ gs, g ∈ poolN) : ∀ y ∈ (("goes" : Str) :: gs), free y := by
  intro y hy
  rcases List.mem_cons.mp hy with rfl | hy
  · exact goes_ne.2.2.2.2.1
  · exact pool_free _ (hp y hy)
theorem goes_split {gs : List Str} (h : gs ≠ []) (hp : ∀ g ∈ gs, g ∈ poolN) : Txt.split (goesText gs) " " = ("goes" : Str) :: gs := by
  rw [goes_join h, sp_eq]
  exact split_join (by decide) (by simp) fun y hy => (goes_free hp y hy).1
theorem join_nl {ws : List Str} (h : ∀ y ∈ ws, free y) : 10 ∉ tl (Txt.join " " ws) ∧ ∀ c ∈ tl (Txt.join " " ws), c < 16 ^ 8 := by
  rw [sp_eq, tl_join']
  refine ⟨fun q => ?_, fun c q => ?_⟩
  · rcases glue_mem _ q with q | ⟨u, hu, hc⟩
    · cases q
    · obtain ⟨y, hy, rfl⟩ := List.mem_map.mp hu
      exact (h y hy).2.1 hc
  · rcases glue_mem _ q with rfl | ⟨u, hu, hc⟩
    · decide
    · obtain ⟨y, hy, rfl⟩ := List.mem_map.mp hu
      exact (h y hy).2.2 c hc
/-! the starts -/
theorem start_join (s : Stt) : startText s = Txt.join " " ["from", s.1, numT s.2.1, numT s.2.2] := by
  apply TL.ext_tl
  show tl ("from " ++ s.1 ++ " " ++ numT s.2.1 ++ " " ++ numT s.2.2) = _
  rw [TL.tl_append, TL.tl_append, TL.tl_append, TL.tl_append, TL.tl_append, sp_eq, tl_join']
  show _ = tl ("from" : Str) ++ 32 :: (tl s.1 ++ 32 :: (tl (numT s.2.1) ++ 32 :: tl (numT s.2.2)))
  rw [show tl ("from " : Str) = tl ("from" : Str) ++ [32] by decide +kernel, show tl (⟨#[32]⟩ : Str) = [32] by decide +kernel]
  simp
def placesZ : List Int := [0, 3, 4, 5, 2, -4, 1, -2]
theorem places_in : ∀ p ∈ places6, p.1 ∈ placesZ ∧ p.2 ∈ placesZ := by decide
theorem place_round : ∀ x ∈ placesZ, sgnIn (numT x) 999 = some x ∧ free (numT x) ∧ -1000 < x ∧ x < 1000 := by decide +kernel
theorem start_free {s : Stt} (hn : s.1 ∈ poolN) (hx : s.2.1 ∈ placesZ) (hy : s.2.2 ∈ placesZ) : ∀ y ∈ [("from" : Str), s.1, numT s.2.1, numT s.2.2], free y := by
  intro y q
  simp only [List.mem_cons, List.not_mem_nil, or_false] at q
  rcases q with rfl | rfl | rfl | rfl
  · exact goes_ne.2.2.2.2.2
  · exact pool_free _ hn
  · exact (place_round _ hx).2.1
  · exact (place_round _ hy).2.1
theorem start_round {s : Stt} {ss : List Stt} (hn : s.1 ∈ poolN) (hx : s.2.1 ∈ placesZ) (hy : s.2.2 ∈ placesZ) (hno : s.1 ∉ ss.map Prod.fst) (h0 : ss = [] → s.2.1 = 0 ∧ s.2.2 = 0) : startW (Txt.split (startText s) " ") ss = some s := by
  have e : Txt.split (startText s) " " = [("from" : Str), s.1, numT s.2.1, numT s.2.2] := by
    rw [start_join, sp_eq]
    exact split_join (by decide) (by simp) fun y q => (start_free hn hx hy y q).1
  rw [e]
  have e2 : startW ["from", s.1, numT s.2.1, numT s.2.2] ss = (match sgnIn (numT s.2.1) 999, sgnIn (numT s.2.2) 999 with
      | some x, some y => if ss = [] ∧ ¬ (x = 0 ∧ y = 0) then none else some (s.1, x, y)
      | _, _ => none) := if_pos ⟨rfl, pool_name _ hn, hno⟩
  rw [e2, (place_round _ hx).1, (place_round _ hy).1]
  exact if_neg fun q => q.2 (h0 q.1)
/-! the rest -/
theorem line_no_start {l : Ln} {ns : List Str} {nc nw : Nat} (h : LnOk ns nc nw l) (hns : ∀ u ∈ ns, u ∈ poolN) (ss : List Stt) : startW (Txt.split (lineText l) " ") ss = none := by
  rw [line_split h hns]
  have key : ∀ (p : Str) (r : List Str), p ≠ "from" → startW (p :: r) ss = none := by
    intro p r hp
    rcases r with _ | ⟨a, _ | ⟨b, _ | ⟨c, _ | ⟨d, r⟩⟩⟩⟩ <;> first | rfl | exact if_neg fun q => hp q.1
  cases l with
  | pt n m o => exact key _ _ goes_ne.2.2.1
  | wl a b => exact key _ _ goes_ne.2.2.2.1
theorem rest_round (sn : List Str) (hand : Int) (gs : List Str) (h0 : 0 ≤ hand) (h2 : hand ≤ 2) (hg : gs ≠ []) (hgp : ∀ g ∈ gs, g ∈ poolN) (hgn : gs.Nodup) (hgl : gs.length = sn.length) : ∀ (ls : List Ln) (cs : List Clk) (wl : List (Str × Str)), okB (sn ++ cs.map Clk.name) cs.length wl.length ls → (∀ u ∈ sn ++ cs.map Clk.name, u ∈ poolN) →
    (∀ g ∈ gs, g ∈ (sn ++ cs.map Clk.name) ++ nmsOf ls) → 0 < cs.length + (nmsOf ls).length → restIn sn hand (ls.map lineText ++ [goesText gs]) cs wl = some (cs ++ clksOf hand wl ls, wl ++ wlsOf ls, gs)
  | [], cs, wl, _, _, hgi, hc => by
    show restIn sn hand [goesText gs] cs wl = some (cs ++ [], wl ++ [], gs)
    unfold restIn
    rw [goes_split hg hgp, wall_none goes_ne.1, point_no goes_ne.2.1]
    dsimp only
    have e : goesW ("goes" :: gs) (sn ++ cs.map Clk.name) sn.length = true := by
      show (decide (("goes" : Str) = "goes") && (decide (gs.length = sn.length) && (decide gs.Nodup && gs.all fun u => decide (u ∈ sn ++ cs.map Clk.name)))) = true
      rw [decide_eq_true rfl, decide_eq_true hgl, decide_eq_true hgn, Bool.true_and, Bool.true_and, Bool.true_and, List.all_eq_true]
      intro g hg
      refine decide_eq_true ?_
      have := hgi g hg
      rw [show nmsOf [] = [] from rfl, List.append_nil] at this
      exact this
    rw [if_pos ⟨rfl, e, (by rw [show nmsOf [] = [] from rfl] at hc; simpa using hc)⟩, List.append_nil, List.append_nil]
    rfl
  | .pt nm m o :: r, cs, wl, ok, hp, hgi, hc => by
    obtain ⟨ok1, ok2⟩ := ok
    have hl : LnOk (sn ++ cs.map Clk.name) cs.length wl.length (.pt nm m o) := ok1
    show restIn sn hand (lineText (.pt nm m o) :: (r.map lineText ++ [goesText gs])) cs wl = _
    unfold restIn
    have e1 : wallW (lineW (.pt nm m o)) (sn ++ cs.map Clk.name) = none := wall_none ne_words.2.2.2.2
    have e2 : ownPt (lineW (.pt nm m o)) (sn ++ cs.map Clk.name) hand = some (nm, m, o.getD hand) := by
      unfold ownPt
      rw [point_round hl hand]
      refine if_neg fun q => ?_
      rcases q with q | q
      · cases m with
        | «at» x y => exact ok1.2.2.1.elim
        | «by» a x y => cases q
        | cross a b => cases q
      · cases o with
        | none => exact absurd q (by show ¬ 2 < hand; omega)
        | some b => exact absurd q (by have := (ok1.2.2.2.1 b rfl).2; show ¬ 2 < b; omega)
    rw [line_split hl hp, e1, e2]
    dsimp only
    rw [if_pos ok1.2.2.2.2]
    have en : (cs ++ [Clk.mk nm m (o.getD hand) wl]).map Clk.name = cs.map Clk.name ++ [nm] := by rw [List.map_append]; rfl
    have ln : (cs ++ [Clk.mk nm m (o.getD hand) wl]).length = cs.length + 1 := by rw [List.length_append]; rfl
    rw [rest_round sn hand gs h0 h2 hg hgp hgn hgl r (cs ++ [Clk.mk nm m (o.getD hand) wl]) wl (by rw [en, ln, ← List.append_assoc]; exact ok2) (by
      rw [en, ← List.append_assoc]
      intro u hu
      rcases List.mem_append.mp hu with hu | hu
      · exact hp u hu
      · rw [List.mem_singleton.mp hu]; exact ok1.1) (by
      intro g hg
      have := hgi g hg
      rw [en, ← List.append_assoc, List.append_assoc]
      exact this) (by rw [ln]; omega), List.append_assoc]
    rfl
  | .wl a b :: r, cs, wl, ok, hp, hgi, hc => by
    obtain ⟨ok1, ok2⟩ := ok
    have hl : LnOk (sn ++ cs.map Clk.name) cs.length wl.length (.wl a b) := ok1
    show restIn sn hand (lineText (.wl a b) :: (r.map lineText ++ [goesText gs])) cs wl = _
    unfold restIn
    have e1 : wallW (lineW (.wl a b)) (sn ++ cs.map Clk.name) = some (a, b) := if_pos ⟨rfl, ok1.2.2.1, ok1.1, ok1.2.1⟩
    rw [line_split hl hp, e1]
    dsimp only
    rw [if_pos ok1.2.2.2]
    rw [rest_round sn hand gs h0 h2 hg hgp hgn hgl r cs (wl ++ [(a, b)]) (by rw [List.length_append]; exact ok2) hp hgi hc, List.append_assoc]
    rfl
theorem okB_small : ∀ (ls : List Ln) (ns : List Str) (nc nw : Nat), okB ns nc nw ls → (∀ u ∈ ns, u ∈ poolN) → ∀ l ∈ ls, LnSmall l ∧ 10 ∉ tl (lineText l) ∧ ∀ c ∈ tl (lineText l), c < 16 ^ 8
  | [], _, _, _, _, _, l, h => by cases h
  | .pt n m o :: r, ns, nc, nw, ok, hp, l, h => by
    obtain ⟨ok1, ok2⟩ := ok
    have p20 : ∀ u ∈ poolN, u.length ≤ 20 := by decide +kernel
    have n1000 : ∀ x ∈ stepsB, -1000 < x ∧ x < 1000 := by decide +kernel
    have w20 : ("at" : Str).length ≤ 20 ∧ ("by" : Str).length ≤ 20 ∧ ("cross" : Str).length ≤ 20 := by decide +kernel
    rcases List.mem_cons.mp h with rfl | h
    · refine ⟨⟨p20 n ok1.1, ?_, fun b e => ⟨(ok1.2.2.2.1 b e).1, by have := (ok1.2.2.2.1 b e).2; omega⟩⟩, line_nl (ns := ns) (nc := nc) (nw := nw) ok1 hp, line_plain (ns := ns) (nc := nc) (nw := nw) ok1 hp⟩
      have hm := ok1.2.2.1
      intro v hv
      cases m with
      | «at» x y => exact hm.elim
      | «by» a x y =>
        simp only [aimV, List.mem_cons, List.not_mem_nil, or_false] at hv
        rcases hv with rfl | rfl | rfl | rfl
        · exact .inl ⟨_, rfl, w20.2.1⟩
        · exact .inl ⟨_, rfl, p20 _ (hp _ hm.1)⟩
        · exact .inr ⟨_, rfl, n1000 x hm.2.1⟩
        · exact .inr ⟨_, rfl, n1000 y hm.2.2⟩
      | cross a b =>
        simp only [aimV, List.mem_cons, List.not_mem_nil, or_false] at hv
        rcases hv with rfl | rfl | rfl
        · exact .inl ⟨_, rfl, w20.2.2⟩
        · exact .inl ⟨_, rfl, p20 _ (hp _ hm.1)⟩
        · exact .inl ⟨_, rfl, p20 _ (hp _ hm.2)⟩
    · exact okB_small r _ (nc + 1) nw ok2 (fun u hu => by
        rcases List.mem_append.mp hu with hu | hu
        · exact hp u hu
        · rw [List.mem_singleton.mp hu]; exact ok1.1) l h
  | .wl a b :: r, ns, nc, nw, ok, hp, l, h => by
    obtain ⟨ok1, ok2⟩ := ok
    have p20 : ∀ u ∈ poolN, u.length ≤ 20 := by decide +kernel
    rcases List.mem_cons.mp h with rfl | h
    · exact ⟨⟨p20 a (hp a ok1.1), p20 b (hp b ok1.2.1)⟩, line_nl (ns := ns) (nc := nc) (nw := nw) ok1 hp, line_plain (ns := ns) (nc := nc) (nw := nw) ok1 hp⟩
    · exact okB_small r ns nc (nw + 1) ok2 hp l h
theorem okB_count : ∀ (ls : List Ln) (ns : List Str) (nc nw : Nat), okB ns nc nw ls → nc ≤ 2 → nw ≤ 2 → nc + (nmsOf ls).length ≤ 2 ∧ nw + (wlsOf ls).length ≤ 2
  | [], ns, nc, nw, _, h1, h2 => ⟨h1, h2⟩
  | .pt n m o :: r, ns, nc, nw, ok, h1, h2 => by
    have h := okB_count r (ns ++ [n]) (nc + 1) nw ok.2 (by have := ok.1.2.2.2.2; omega) h2
    refine ⟨?_, h.2⟩
    show nc + ((nmsOf r).length + 1) ≤ 2
    omega
  | .wl a b :: r, ns, nc, nw, ok, h1, h2 => by
    have h := okB_count r ns nc (nw + 1) ok.2 h1 (by have := ok.1.2.2.2; omega)
    refine ⟨h.1, ?_⟩
    show nw + ((wlsOf r).length + 1) ≤ 2
    omega
theorem okB_nms : ∀ (ls : List Ln) (ns : List Str) (nc nw : Nat), okB ns nc nw ls → ∀ u ∈ nmsOf ls, u ∈ poolN
  | [], _, _, _, _, u, h => by cases h
  | .pt n m o :: r, ns, nc, nw, ok, u, h => by
    rcases List.mem_cons.mp h with rfl | h
    · exact ok.1.1
    · exact okB_nms r _ _ _ ok.2 u h
  | .wl a b :: r, ns, nc, nw, ok, u, h => okB_nms r _ _ _ ok.2 u h
/-- what the drawn starts give -/
theorem ss_facts {b : Lore} (ok : okLore b) : (∀ s ∈ b.ss, s.1 ∈ poolN ∧ s.2.1 ∈ placesZ ∧ s.2.2 ∈ placesZ) ∧ b.ss ≠ [] ∧ b.ss.length ≤ 2 ∧ ∀ (l : Str) (r : List Str), (∀ ss : List Stt, startW (Txt.split l " ") ss = none) → startsIn 2 (b.ss.map startText ++ l :: r) [] = b.ss := by
  obtain ⟨_, _, hss, _⟩ := ok
  have z0 : (0 : Int) ∈ placesZ := by decide
  rcases hss with ⟨n, e, hn⟩ | ⟨n, n2, x, y, e, hn, hn2, hne, hp⟩
  · rw [e]
    refine ⟨fun s hs => ?_, by simp, by simp, fun l r hl => ?_⟩
    · rw [List.mem_singleton.mp hs]; exact ⟨hn, z0, z0⟩
    · show (match startW (Txt.split (startText (n, 0, 0)) " ") [] with
        | none => []
        | some s => startsIn 1 (l :: r) ([] ++ [s])) = _
      rw [start_round (s := (n, 0, 0)) hn z0 z0 (by simp) (fun _ => ⟨rfl, rfl⟩)]
      show (match startW (Txt.split l " ") [(n, 0, 0)] with
        | none => [(n, 0, 0)]
        | some s => startsIn 0 r ([(n, 0, 0)] ++ [s])) = _
      rw [hl]
  · have hpp := places_in _ hp
    rw [e]
    refine ⟨fun s hs => ?_, by simp, by simp, fun l r hl => ?_⟩
    · rcases List.mem_cons.mp hs with rfl | hs
      · exact ⟨hn, z0, z0⟩
      · rw [List.mem_singleton.mp hs]; exact ⟨hn2, hpp.1, hpp.2⟩
    · show (match startW (Txt.split (startText (n, 0, 0)) " ") [] with
        | none => []
        | some s => startsIn 1 (startText (n2, x, y) :: l :: r) ([] ++ [s])) = _
      rw [start_round (s := (n, 0, 0)) hn z0 z0 (by simp) (fun _ => ⟨rfl, rfl⟩)]
      show (match startW (Txt.split (startText (n2, x, y)) " ") [(n, 0, 0)] with
        | none => [(n, 0, 0)]
        | some s => startsIn 0 (l :: r) ([(n, 0, 0)] ++ [s])) = _
      rw [start_round (s := (n2, x, y)) hn2 hpp.1 hpp.2 (by show n2 ∉ [n]; exact fun q => hne (List.mem_singleton.mp q).symm) (fun q => by cases q)]
      rfl
theorem names_pool {b : Lore} (ok : okLore b) : ∀ u ∈ b.ss.map Prod.fst ++ nmsOf b.ls, u ∈ poolN := by
  intro u hu
  rcases List.mem_append.mp hu with hu | hu
  · obtain ⟨s, hs, rfl⟩ := List.mem_map.mp hu
    exact ((ss_facts ok).1 s hs).1
  · exact okB_nms _ _ _ _ ok.2.2.2.1 u hu
theorem ss_pool {b : Lore} (ok : okLore b) : ∀ u ∈ b.ss.map Prod.fst, u ∈ poolN := fun u hu => names_pool ok u (List.mem_append_left _ hu)
theorem gs_pool {b : Lore} (ok : okLore b) : ∀ g ∈ b.gs, g ∈ poolN := fun g hg => names_pool ok g (ok.2.2.2.2.2.2.1 g hg)
theorem gs_ne {b : Lore} (ok : okLore b) : b.gs ≠ [] := by
  intro e
  have h := ok.2.2.2.2.2.2.2
  rw [e] at h
  have := List.length_pos_iff.mpr (ss_facts ok).2.1
  simp at h
  omega
theorem lore_small {b : Lore} (ok : okLore b) : LoreSmall b := by
  have p20 : ∀ u ∈ poolN, u.length ≤ 20 := by decide +kernel
  have f := ss_facts ok
  have c := okB_count _ _ _ _ ok.2.2.2.1 (by decide) (by decide)
  refine ⟨⟨ok.1, ok.2.1⟩, fun s hs => ?_, f.2.2.1, fun l hl => (okB_small _ _ _ _ ok.2.2.2.1 (ss_pool ok) l hl).1, ?_, fun g hg => p20 _ (gs_pool ok g hg), ?_⟩
  · have q := f.1 s hs
    exact ⟨p20 _ q.1, (place_round _ q.2.1).2.2, (place_round _ q.2.2).2.2⟩
  · rw [ln_count]
    omega
  · rw [ok.2.2.2.2.2.2.2]
    exact f.2.2.1
theorem bay_free {b : Lore} (ok : okLore b) : ∀ y ∈ bayLines b, 10 ∉ tl y ∧ ∀ c ∈ tl y, c < 16 ^ 8 := by
  intro y hy
  rcases List.mem_cons.mp hy with rfl | hy
  · obtain ⟨n, hn⟩ : ∃ n : Nat, b.hand = (n : Int) := ⟨b.hand.toNat, by have := ok.1; omega⟩
    rw [hn]
    exact (hand_round n (by have := ok.2.1; omega)).2
  · rcases List.mem_append.mp hy with hy | hy
    · rcases List.mem_append.mp hy with hy | hy
      · obtain ⟨s, hs, rfl⟩ := List.mem_map.mp hy
        have q := (ss_facts ok).1 s hs
        rw [start_join]
        exact join_nl (start_free q.1 q.2.1 q.2.2)
      · obtain ⟨l, hl, rfl⟩ := List.mem_map.mp hy
        exact (okB_small _ _ _ _ ok.2.2.2.1 (ss_pool ok) l hl).2
    · rw [List.mem_singleton.mp hy, goes_join (gs_ne ok)]
      exact join_nl (goes_free (gs_pool ok))
theorem bay_split {b : Lore} (ok : okLore b) : Txt.split (bayText b) "\n" = bayLines b := by
  unfold bayText
  rw [nl_eq2]
  exact split_join (by decide) (by simp [bayLines]) fun y hy => (bay_free ok y hy).1
theorem bay_plain {b : Lore} (ok : okLore b) : ∀ c ∈ tl (bayText b), c < 16 ^ 8 := by
  unfold bayText
  rw [nl_eq2, tl_join']
  intro c q
  rcases glue_mem _ q with rfl | ⟨u, hu, hc⟩
  · decide
  · obtain ⟨y, hy, rfl⟩ := List.mem_map.mp hu
    exact (bay_free ok y hy).2 c hc
theorem bay_round {b : Lore} (ok : okLore b) : bayIn (bayText b) = some (b.hand, b.ss, clksOf b.hand [] b.ls, wlsOf b.ls, b.gs) := by
  unfold bayIn
  rw [bay_split ok]
  have f := ss_facts ok
  have e1 : handIn ("hand " ++ numT b.hand) 2 = some b.hand := by
    obtain ⟨n, hn⟩ : ∃ n : Nat, b.hand = (n : Int) := ⟨b.hand.toNat, by have := ok.1; omega⟩
    rw [hn]
    exact (hand_round n (by have := ok.2.1; omega)).1
  have e3 := rest_round (b.ss.map Prod.fst) b.hand b.gs ok.1 ok.2.1 (gs_ne ok) (gs_pool ok) ok.2.2.2.2.2.1 (by rw [List.length_map]; exact ok.2.2.2.2.2.2.2) b.ls [] [] (by rw [List.map_nil, List.append_nil]; exact ok.2.2.2.1)
    (by rw [List.map_nil, List.append_nil]; exact ss_pool ok) (by rw [List.map_nil, List.append_nil]; exact ok.2.2.2.2.2.2.1) (by have := ok.2.2.2.2.1; simpa using this)
  rw [List.nil_append, List.nil_append] at e3
  have e2 : startsIn 2 (b.ss.map startText ++ (b.ls.map lineText ++ [goesText b.gs])) [] = b.ss := by
    have hok := ok.2.2.2.1
    have hpos := ok.2.2.2.2.1
    have hsp := ss_pool ok
    generalize b.ls = ls at hok hpos
    cases ls with
    | nil => cases hpos
    | cons l r =>
      refine f.2.2.2 (lineText l) (r.map lineText ++ [goesText b.gs]) fun ss => ?_
      refine line_no_start (ns := b.ss.map Prod.fst) (nc := 0) (nw := 0) ?_ hsp ss
      cases l with
      | pt n m o => exact hok.1
      | wl x y => exact hok.1
  show bayW (("hand " ++ numT b.hand) :: (b.ss.map startText ++ b.ls.map lineText ++ [goesText b.gs])) = _
  rw [List.append_assoc]
  have e4 : (b.ss.map startText ++ (b.ls.map lineText ++ [goesText b.gs])).drop b.ss.length = b.ls.map lineText ++ [goesText b.gs] := by
    have h := List.drop_left (l₁ := b.ss.map startText) (l₂ := b.ls.map lineText ++ [goesText b.gs])
    rw [List.length_map] at h
    exact h
  obtain ⟨s0, sr, es⟩ : ∃ s0 sr, b.ss = s0 :: sr := by
    cases h : b.ss with
    | nil => exact absurd h f.2.1
    | cons a r => exact ⟨a, r, rfl⟩
  unfold bayW
  dsimp only
  rw [e1]
  dsimp only
  rw [e2]
  generalize b.ss = ss at es e3 e4
  subst es
  dsimp only
  rw [e4, e3]
theorem empty_app (x : Str) : Str.empty ++ x = x := by
  apply TL.ext_tl
  rw [TL.tl_append]
  rfl
/-! ### data that may be shown -/
def dOk (d : PyData) : Bool := d.showable && (!d.hasDict && PyData.leavesShort 8 d)
theorem show_ok {d : PyData} (h : dOk d = true) (hd : d.depth ≤ 60) (hb : d.bulk ≤ 100000) : shOk d = true ∧ d.depth ≤ 60 ∧ d.shown.length ≤ sizeLine := by
  unfold dOk at h
  obtain ⟨a, h⟩ := Bool.and_eq_true_iff.mp h
  obtain ⟨b, c⟩ := Bool.and_eq_true_iff.mp h
  refine ⟨?_, hd, ?_⟩
  · unfold shOk
    rw [a, b]
    rfl
  · refine Nat.le_trans (PyData.shown_le_bulk 8 (Nat.le_refl _) _ c) ?_
    exact Nat.le_trans (by omega : (8 + 2) * d.bulk + 8 ≤ 1000008) (by decide)
theorem plain_all {x : Str} (h : ∀ c ∈ tl x, c < 16 ^ 8) : (x.cps.toList.all fun c => decide (c < 16 ^ 8)) = true := by
  rw [List.all_eq_true]
  exact fun c hc => decide_eq_true (h c hc)
theorem int_ok {i : Int} (h0 : -1000 < i) (h1 : i < 1000) : (PyData.int i).showable = true ∧ PyData.leavesShort 8 (.int i) = true := by
  obtain ⟨a, b⟩ := num1000 h0 h1
  refine ⟨?_, ?_⟩
  · unfold PyData.showable
    exact decide_eq_true a
  · unfold PyData.leavesShort
    refine decide_eq_true ?_
    have : (PyData.int i).shown = numT i := by unfold PyData.shown; rfl
    rw [this]
    omega
end L2.K40

set_option Elab.async false
set_option linter.all false
set_option maxRecDepth 100000
set_option maxHeartbeats 4000000
namespace L2.K40
open PySem PySem.Spec PyProof.Rows L2.Vx
open PySem.W (Frag)
section
variable {P : Program} {w : World} {K : Frag} {mg : Str → Option Value} {bs : Heap}
def spPNames (K : Frag) : Sp := fun vs H Q _ => ∃ (D S R G : Addr) (ps : List Addr) (ls : List Ln) (h : Int), vs = [.ref D] ∧ H D = some (.dK (lrB h S R G)) ∧ H R = some (.lst (ps.map V.ref)) ∧ LnsAt H ps ls ∧ ls.length ≤ 20 ∧
  ∀ H' q, Same H H' → H q = none → H' q = some (.lst ((nmsOf ls).map V.str)) → Q (.ref q) H'
theorem scPNames : FnScope ["plan", "line"] ["plan"] (defScope sPNames) := ⟨rfl, rfl, rfl, by decide +kernel, rfl, by decide +kernel, by decide +kernel⟩
theorem nms_take {ls : List Ln} {j : Nat} (h : j < ls.length) : nmsOf (ls.take (j + 1)) = nmsOf (ls.take j) ++ nmsOf [ls[j]] := by
  rw [List.take_succ, List.getElem?_eq_getElem h, nms_app]
  rfl
theorem nms_le : ∀ ls : List Ln, (nmsOf ls).length ≤ ls.length
  | [] => Nat.le_refl _
  | .pt n m o :: r => Nat.succ_le_succ (nms_le r)
  | .wl a b :: r => Nat.le_succ_of_le (nms_le r)
theorem ok_pnames {f : Addr} {fd : FuncData} (FP : FD K "_law_point_names" sPNames f fd) : FnOk P w K mg bs CX0 1 f fd ["plan"] (spPNames K) := by
  have sc := scPNames
  refine FP.ok scPNames (fun vs H Q E h => ?_) (fun cdv A outer s H vs Q E hr h => ?_)
  · obtain ⟨D, S, R, G, ps, ls, h, rfl, _⟩ := h
    rfl
  · obtain ⟨D, S, R, G, ps, ls, h, rfl, hD, hR, hls, hlen, k⟩ := h
    have hu := hu_of hr
    refine ⟨_, pss_one (ps_ret (pe_lc (own := [("line", 1)]) (g := gName 1) (by rfl) sc.nd (pi_list (pe_dget hu (pv 0) pe_str (fun _ _ => rfl))) (blkOk_by (N := ["plan", "line"]) (sc := defScope sPNames) (by decide +kernel))
        (fun _ _ _ _ _ => pg_name (i := 1) sc.nd rfl (Or.inl rfl)) (fun _ _ _ _ _ => pts_one (pt_cmpR op_eq (pe_ix (r := rIxT K) ix_tup (pv 1) pe_int (fun _ _ => rfl)) pe_str (nomark _)))
        (fun _ _ _ _ _ => pe_ix (r := rIxT K) ix_tup (pv 1) pe_int (fun _ _ => rfl)))), ?_⟩
    refine ⟨_, rfl, D, .ref R, rfl, DGet.k (k := Sum.inr "lines") hD, R, rfl, ⟨_, SqL.of hR⟩, fun E0 hE => lc_it (walk_list (K := K) (a := R) (xs := ps.map V.ref)) (fun j H' => Same H H' ∧ H' E0 = some (.lst ((nmsOf (ls.take j)).map V.str))) ⟨same_new hE, upd_same⟩ (fun _ _ _ u => SqL.of (u.1 _ _ hR)) ?_ ?_⟩
    · rintro j v H5 H6 hj ⟨s5, d5⟩ ⟨rfl, hv⟩
      have hj' : j < ps.length := by simpa using hj
      have hj2 : j < ls.length := by rw [← hls.1]; exact hj'
      rw [List.getElem?_map, List.getElem?_eq_getElem hj'] at hv
      cases hv
      have hl := (hls.map (tup_same s5)).2 j _ _ (List.getElem?_eq_getElem hj') (List.getElem?_eq_getElem hj2)
      rw [nms_take hj2]
      have ln := nms_le (ls.take j)
      rw [List.length_take] at ln
      generalize ls[j] = l at hl ⊢
      refine ⟨rfl, ?_⟩
      cases l with
      | wl x y =>
        refine ⟨_, rfl, _, _, 0, .str "wall", rfl, rfl, SqT.of hl, rfl, rfl, _, rfl, ?_⟩
        refine Eq.mpr (if_neg (by decide +kernel)) ?_
        refine ⟨s5, ?_⟩
        rw [d5]
        show some (HO.lst ((nmsOf (ls.take j)).map V.str)) = some (HO.lst ((nmsOf (ls.take j) ++ []).map V.str))
        rw [List.append_nil]
      | pt n m o =>
        obtain ⟨q, e, _⟩ := hl
        refine ⟨_, rfl, _, _, 0, .str "point", rfl, rfl, SqT.of e, rfl, rfl, _, rfl, ?_⟩
        refine Eq.mpr (if_pos (decide_eq_true rfl)) ?_
        refine ⟨_, rfl, _, _, 1, .str n, rfl, rfl, SqT.of e, rfl, _, d5, ?_, s5.mut hE, ?_⟩
        · rw [List.length_map]
          exact Nat.lt_of_le_of_lt (by omega : (nmsOf (ls.take j)).length ≤ 20) (by decide)
        · rw [upd_same, List.map_append]
          rfl
    · rintro H5 ⟨s5, d5⟩
      rw [List.length_map, hls.1, List.take_length] at d5
      exact k H5 E0 s5 hE d5
end
end L2.K40

set_option Elab.async false
set_option linter.all false
set_option maxRecDepth 100000
set_option maxHeartbeats 8000000
namespace L2.K40
open PySem PySem.Spec PyProof.Rows L2.Vx
open PySem.W (Frag)
open TL (tl)
/-! ### what a bay tells of itself, as data -/
def dOf : V → PyData
  | .str s => .str s
  | .int i => .int i
  | _ => .none
def dOkAll (ds : List PyData) : Bool := PyData.showableAll ds && (!PyData.hasDictAll ds && PyData.leavesShortAll 8 ds)
theorem dOk_tuple {ds : List PyData} (h : dOkAll ds = true) : dOk (.tuple ds) = true := by
  unfold dOk PyData.showable PyData.hasDict PyData.leavesShort
  exact h
theorem dOk_nil : dOkAll [] = true := rfl
theorem dOk_cons {d : PyData} {ds : List PyData} (h : dOk d = true) (h2 : dOkAll ds = true) : dOkAll (d :: ds) = true := by
  unfold dOk at h
  unfold dOkAll at h2 ⊢
  obtain ⟨a1, h⟩ := Bool.and_eq_true_iff.mp h
  obtain ⟨a2, a3⟩ := Bool.and_eq_true_iff.mp h
  obtain ⟨b1, h2⟩ := Bool.and_eq_true_iff.mp h2
  obtain ⟨b2, b3⟩ := Bool.and_eq_true_iff.mp h2
  unfold PyData.showableAll PyData.hasDictAll PyData.leavesShortAll
  rw [a1, a3, b1, b3, Bool.not_or, a2, b2]
  rfl
theorem dOk_str {x : Str} (h : ∀ c ∈ tl x, c < 16 ^ 8) : dOk (.str x) = true := by
  unfold dOk PyData.showable PyData.hasDict PyData.leavesShort
  rw [plain_all h]
  rfl
theorem dOk_int {i : Int} (h0 : -1000 < i) (h1 : i < 1000) : dOk (.int i) = true := by
  obtain ⟨a, b⟩ := int_ok h0 h1
  unfold dOk
  rw [a, b]
  rfl
def wallD (x : Str × Str) : PyData := .tuple [.str x.1, .str x.2]
theorem strs_okD : ∀ ns : List Str, (∀ u ∈ ns, u ∈ poolN) → dOkAll (ns.map PyData.str) = true ∧ PyData.bulkAll (ns.map PyData.str) ≤ 21 * ns.length
  | [], _ => ⟨rfl, Nat.zero_le _⟩
  | u :: ns, h => by
    have p20 : ∀ u ∈ poolN, u.cps.size ≤ 20 := by decide +kernel
    obtain ⟨a, b⟩ := strs_okD ns fun x hx => h x (List.mem_cons_of_mem _ hx)
    have hu := h u (List.mem_cons_self ..)
    refine ⟨dOk_cons (dOk_str (pool_free u hu).2.2) a, ?_⟩
    rw [List.map_cons, List.length_cons]
    unfold PyData.bulkAll PyData.bulk
    have := p20 u hu
    omega
theorem walls_okD : ∀ wl : List (Str × Str), (∀ x ∈ wl, x.1 ∈ poolN ∧ x.2 ∈ poolN) → dOkAll (wl.map wallD) = true ∧ PyData.bulkAll (wl.map wallD) ≤ 50 * wl.length ∧ PyData.depthAll (wl.map wallD) ≤ 1
  | [], _ => ⟨rfl, Nat.zero_le _, Nat.zero_le _⟩
  | u :: wl, h => by
    have p20 : ∀ u ∈ poolN, u.cps.size ≤ 20 := by decide +kernel
    obtain ⟨a, b, c⟩ := walls_okD wl fun x hx => h x (List.mem_cons_of_mem _ hx)
    obtain ⟨h1, h2⟩ := h u (List.mem_cons_self ..)
    have q1 := p20 _ h1
    have q2 := p20 _ h2
    have e : (u :: wl).map wallD = PyData.tuple [.str u.1, .str u.2] :: wl.map wallD := rfl
    rw [e, List.length_cons]
    generalize wl.map wallD = L at a b c ⊢
    refine ⟨dOk_cons (dOk_tuple (dOk_cons (dOk_str (pool_free _ h1).2.2) (dOk_cons (dOk_str (pool_free _ h2).2.2) dOk_nil))) a, ?_, ?_⟩
    · simp only [PyData.bulk, PyData.bulkAll]
      omega
    · simp only [PyData.depth, PyData.depthAll]
      omega
theorem ws_dd {K : Frag} {H : Hp} : ∀ {ps : List Addr} {wl : List (Str × Str)}, WsAt H ps wl → DdAll K H (ps.map V.ref) (wl.map wallD)
  | [], [], _ => .nil
  | [], _ :: _, h => by cases h.1
  | _ :: _, [], h => by cases h.1
  | p :: ps, r :: rs, h => .cons (.tup (SqT.of (h.2 0 p r rfl rfl)) (.cons (.str _) (.cons (.str _) .nil))) (ws_dd ⟨Nat.succ.inj h.1, fun i a b x y => h.2 (i + 1) a b x y⟩)
theorem strs_dd {K : Frag} {H : Hp} : ∀ ns : List Str, DdAll K H (ns.map V.str) (ns.map PyData.str)
  | [] => .nil
  | u :: ns => .cons (.str u) (strs_dd ns)
def startD (s : Stt) : PyData := .tuple [.str s.1, .tuple [.int s.2.1, .int s.2.2]]
theorem starts_okD : ∀ ss : List Stt, (∀ s ∈ ss, s.1 ∈ poolN ∧ s.2.1 ∈ placesZ ∧ s.2.2 ∈ placesZ) → dOkAll (ss.map startD) = true ∧ PyData.bulkAll (ss.map startD) ≤ 400 * ss.length ∧ PyData.depthAll (ss.map startD) ≤ 2
  | [], _ => ⟨rfl, Nat.zero_le _, Nat.zero_le _⟩
  | u :: ss, h => by
    have p20 : ∀ u ∈ poolN, u.cps.size ≤ 20 := by decide +kernel
    obtain ⟨a, b, c⟩ := starts_okD ss fun x hx => h x (List.mem_cons_of_mem _ hx)
    obtain ⟨h1, h2, h3⟩ := h u (List.mem_cons_self ..)
    have q1 := p20 _ h1
    have r2 := (place_round _ h2).2.2
    have r3 := (place_round _ h3).2.2
    have e : (u :: ss).map startD = PyData.tuple [.str u.1, .tuple [.int u.2.1, .int u.2.2]] :: ss.map startD := rfl
    rw [e, List.length_cons]
    generalize ss.map startD = L at a b c ⊢
    refine ⟨dOk_cons (dOk_tuple (dOk_cons (dOk_str (pool_free _ h1).2.2) (dOk_cons (dOk_tuple (dOk_cons (dOk_int r2.1 r2.2) (dOk_cons (dOk_int r3.1 r3.2) dOk_nil))) dOk_nil))) a, ?_, ?_⟩
    · simp only [PyData.bulk, PyData.bulkAll]
      omega
    · simp only [PyData.depth, PyData.depthAll]
      omega
theorem sts_dd {K : Frag} {H : Hp} : ∀ {ps : List Addr} {ss : List Stt}, StsAt H ps ss → DdAll K H (ps.map V.ref) (ss.map startD)
  | [], [], _ => .nil
  | [], _ :: _, h => by cases h.1
  | _ :: _, [], h => by cases h.1
  | p :: ps, r :: rs, h => by
    obtain ⟨q, h1, h2⟩ := h.2 0 p r rfl rfl
    exact .cons (.tup (SqT.of h1) (.cons (.str _) (.cons (.tup (SqT.of h2) (.cons (.int _) (.cons (.int _) .nil))) .nil))) (sts_dd ⟨Nat.succ.inj h.1, fun i a b x y => h.2 (i + 1) a b x y⟩)
theorem okB_walls : ∀ (ls : List Ln) (ns : List Str) (nc nw : Nat), okB ns nc nw ls → (∀ u ∈ ns, u ∈ poolN) → ∀ x ∈ wlsOf ls, x.1 ∈ poolN ∧ x.2 ∈ poolN
  | [], _, _, _, _, _ => fun _ h => (by cases h)
  | .pt n m o :: r, ns, nc, nw, ok, hp => okB_walls r (ns ++ [n]) (nc + 1) nw ok.2 (fun u hu => by
      rcases List.mem_append.mp hu with hu | hu
      · exact hp u hu
      · rw [List.mem_singleton.mp hu]; exact ok.1.1)
  | .wl x y :: r, ns, nc, nw, ok, hp => fun z hz => by
    rcases List.mem_cons.mp (show z ∈ (x, y) :: wlsOf r from hz) with rfl | hz
    · exact ⟨hp _ ok.1.1, hp _ ok.1.2.1⟩
    · exact okB_walls r ns nc (nw + 1) ok.2 hp z hz
/-- what is shown of a bay -/
def bayD (b : Lore) : PyData := .tuple [.str (bayText b), .int b.hand, .tuple (b.ss.map startD), .tuple ((nmsOf b.ls).map PyData.str), .tuple ((wlsOf b.ls).map wallD), .tuple (b.gs.map PyData.str)]
theorem bayD_ok {b : Lore} (ok : okLore b) : shOk (bayD b) = true ∧ (bayD b).depth ≤ 60 ∧ (bayD b).shown.length ≤ sizeLine := by
  have f := ss_facts ok
  have c := okB_count _ _ _ _ ok.2.2.2.1 (by decide) (by decide)
  have hn := okB_nms _ _ _ _ ok.2.2.2.1
  obtain ⟨a1, a2, a3⟩ := starts_okD b.ss f.1
  obtain ⟨b1, b2⟩ := strs_okD (nmsOf b.ls) hn
  have b3 := depthAll (nmsOf b.ls)
  obtain ⟨c1, c2, c3⟩ := walls_okD (wlsOf b.ls) (okB_walls _ _ _ _ ok.2.2.2.1 (ss_pool ok))
  obtain ⟨d1, d2⟩ := strs_okD b.gs (gs_pool ok)
  have d3 := depthAll b.gs
  have lg : b.gs.length ≤ 2 := by rw [ok.2.2.2.2.2.2.2]; exact f.2.2.1
  have ls2 := f.2.2.1
  have bl : (bayText b).cps.size ≤ 3000 := bay_len (lore_small ok)
  have h0 := ok.1
  have h2 := ok.2.1
  have pl := bay_plain ok
  unfold bayD
  generalize b.ss.map startD = A at a1 a2 a3
  generalize (nmsOf b.ls).map PyData.str = B at b1 b2 b3
  generalize (wlsOf b.ls).map wallD = C at c1 c2 c3
  generalize b.gs.map PyData.str = D at d1 d2 d3
  generalize bayText b = Z at bl pl
  refine show_ok (dOk_tuple (dOk_cons (dOk_str pl) (dOk_cons (dOk_int (by omega) (by omega)) (dOk_cons (dOk_tuple a1) (dOk_cons (dOk_tuple b1) (dOk_cons (dOk_tuple c1) (dOk_cons (dOk_tuple d1) dOk_nil))))))) ?_ ?_
  · simp only [PyData.depth, PyData.depthAll]
    omega
  · simp only [PyData.bulk, PyData.bulkAll]
    omega
end L2.K40

set_option Elab.async false
set_option linter.all false
set_option maxRecDepth 100000
set_option maxHeartbeats 8000000
namespace L2.K40
open PySem PySem.Spec PyProof.Rows L2.Vx
open PySem.W (Frag)
/-! ### one bay, as it is told -/
structure FxBBk (K : Frag) (B gE : Addr) : Prop where
  sE : PySem.W.findIn K (.ref B) (cmpInfo .Eq).2.1 = some (some (.ref gE))
  sE2 : PySem.W.findIn K (.ref B) "__eq__" = some (some (.ref gE))
  sN : PySem.W.findIn K (.ref B) "__ne__" = some (some (.builtin "object.__ne__"))
  fE : PySem.W.isFn K (.ref gE) = true
  nfB : PySem.W.notFirst K B (.ref B) = true
  nfT : ∀ n ∈ ["NoneType", "bool", "int", "str", "tuple", "list", "dict"], PySem.W.notFirst K B (.type n) = true ∧ PySem.W.kitOne K (.type n) (.ref B) = some false
structure FxRt40 (K : Frag) (mg : Str → Option Value) (B fB : Addr) : Prop where
  new : FxBNew K mg B
  isi : FxIsiB K mg B
  mkB : Mk K B fB
  rep : mg "repr" = none
  tup : mg "tuple" = none
theorem odd_ty {K : Frag} {H : Hp} {v : V} {d : PyData} (h : Dd K H v d) : ∃ n, n ∈ ["NoneType", "bool", "int", "str", "tuple", "list", "dict"] ∧ TyX K H v (.type n) := by
  cases h with
  | non => exact ⟨_, by simp, .base .non⟩
  | bl b => exact ⟨"bool", by simp, .base (.bl b)⟩
  | int i => exact ⟨"int", by simp, .base (.int i)⟩
  | str x => exact ⟨"str", by simp, .base (.str x)⟩
  | lst h t => exact ⟨"list", by simp, tyX_list h⟩
  | tup h t => exact ⟨"tuple", by simp, tyX_tup h⟩
  | dct h t => exact ⟨"dict", by simp, .base (.dK h)⟩
theorem nt_selfS (v : Str) : ¬ (!decide (v = v)) = true := by simp
theorem nt_self (v : V) : ¬ (!decide (v = v)) = true := by simp
section
variable {P : Program} {w : World} {K : Frag} {mg : Str → Option Value} {bs : Heap}
theorem passN {X : Cx} : Passes (L2.CX P w) X (fun _ _ _ => False) := fun _ _ _ _ _ _ _ h => by
  obtain ⟨_, _, _, _, _, _, _, _, _, _, _, _, f⟩ := h
  exact f.elim
theorem rd_bay {B : Addr} {H : Hp} {z : Str} {r : BayR} {R : Addr → Hp → Prop} (hz : z.length ≤ 700000) (hp : bayIn z = some r) (key : ∀ y H', H y = none → Same H H' → BayAt B H' y z r → R y H') :
    ∀ x dx, H x = none → H dx = none → dx ≠ x → spBNew K B [.ref x, .str z] (upd (upd H dx (.own x)) x (.ins B dx [])) (fun v H2 => v = .non ∧ R x H2) (fun _ _ _ => False) := by
  intro x dx hx hdx ndx
  have sx1 : Same H (upd H dx (.own x)) := same_new hdx
  have hx1 : upd H dx (.own x) x = none := (upd_ne (Ne.symm ndx)).trans hx
  have sx2 : Same (upd H dx (.own x)) (upd (upd H dx (.own x)) x (.ins B dx [])) := same_new hx1
  have fx : upd (upd H dx (.own x)) x (.ins B dx []) x = some (.ins B dx []) := upd_same
  have s4 : Same H (upd (upd H dx (.own x)) x (.ins B dx [])) := sx1.trans sx2
  generalize upd (upd H dx (.own x)) x (.ins B dx []) = H4 at fx s4 ⊢
  refine ⟨x, dx, z, r, rfl, fx, hz, hp, fun H5 kx hb => ⟨rfl, key x H5 hx (fun b o e => kx b o (fun z => by rw [z, hx] at e; cases e) (s4 _ _ e)) hb⟩⟩
theorem rawF {CX : CXT} {k : Nat} {f : Addr} {sp : Sp} {fd : FuncData} {ps : List Str} (F : FnOk P w K mg bs CX k f fd ps sp) (b : Binds K fd ps []) : FnR P w K mg bs CX k f sp := by
  have h := F.raw b .nil
  simp only [List.append_nil] at h
  exact h
def spRight : Sp := fun vs H Q _ => ∃ (p : Addr) (k : Int), vs = [.ref p] ∧ 0 ≤ k ∧ k < 400000 ∧ Pot H p k ∧ ∀ H', But p H H' → Q (.bl true) H'
theorem scRight : FnScope ["pot", "lore", "further", "text", "other", "bay", "walls", "due", "line"] ["pot"] (defScope sRight) := ⟨rfl, rfl, rfl, by decide +kernel, rfl, by decide +kernel, by decide +kernel⟩
theorem ok_right {f fB gE fBy fBt fPN fOd B : Addr} {fd fdB fdE fdBy fdBt fdPN fdOd : FuncData} (FP : FD K "_law_right" sRight f fd) (F : FxRt40 K mg B fB) (FK : FxBBk K B gE)
    (GBy : FnOk P w K mg bs CX0 4 fBy fdBy ["pot", "most"] (spBay K)) (kBy : PySem.W.keepIn K (.ref fBy) = true) (gBy : mg "_law_bay" = some (.ref fBy)) (bBy : Binds K fdBy ["pot", "most"] [])
    (GBt : FnOk P w K mg bs CX0 2 fBt fdBt ["bay"] (spBText K)) (kBt : PySem.W.keepIn K (.ref fBt) = true) (gBt : mg "_law_bay_text" = some (.ref fBt)) (bBt : Binds K fdBt ["bay"] [])
    (GPN : FnOk P w K mg bs CX0 1 fPN fdPN ["plan"] (spPNames K)) (kPN : PySem.W.keepIn K (.ref fPN) = true) (gPN : mg "_law_point_names" = some (.ref fPN)) (bPN : Binds K fdPN ["plan"] [])
    (GOd : FnOk P w K mg bs CX0 3 fOd fdOd ["pot"] (spOdd K)) (kOd : PySem.W.keepIn K (.ref fOd) = true) (gOd : mg "_law_odd" = some (.ref fOd)) (bOd : Binds K fdOd ["pot"] [])
    (GB : FnOk P w K mg bs (L2.CX P w) 9 fB fdB ["self", "text"] (spBNew K B)) (bB : Binds K fdB ["self", "text"] []) (RE : FnR P w K mg bs CX0 1 gE (spBEq K B)) : FnG P w K mg bs CX0 11 f fd ["pot"] spRight := by
  have sc := scRight
  refine okG0 FP scRight (fun vs H Q E h => ?_) (fun cdv A outer s H vs Q E gd hr h => ?_)
  · obtain ⟨p, k, rfl, _⟩ := h
    rfl
  · obtain ⟨p, t, rfl, t0, ht, hP, k⟩ := h
    have hr1 : Room 1 (A.deeper (envOfC "_law_right" (defScope sRight) s.heap.objs.size f cdv)) := hr.mono (by decide)
    have hr2 : Room 2 (A.deeper (envOfC "_law_right" (defScope sRight) s.heap.objs.size f cdv)) := hr.mono (by decide)
    have hr3 : Room 3 (A.deeper (envOfC "_law_right" (defScope sRight) s.heap.objs.size f cdv)) := hr.mono (by decide)
    have hr4 : Room 4 (A.deeper (envOfC "_law_right" (defScope sRight) s.heap.objs.size f cdv)) := hr.mono (by decide)
    have hu := hu_of hr
    refine ⟨_, pss_cons (ps_par (i := 1) (j := 2) rfl sc.nd rfl rfl (by decide) rfl rfl (pa_cons (pe_call GBy hr4 (by rfl) gBy kBy bBy .nil pass0 (pa_cons (pv 0) (pa_cons pe_int pa_nil))) (pa_cons (pe_call GBy hr4 (by rfl) gBy kBy bBy .nil pass0 (pa_cons (pv 0) (pa_cons pe_int pa_nil))) pa_nil)) rfl)
      (pss_cons (ps_par (i := 3) (j := 4) rfl sc.nd rfl rfl (by decide) rfl rfl (pa_cons (pe_call GBt hr2 (by rfl) gBt kBt bBt .nil pass0 (pa_cons (pv 1) pa_nil)) (pa_cons (pe_call GBt hr2 (by rfl) gBt kBt bBt .nil pass0 (pa_cons (pv 2) pa_nil)) pa_nil)) rfl)
      (pss_cons (ps_set (i := 5) sc.nd rfl (Or.inl rfl) (pe_make F.mkB GB hr (by rfl) F.isi.gB bB .nil passN (pa_cons (pv 3) pa_nil)))
      (pss_cons (ps_set (i := 6) sc.nd rfl (Or.inl rfl) (pe_callTy call_tuple_of (by rfl) F.tup boot_tuple (pa_cons (pe_lc (own := [("line", 8)]) (g := gName 8) (by rfl) sc.nd (pi_list (pe_dget hu (pv 1) pe_str (fun _ _ => rfl))) (blkOk_by (N := ["pot", "lore", "further", "text", "other", "bay", "walls", "due", "line"]) (sc := defScope sRight) (by decide +kernel))
            (fun _ _ _ _ _ => pg_name (i := 8) sc.nd rfl (Or.inl rfl)) (fun _ _ _ _ _ => pts_one (pt_cmpR op_eq (pe_ix (r := rIxT K) ix_tup (pv 8) pe_int (fun _ _ => rfl)) pe_str (nomark _)))
            (fun _ _ _ _ _ => pe_slice (r := rSlT K) sl_tup (pv 8) (po_some pe_int) po_none)) pa_nil)))
      (pss_cons (ps_set (i := 7) sc.nd rfl (Or.inl rfl) (pe_tup (pa_cons (pv 3) (pa_cons (pe_dget hu (pv 1) pe_str (fun _ _ => rfl)) (pa_cons (pe_callTy call_tuple_of (by rfl) F.tup boot_tuple (pa_cons (pe_dget hu (pv 1) pe_str (fun _ _ => rfl)) pa_nil))
          (pa_cons (pe_callTy call_tuple_of (by rfl) F.tup boot_tuple (pa_cons (pe_call GPN hr1 (by rfl) gPN kPN bPN .nil pass0 (pa_cons (pv 1) pa_nil)) pa_nil)) (pa_cons (pv 6) (pa_cons (pe_dget hu (pv 1) pe_str (fun _ _ => rfl)) pa_nil))))))))
      (pss_cons (ps_if (pt_cmpR op_ne (pe_callB (call_repr gd hr.units) (by rfl) F.rep boot_repr (pa_cons (pe_tup (pa_cons (pe_fld (pv 5) rfl) (pa_cons (pe_fld (pv 5) rfl) (pa_cons (pe_fld (pv 5) rfl) (pa_cons (pe_fld (pv 5) rfl) (pa_cons (pe_fld (pv 5) rfl) (pa_cons (pe_fld (pv 5) rfl) pa_nil))))))) pa_nil))
          (pe_callB (call_repr gd hr.units) (by rfl) F.rep boot_repr (pa_cons (pv 7) pa_nil)) (nomark _)) (pss_one (ps_ret pe_bl)) pss_nil)
      (pss_cons (ps_if (PW.pt (pw_or (pt_not (pt_cmpR (op_eqOwnX FK.sE FK.fE RE hr1 pass0) (pv 5) (pe_make F.mkB GB hr (by rfl) F.isi.gB bB .nil passN (pa_cons (pv 3) pa_nil)) (nomark _)))
          (pw_or (pt_cmpR (op_neOwnX F.isi.hm FK.sN FK.sE2 FK.fE RE hr2 pass0) (pv 5) (pe_make F.mkB GB hr (by rfl) F.isi.gB bB .nil passN (pa_cons (pv 3) pa_nil)) (nomark _))
          (pw_or1 (pt_cmpR op_ne (pe_cmpR (op_eqOwnX FK.sE FK.fE RE hr1 pass0) (pv 5) (pe_make F.mkB GB hr (by rfl) F.isi.gB bB .nil passN (pa_cons (pv 4) pa_nil)) (nomark _)) (pe_cmpR op_eq (pv 3) (pv 4) (nomark _)) (nomark _)))))) (pss_one (ps_ret pe_bl)) pss_nil)
      (pss_one (ps_ret (pe_and (pe_not (pe_cmpR (op_eqOwnX FK.sE FK.fE RE hr1 pass0) (pv 5) (pv 3) (nomark _)))
          (pe_one (pe_not (pe_cmpR (op_eqOwnX FK.sE FK.fE RE hr1 pass0) (pv 5) (pe_call GOd hr3 (by rfl) gOd kOd bOd .nil pass0 (pa_cons (pv 0) pa_nil)) (nomark _))))))))))))), ?_⟩
    have tupB0 : ∀ {H' H'' : Hp} {k : Int}, Pot H' p k → But p H' H'' → ∀ a vs, H' a = some (.tup vs) → H'' a = some (.tup vs) := fun hP k a vs e => k _ _ (fun z => by rw [z] at e; obtain ⟨_, _, _, ep, _⟩ := hP; rw [ep] at e; cases e) e
    refine rd_seq ?_
    refine ⟨_, rfl, p, t, rfl, t0, by omega, hP, fun H1 D1 Sa La Ga pss1 ps1 b1 k1 hP1 hD10 hS10 hL10 hD1 hS1 hst1 hL1 hls1 hG1 ok1 => ?_⟩
    refine ⟨_, rfl, p, t + 50, rfl, by omega, by omega, hP1, fun H2 D2 Sb Lb Gb pss2 ps2 b2 k2 hP2 hD20 hS20 hL20 hD2 hS2 hst2 hL2 hls2 hG2 ok2 => ?_⟩
    refine ⟨_, _, rfl, ?_⟩
    have kt2 := fun a vs e => tupB0 hP1 k2 a vs e
    have hD1' := k2 _ _ (hP.ne hD10) hD1
    have hS1' := k2 _ _ (hP.ne hS10) hS1
    have hL1' := k2 _ _ (hP.ne hL10) hL1
    have hst1' := hst1.map kt2
    have hls1' := hls1.map kt2
    have hG1' := kt2 _ _ hG1
    have k12 := k1.trans k2
    clear kt2 hD1 hS1 hL1 hst1 hls1 hG1 k1 k2 hP1 hD20 hS20 hL20 hD10 hS10 hL10
    dsimp only
    refine rd_seq ?_
    refine ⟨_, rfl, D1, Sa, La, Ga, pss1, ps1, b1, rfl, hD1', hS1', hst1', hL1', hls1', hG1', lore_small ok1, fun H3 s3 => ?_⟩
    have kt3 := tup_same s3
    refine ⟨_, rfl, D2, Sb, Lb, Gb, pss2, ps2, b2, rfl, s3 _ _ hD2, s3 _ _ hS2, hst2.map kt3, s3 _ _ hL2, hls2.map kt3, s3 _ _ hG2, lore_small ok2, fun H4 s4 => ?_⟩
    refine ⟨_, _, rfl, ?_⟩
    have s24 := s3.trans s4
    have kt4 := tup_same s24
    have hD4 := s24 _ _ hD1'
    have hS4 := s24 _ _ hS1'
    have hL4 := s24 _ _ hL1'
    have hst4 := hst1'.map kt4
    have hls4 := hls1'.map kt4
    have hG4 := s24 _ _ hG1'
    have hP4 := hP2.same s24
    have k14 := k12.trans (But.of s24)
    have lb1 := bay_len (lore_small ok1)
    have rb1 := bay_round ok1
    have lb2 := bay_len (lore_small ok2)
    have rb2 := bay_round ok2
    have dd1 := bayD_ok ok1
    have eD : bayD b1 = .tuple [.str (bayText b1), .int b1.hand, .tuple (b1.ss.map startD), .tuple ((nmsOf b1.ls).map PyData.str), .tuple ((wlsOf b1.ls).map wallD), .tuple (b1.gs.map PyData.str)] := rfl
    generalize bayD b1 = dT at dd1 eD
    have lls : b1.ls.length ≤ 4 := (lore_small ok1).2.2.2.2.1
    have hcn := clks_names b1.hand b1.ls []
    have lwl : (wlsOf b1.ls).length ≤ 2 := by have := (okB_count _ _ _ _ ok1.2.2.2.1 (by decide) (by decide)).2; omega
    have hnw := okB_walls _ _ _ _ ok1.2.2.2.1 (ss_pool ok1)
    clear hD1' hS1' hL1' hst1' hls1' hG1' kt3 kt4 s3 s4 hD2 hS2 hst2 hL2 hls2 hG2 hP2
    generalize bayText b1 = Z1 at lb1 rb1 eD ⊢
    generalize bayText b2 = Z2 at lb2 rb2 ⊢
    dsimp only
    refine rd_seq (rd_set ?_)
    refine ⟨_, rfl, ?_⟩
    dsimp only [tNil]
    refine rd_bay (K := K) (Nat.le_trans lb1 (by decide)) rb1 fun x H5 hx0 s5 hx => ?_
    have hD5 := s5 _ _ hD4
    have hL5 := s5 _ _ hL4
    have hls5 := hls4.map (tup_same s5)
    refine rd_seq (rd_set ?_)
    refine ⟨_, rfl, D1, .ref La, rfl, DGet.k (k := Sum.inr "lines") hD5, La, rfl, ⟨_, SqL.of hL5⟩, fun W hW => lc_it (walk_list (K := K) (a := La) (xs := ps1.map V.ref)) (fun j H' => ∃ ws, Same H5 H' ∧ H' W = some (.lst (ws.map V.ref)) ∧ WsAt H' ws (wlsOf (b1.ls.take j))) ⟨[], same_new hW, upd_same, rfl, fun i a b h => by cases h⟩ (fun _ _ _ u => by obtain ⟨_, u, _⟩ := u; exact SqL.of (u _ _ hL5)) ?_ ?_⟩
    · rintro j y H7 H8 hj ⟨ws, s7, d7, w7⟩ ⟨rfl, hy⟩
      have hj' : j < ps1.length := by simpa using hj
      have hj2 : j < b1.ls.length := by rw [← hls5.1]; exact hj'
      rw [List.getElem?_map, List.getElem?_eq_getElem hj'] at hy
      cases hy
      have ewt : wlsOf (b1.ls.take (j + 1)) = wlsOf (b1.ls.take j) ++ wlsOf [b1.ls[j]] := by
        rw [List.take_succ, List.getElem?_eq_getElem hj2, wls_app]
        rfl
      rw [ewt]
      have la := (hls5.map (tup_same s7)).2 j _ _ (List.getElem?_eq_getElem hj') (List.getElem?_eq_getElem hj2)
      generalize b1.ls[j] = l at la
      generalize ps1[j] = q at la
      refine ⟨rfl, ?_⟩
      cases l with
      | pt n m o =>
        obtain ⟨qa, la, _⟩ := la
        refine ⟨_, rfl, q, _, 0, .str "point", rfl, rfl, SqT.of la, rfl, rfl, _, rfl, ?_⟩
        refine Eq.mpr (if_neg (by decide +kernel)) ?_
        refine ⟨ws, s7, d7, ?_⟩
        rw [show wlsOf [Ln.pt n m o] = [] from rfl, List.append_nil]
        exact w7
      | wl a b =>
        have la : H8 q = some (.tup [.str "wall", .str a, .str b]) := la
        refine ⟨_, rfl, q, _, 0, .str "wall", rfl, rfl, SqT.of la, rfl, rfl, _, rfl, ?_⟩
        refine Eq.mpr (if_pos rfl) ?_
        refine ⟨_, rfl, _, rfl, q, _, rfl, SqT.of la, (fun h => absurd (show (1 : Nat) = 0 from h.1) (by decide)), fun p2 hp2 => ?_⟩
        have ec : cutV [V.str "wall", .str a, .str b] (some 1) none = [.str a, .str b] := rfl
        rw [ec]
        have s8 : Same H8 (upd H8 p2 (.tup [.str a, .str b])) := same_new hp2
        have f8 : upd H8 p2 (.tup [.str a, .str b]) p2 = some (.tup [.str a, .str b]) := upd_same
        generalize upd H8 p2 (.tup [.str a, .str b]) = H9 at s8 f8 ⊢
        have d9 := s8 _ _ d7
        have w9 := w7.map (tup_same s8)
        have lw : (ws.map V.ref).length < sizeLine := by
          rw [List.length_map, w7.1]
          have e := wls_app (b1.ls.take j) (b1.ls.drop j)
          rw [List.take_append_drop] at e
          rw [e, List.length_append] at lwl
          exact Nat.lt_of_le_of_lt (by omega : _ ≤ 4) (by decide)
        have nd2 : ∀ y vs, H9 y = some (.tup vs) → upd H9 W (.lst (ws.map V.ref ++ [V.ref p2])) y = some (.tup vs) := tup_upd d9
        refine ⟨_, d9, lw, ws ++ [p2], (s7.trans s8).mut hW, ?_, ?_⟩
        · rw [upd_same, List.map_append]
          rfl
        · exact snoc_at (F := fun p (x : Str × Str) => upd H9 W (.lst (ws.map V.ref ++ [V.ref p2])) p = some (.tup [.str x.1, .str x.2])) (w9.map nd2) (r := (a, b)) (nd2 _ _ f8)
    rintro H7 ⟨ws, s7, d7, w7⟩
    rw [List.length_map, hls5.1, List.take_length] at w7
    refine ⟨W, _, rfl, .inl ⟨SqL.of d7, fun Wt hWt => ?_⟩⟩
    have s8 := same_new (o := .tup (ws.map V.ref)) hWt
    have fWt : upd H7 Wt (.tup (ws.map V.ref)) Wt = some (.tup (ws.map V.ref)) := upd_same
    generalize upd H7 Wt (.tup (ws.map V.ref)) = H8 at s8 fWt ⊢
    have s58 := s7.trans s8
    have s48 := s5.trans s58
    have w8 := w7.map (tup_same s8)
    have hx8 := hx.same s58
    clear s7 d7 w7 s8 hls5 hL5 hD5 hW hWt hx
    dsimp only
    refine rd_seq (rd_set ?_)
    have hD8 := s48 _ _ hD4
    have hS8 := s48 _ _ hS4
    refine ⟨_, rfl, _, rfl, D1, .int b1.hand, rfl, DGet.k (k := Sum.inr "hand") hD8, _, rfl, D1, .ref Sa, rfl, DGet.k (k := Sum.inr "starts") hD8, Sa, _, rfl, .inl ⟨SqL.of hS8, fun V0 hV0 => ?_⟩⟩
    have s9 := same_new (o := .tup (pss1.map V.ref)) hV0
    have fV0 : upd H8 V0 (.tup (pss1.map V.ref)) V0 = some (.tup (pss1.map V.ref)) := upd_same
    generalize upd H8 V0 (.tup (pss1.map V.ref)) = H9 at s9 fV0 ⊢
    have s49 := s48.trans s9
    refine ⟨_, rfl, D1, Sa, La, Ga, ps1, b1.ls, b1.hand, rfl, s49 _ _ hD4, s49 _ _ hL4, hls4.map (tup_same s49), by omega, fun H10 N s10 hN0 hN => ⟨N, _, rfl, .inl ⟨SqL.of hN, fun V1 hV1 => ?_⟩⟩⟩
    have s11 := same_new (o := .tup ((nmsOf b1.ls).map V.str)) hV1
    have fV1 : upd H10 V1 (.tup ((nmsOf b1.ls).map V.str)) V1 = some (.tup ((nmsOf b1.ls).map V.str)) := upd_same
    generalize upd H10 V1 (.tup ((nmsOf b1.ls).map V.str)) = H11 at s11 fV1 ⊢
    have s911 := s10.trans s11
    have s411 := s49.trans s911
    refine ⟨_, rfl, _, rfl, D1, .ref Ga, rfl, DGet.k (k := Sum.inr "goes") (s411 _ _ hD4), (by exact (by decide : 6 ≤ sizeLine)), fun U hU => ?_⟩
    have s12 := same_new (o := .tup [.str Z1, .int b1.hand, .ref V0, .ref V1, .ref Wt, .ref Ga]) hU
    have fU : upd H11 U (.tup [.str Z1, .int b1.hand, .ref V0, .ref V1, .ref Wt, .ref Ga]) U = some (.tup [.str Z1, .int b1.hand, .ref V0, .ref V1, .ref Wt, .ref Ga]) := upd_same
    generalize upd H11 U (.tup [.str Z1, .int b1.hand, .ref V0, .ref V1, .ref Wt, .ref Ga]) = H12 at s12 fU ⊢
    have s8c : Same H8 H12 := (s9.trans s911).trans s12
    have s4c : Same H4 H12 := s48.trans s8c
    have dU : Dd K H12 (.ref U) dT := eD ▸ .tup (SqT.of fU) (.cons (.str _) (.cons (.int _) (.cons (.tup (SqT.of ((s911.trans s12) _ _ fV0)) (sts_dd (hst4.map (tup_same s4c)))) (.cons (.tup (SqT.of (s12 _ _ fV1)) (strs_dd _)) (.cons (.tup (SqT.of (s8c _ _ fWt)) (ws_dd (w8.map (tup_same s8c)))) (.cons (.tup (SqT.of (s4c _ _ hG4)) (strs_dd _)) .nil))))))
    have hxc := hx8.same s8c
    have hP12 := hP4.same s4c
    have k112 := k14.trans (But.of s4c)
    clear s9 s10 s11 s12 s911 s411 s49 s48 s58 fV0 fV1 fWt w8 hx8 hD8 hS8 hN hN0 hV0 hV1 hU s8c s4c hD4 hS4 hL4 hst4 hls4 hG4 hP4 k14 s5
    dsimp only
    have hxd := hxc
    obtain ⟨dx, st, pt, wt, gt, nt, ct, pss, qs, h1, h2, h3, h4, h5, h6, h7⟩ := hxd
    have h2' : StsAt H12 pss b1.ss := h3
    refine rd_seq (rd_if ?_)
    refine ⟨_, rfl, x, B, dx, _, _, rfl, h1, F.new.cls, F.new.nT, bayF_text _ _ _ _ _ _ _ _, ?_⟩
    refine ⟨_, rfl, x, B, dx, _, _, rfl, h1, F.new.cls, F.new.nH, bayF_hand _ _ _ _ _ _ _ _, ?_⟩
    refine ⟨_, rfl, x, B, dx, _, _, rfl, h1, F.new.cls, F.new.nS, bayF_starts _ _ _ _ _ _ _ _, ?_⟩
    refine ⟨_, rfl, x, B, dx, _, _, rfl, h1, F.new.cls, F.new.nP, bayF_points _ _ _ _ _ _ _ _, ?_⟩
    refine ⟨_, rfl, x, B, dx, _, _, rfl, h1, F.new.cls, F.new.nW, bayF_walls _ _ _ _ _ _ _ _, ?_⟩
    refine ⟨_, rfl, x, B, dx, _, _, rfl, h1, F.new.cls, F.new.nG, bayF_goes _ _ _ _ _ _ _ _, ?_⟩
    refine ⟨(by exact (by decide : 6 ≤ sizeLine)), fun Y hY => ?_⟩
    have sY := same_new (o := .tup [.str Z1, .int b1.hand, .ref st, .ref pt, .ref wt, .ref gt]) hY
    have fY : upd H12 Y (.tup [.str Z1, .int b1.hand, .ref st, .ref pt, .ref wt, .ref gt]) Y = some (.tup [.str Z1, .int b1.hand, .ref st, .ref pt, .ref wt, .ref gt]) := upd_same
    generalize upd H12 Y (.tup [.str Z1, .int b1.hand, .ref st, .ref pt, .ref wt, .ref gt]) = H13 at sY fY ⊢
    have h4' : H12 pt = some (.tup ((nmsOf b1.ls).map V.str)) := by rw [← hcn]; exact h4
    have dY : Dd K H13 (.ref Y) dT := eD ▸ .tup (SqT.of fY) (.cons (.str _) (.cons (.int _) (.cons (.tup (SqT.of (sY _ _ h2)) (sts_dd (h3.map (tup_same sY)))) (.cons (.tup (SqT.of (sY _ _ h4')) (strs_dd _)) (.cons (.tup (SqT.of (sY _ _ h5)) (ws_dd (h6.map (tup_same sY)))) (.cons (.tup (SqT.of (sY _ _ h7)) (strs_dd _)) .nil))))))
    obtain ⟨o1, o2, o3⟩ := dd1
    refine ⟨.ref Y, dT, rfl, dY, o1, o2, o3, ?_⟩
    refine ⟨_, rfl, .ref U, dT, rfl, Dd_keep sY dU, o1, o2, o3, rfl, _, rfl, ?_⟩
    refine Eq.mpr (if_neg (nt_self _)) ?_
    dsimp only [tNext]
    have hx13 := hxc.same sY
    have hP13 := hP12.same sY
    have k113 := k112.trans (But.of sY)
    clear dY dU fY fU o1 o2 o3 h1 h2 h3 h4 h4' h5 h6 h7 h2' eD hxc hP12 k112 sY hcn
    refine rd_seq (rd_if ?_)
    refine ⟨_, rfl, _, rfl, ?_⟩
    dsimp only [tNil]
    refine rd_bay (K := K) (Nat.le_trans lb1 (by decide)) rb1 fun y G1 hy0 sg1 hy => ?_
    have hxa := hx13.same sg1
    have hxb := hxa
    obtain ⟨dx, st, pt, wt, gt, nt2, ct, pss, qs, h1, _⟩ := hxb
    refine ⟨x, dx, _, rfl, h1, ⟨_, hy.ty F.new.cls F.isi, FK.nfB⟩, ⟨x, _, _, _, rfl, hxa, .inr ⟨y, _, _, rfl, hy, fun G2 sg2 => ⟨_, rfl, ?_⟩⟩⟩⟩
    refine Eq.mpr (if_neg (nt_selfS _)) ?_
    have sA := sg1.trans sg2
    refine ⟨_, rfl, _, rfl, ?_⟩
    dsimp only [tNil]
    refine rd_bay (K := K) (Nat.le_trans lb1 (by decide)) rb1 fun y2 G3 hy20 sg3 hy2 => ?_
    have sB := sA.trans sg3
    refine ⟨x, dx, _, rfl, (sg2.trans sg3) _ _ h1, ⟨_, hy2.ty F.new.cls F.isi, FK.nfB⟩, ⟨x, _, _, _, rfl, hx13.same sB, .inr ⟨y2, _, _, rfl, hy2, fun G4 sg4 => ⟨_, rfl, _, rfl, ?_⟩⟩⟩⟩
    refine Eq.mpr (if_neg (nt_selfS _)) ?_
    have sC := sB.trans sg4
    refine ⟨_, rfl, _, rfl, ?_⟩
    dsimp only [tNil]
    refine rd_bay (K := K) (Nat.le_trans lb2 (by decide)) rb2 fun y3 G5 hy30 sg5 hy3 => ?_
    have sD := sC.trans sg5
    have h15 := (((sg2.trans sg3).trans sg4).trans sg5) _ _ h1
    refine ⟨x, dx, _, rfl, h15, ⟨_, hy3.ty F.new.cls F.isi, FK.nfB⟩, ⟨x, _, _, _, rfl, hx13.same sD, .inr ⟨y3, _, _, rfl, hy3, fun G6 sg6 => ?_⟩⟩⟩
    refine ⟨_, rfl, _, rfl, rfl, rfl, _, rfl, ?_⟩
    have e : (V.bl (decide (Z1 = Z2)) = V.bl (decide (V.str Z1 = V.str Z2))) := by
      refine congrArg V.bl ?_
      rw [Bool.eq_iff_iff, decide_eq_true_iff, decide_eq_true_iff]
      exact ⟨fun q => congrArg V.str q, fun q => V.str.inj q⟩
    rw [e]
    refine Eq.mpr (if_neg (nt_self _)) ?_
    dsimp only [tNext]
    have nS := FK.nfT "str" (by simp)
    have h16 := sg6 _ _ h15
    have sE := sD.trans sg6
    have tS : TyX K G6 (.str Z1) (.type "str") := .base (.str Z1)
    clear e hy hy2 hy3 sA sB sC sg1 sg2 sg3 sg4 sg5 hy0 hy20 hy30 h1 hxa
    refine ⟨_, rfl, _, rfl, x, dx, _, rfl, h16, ⟨_, tS, nS.1⟩, ⟨x, _, _, _, rfl, hx13.same sE, .inl ⟨⟨_, tS, nS.2⟩, fun G7 sg7 => ?_⟩⟩⟩
    have sF := sE.trans sg7
    refine ⟨_, rfl, _, rfl, ?_⟩
    refine Eq.mpr (if_pos rfl) ?_
    refine ⟨_, rfl, _, rfl, p, t + 100, rfl, by omega, (hP13.same sF).mono (by omega), fun G8 v d k8 hP8 hd hdv => ?_⟩
    obtain ⟨n, hn, hty⟩ := odd_ty (Dd_keep awy_le hdv)
    have nO := FK.nfT n hn
    have hP7 := hP13.same sF
    have nxp : x ≠ p := fun z => by
      obtain ⟨_, _, _, ep, _⟩ := hP7
      have q := sg7 _ _ h16
      rw [z, ep] at q
      cases q
    have h17 := k8 _ _ nxp (sg7 _ _ h16)
    have hx8 : BayAt B G8 x Z1 (b1.hand, b1.ss, clksOf b1.hand [] b1.ls, wlsOf b1.ls, b1.gs) := by
      obtain ⟨dx', a1, a2, a3, a4, a5, a6, a7, a8, c1, c2, c3, c4, c5, c6, c7⟩ := hx13.same sF
      have kt := fun a vs e => tupB0 hP7 k8 a vs e
      exact ⟨dx', a1, a2, a3, a4, a5, a6, a7, a8, k8 _ _ nxp c1, kt _ _ c2, c3.map kt, kt _ _ c4, kt _ _ c5, c6.map kt, kt _ _ c7⟩
    refine ⟨x, dx, _, rfl, h17, ⟨_, hty, nO.1⟩, ⟨x, _, _, _, rfl, hx8, .inl ⟨⟨_, hty, nO.2⟩, fun G9 sg9 => ⟨_, rfl, ?_⟩⟩⟩⟩
    exact k G9 (((k113.trans (But.of sF)).trans k8).trans (But.of sg9))
end
end L2.K40

set_option Elab.async false
set_option linter.all false
set_option maxRecDepth 100000
set_option maxHeartbeats 2000000
namespace L2.K40
open PySem PySem.Spec PyProof.Rows L2.Vx
open PySem.W (Frag)
/-! ### the law -/
section
variable {P : Program} {w : World} {K : Frag} {mg : Str → Option Value} {bs : Heap}
def spLaw (K : Frag) : Sp := fun vs H Q _ => ∃ (a : Addr) (ns : List Int), vs = [.ref a] ∧ SqL K H a (ns.map V.int) ∧ ns.length ≤ 63 ∧ ∀ H', Q (.bl true) H'
theorem scLaw : FnScope ["script", "place"] ["script"] (defScope sLaw) := ⟨rfl, rfl, rfl, by decide +kernel, rfl, by decide +kernel, by decide +kernel⟩
theorem but_new {p : Addr} {A B C : Hp} (s : Same A B) (h : A p = none) (k : But p B C) : Same A C := fun b o e => k b o (fun z => by rw [z, h] at e; cases e) (s _ _ e)
theorem ok_law {f fRt fPo fCe : Addr} {fd fdRt fdPo fdCe : FuncData} (FP : FD K "law" sLaw f fd) (F : Dx mg) (gAll : mg "all" = none)
    (GRt : FnG P w K mg bs CX0 11 fRt fdRt ["pot"] spRight) (kRt : PySem.W.keepIn K (.ref fRt) = true) (gRt : mg "_law_right" = some (.ref fRt)) (bRt : Binds K fdRt ["pot"] [])
    (FPo : FD K "_law_pot" sPot fPo fdPo) (gPo : mg "_law_pot" = some (.ref fPo)) (bPo : Binds K fdPo ["script", "place"] [])
    (FCe : FD K "_law_cells" sCells fCe fdCe) (gCe : mg "_law_cells" = some (.ref fCe)) (bCe : Binds K fdCe ["script", "most"] []) : FnG P w K mg bs CX0 12 f fd ["script"] (spLaw K) := by
  have sc := scLaw
  have GPo : FnOk P w K mg bs CX0 1 fPo fdPo ["script", "place"] (spPot K) := ok_pot FPo F
  have GCe : FnOk P w K mg bs CX0 1 fCe fdCe ["script", "most"] (spCells K) := ok_cells FCe F
  refine okG0 FP scLaw (fun vs H Q E h => ?_) (fun cdv A outer s H vs Q E gd hr h => ?_)
  · obtain ⟨a, ns, rfl, _⟩ := h
    rfl
  · obtain ⟨a, ns, rfl, hS, hlen, k⟩ := h
    have hr1 : Room 1 (A.deeper (envOfC "law" (defScope sLaw) s.heap.objs.size f cdv)) := hr.mono (by decide)
    refine ⟨_, pss_one (ps_ret (pe_callB (cr_all rfl) (by rfl) gAll boot_all (pa_cons
          (pe_lc (own := [("place", 1)]) (g := gName 1) (by rfl) sc.nd (pi_list (pe_call GCe hr1 (by rfl) gCe FCe.kp bCe .nil pass0 (pa_cons (pv 0) (pa_cons pe_int pa_nil)))) (blkOk_by (N := ["script", "place"]) (sc := defScope sLaw) (by decide +kernel))
            (fun _ _ _ _ _ => pg_name (i := 1) sc.nd rfl (Or.inl rfl)) (fun _ _ _ _ _ => pts_nil)
            (fun _ _ _ _ _ => pe_callG GRt gd hr (by rfl) gRt kRt bRt .nil pass0 (pa_cons (pe_call GPo hr1 (by rfl) gPo FPo.kp bPo .nil pass0 (pa_cons (pv 0) (pa_cons (pv 1) pa_nil))) pa_nil))) pa_nil))), ?_⟩
    refine ⟨_, rfl, a, ns, 5, rfl, hS, hlen, by decide, fun H3 q n s3 hq0 hn hq => ⟨q, rfl, ⟨_, SqL.of hq⟩, fun D hD => lc_it (walk_list (K := K) (a := q) (xs := (List.range n).map fun i : Nat => V.int (i : Int))) (fun j H' => Same H3 H' ∧ H' D = some (.lst ((List.replicate j true).map V.bl))) ⟨same_new hD, upd_same⟩ (fun _ _ _ u => SqL.of (u.1 _ _ hq)) ?_ ?_⟩⟩
    · rintro j v H5 H6 hj ⟨s5, d5⟩ ⟨rfl, hv⟩
      have hj' : j < n := by simpa using hj
      rw [List.getElem?_map, List.getElem?_range hj'] at hv
      cases hv
      refine ⟨rfl, rd_yes rfl ?_⟩
      have hSj := (s3.trans s5).seq hS
      refine ⟨_, rfl, _, rfl, a, ns, (j : Int), rfl, hSj, hlen, by omega, by omega, fun H7 p s7 hp0 hP => ?_⟩
      refine ⟨p, 0, rfl, by decide, by decide, hP, fun H8 k8 => ?_⟩
      have s68 := but_new s7 hp0 k8
      refine ⟨_, s68 _ _ d5, ?_, (s5.trans s68).mut hD, ?_⟩
      · rw [List.length_map, List.length_replicate]
        exact Nat.lt_of_lt_of_le (by omega : j < 64) (by decide)
      · rw [upd_same, List.replicate_succ', List.map_append]
        rfl
    · rintro H5 ⟨s5, d5⟩
      refine ⟨D, _, rfl, SqL.of d5, ?_⟩
      have e : ∀ m : Nat, (List.replicate m true).all id = true := fun m => by
        induction m with
        | zero => rfl
        | succ m ih => rw [List.replicate_succ, List.all_cons, ih]; rfl
      rw [e]
      exact k H5
end
end L2.K40

set_option Elab.async false
set_option linter.all false
set_option maxRecDepth 100000
set_option maxHeartbeats 0
namespace L2.K40
open PySem PySem.Spec PyProof.Rows L2.Vx
open PySem.W (Frag)
open LamX (CodeO Tabs TabS TabB ExtN)
open He (ga ma)
def fI (K : Frag) : Addr := ma K (ga K "DrawError") "__init__"
/-- the written dict of the words -/
def kvOf (e : DictEntry) : Option (Str × Int) := match e.key, e.val with
  | .str x _, .int i _ => some (x, i)
  | _, _ => none
def wordsL : List (Option (Str × Int)) := [some ("at", 5), some ("by", 6), some ("cross", 5)]
def wordsB (K : Frag) : Bool := match K.lookup (ga K "WORDS") with
  | some ⟨_, _, .dict es _, _⟩ => decide (es.toList.map kvOf = wordsL)
  | _ => false
abbrev bK (K : Frag) : Addr := ga K "Bay"
def namesT : List String := ["NoneType", "bool", "int", "str", "tuple", "list", "dict"]
def bayB (K : Frag) : Bool :=
  (decide (PySem.W.findIn K (.ref (bK K)) (cmpInfo .Eq).2.1 = some (some (.ref (ma K (bK K) "__eq__")))) && (PySem.W.isFn K (.ref (ma K (bK K) "__eq__")) &&
  (decide (PySem.W.findIn K (.ref (bK K)) "__ne__" = some (some (.builtin "object.__ne__"))) && (PySem.W.notFirst K (bK K) (.ref (bK K)) &&
  namesT.all (fun n => PySem.W.notFirst K (bK K) (.type n) && decide (PySem.W.kitOne K (.type n) (.ref (bK K)) = some false))))))
def isiB (K : Frag) : Bool :=
  (decide (PySem.W.findIn K (.ref (bK K)) "__class__" = some (some (.builtin "object.__class__"))) && (decide (PySem.W.specialIn K (.builtin "object.__class__") "__get__" = some (some (.builtin "getset_descriptor.__get__"))) &&
  (decide (PySem.W.takesIn K (.builtin "object.__class__") = some true) && (decide (PySem.W.mroIn K (bK K) (.type "object") = some true) &&
  decide (PySem.W.kitOne K (.ref (bK K)) (.ref (bK K)) = some true)))))
def exK (K : Frag) : Bool :=
  errB K (ga K "BadBay") (fI K) && (wordsB K && (bayB K && isiB K))
abbrev dD (x : Str) (s : Stmt) : He.DefD := ⟨(x, none), x, x, defArgs s, defBody s, defScope s, [], []⟩
abbrev sInit : Stmt := sDErr
def dInit : He.DefD := ⟨("DrawError", some "__init__"), "__init__", "DrawError.__init__", defArgs sInit, defBody sInit, defScope sInit, [], []⟩
def dBInit : He.DefD := ⟨("Bay", some "__init__"), "__init__", "Bay.__init__", defArgs sBInit, defBody sBInit, defScope sBInit, [], []⟩
def dBEq : He.DefD := ⟨("Bay", some "__eq__"), "__eq__", "Bay.__eq__", defArgs sBEq, defBody sBEq, defScope sBEq, [], []⟩
def dIsName : He.DefD := dD "is_name" sIsName
def dCons : He.DefD := dD "consists_of" sCons
def dNum : He.DefD := dD "number_in" sNum
def dSgn : He.DefD := dD "signed_number_in" sSgn
def dHand : He.DefD := dD "read_hand" sHand
def dWall : He.DefD := dD "wall_in" sWall
def dPoint : He.DefD := dD "point_in" sPoint
def dAim : He.DefD := dD "aim_in" sAim
def dCross : He.DefD := dD "cross_in" sCross
def dBound : He.DefD := dD "bound_in" sBound
def dRBay : He.DefD := dD "read_bay" sRBay
def dRStarts : He.DefD := dD "read_starts" sRStarts
def dStart : He.DefD := dD "start_in" sStart
def dRest : He.DefD := dD "read_rest" sRest
def dOwn : He.DefD := dD "own_point_in" sOwn
def dGoes : He.DefD := dD "are_goes" sGoes
def dPot : He.DefD := dD "_law_pot" sPot
def dTake : He.DefD := dD "_law_take" sTake
def dOfD : He.DefD := dD "_law_of" sOf
def dSome : He.DefD := dD "_law_some" sSome
def dCells : He.DefD := dD "_law_cells" sCells
def dOdd : He.DefD := dD "_law_odd" sOdd
def dNames : He.DefD := dD "_law_names" sNames
def dLine : He.DefD := dD "_law_line_text" sLine
def dPNames : He.DefD := dD "_law_point_names" sPNames
def dBAim : He.DefD := dD "_law_bay_aim" sBAim
def dBay : He.DefD := dD "_law_bay" sBay
def dBText : He.DefD := dD "_law_bay_text" sBText
def dRight : He.DefD := dD "_law_right" sRight
def dLaw : He.DefD := dD "law" sLaw
def fn : List He.DefD := ([dInit, dBInit, dBEq, dIsName, dCons, dNum, dSgn, dHand, dWall, dPoint, dAim, dCross, dBound, dRBay, dRStarts] : List He.DefD) ++ ([dStart, dRest, dOwn, dGoes, dPot, dTake, dOfD, dSome, dCells, dOdd, dNames, dLine, dPNames, dBAim, dBay] : List He.DefD) ++ ([dBText, dRight, dLaw] : List He.DefD)
def glos : List Str := (["DrawError", "BadBay", "Bay", "WORDS", "is_name", "consists_of", "number_in", "signed_number_in", "read_hand", "wall_in", "point_in", "aim_in", "cross_in", "bound_in", "read_bay"] : List Str) ++ (["read_starts", "start_in", "read_rest", "own_point_in", "are_goes", "_law_pot", "_law_take", "_law_of", "_law_some", "_law_cells", "_law_odd", "_law_names", "_law_line_text", "_law_point_names", "_law_bay_aim"] : List Str) ++ (["_law_bay", "_law_bay_text", "_law_right", "law"] : List Str)
def frees : List Str := ["len", "abs", "int", "max", "min", "range", "list", "str", "all", "isinstance", "enumerate", "tuple", "repr", "set"]
def fa : List He.Fa := glos.map He.Fa.glo ++ (frees.map He.Fa.free ++ [.int "LONGEST_NUMBER" 9, .int "LONGEST_NAME" 8, .int "GREATEST_BOUND_plans" 99, .int "GREATEST_BOUND_baylines" 2, .int "MOST_STARTS" 2, .int "MOST_POINTS" 2, .int "MOST_WALLS" 2, .int "FARTHEST" 999, .str "DIGITS" "0123456789", .str "LETTERS" "abcdefghijklmnopqrstuvwxyz", .cls "Bay", .noat "Bay" "text", .noat "Bay" "hand", .noat "Bay" "starts", .noat "Bay" "points", .noat "Bay" "walls", .noat "Bay" "goes", .noat "Bay" "names", .noat "Bay" "clicks", .mkr "Bay"])
def ts : List He.Tab := [(fun K => ga K "WORDS", ["at", "by", "cross"])]
def tf : List He.Defn := [("law", none)]
abbrev R : PySem.W.OpenRow := PySem.W.OpenLaw.row PySem.Challenge.rw_wobblesnap_k40_bays_as_told
abbrev hk : PySem.W.Hook := He.hookX 5 fa fn ts tf exK
def ob (s : PySem.W.SharedT) : He.AlX := He.obsX 5 fa fn ts tf exK (HandSHeadRun.getT s)
theorem ob_eq (s : PySem.W.SharedT) : ob s = hk.obs s.abs := He.obsX_eq (HandSHeadRun.getT_eq s)
def loose : List Str := (["DrawError", "BadBay", "Bay", "WORDS", "LETTERS", "DIGITS", "LONGEST_NAME", "LONGEST_NUMBER", "GREATEST_BOUND_plans", "GREATEST_BOUND_baylines", "MOST_STARTS", "MOST_POINTS", "MOST_WALLS", "FARTHEST", "is_name"] : List Str) ++ (["consists_of", "number_in", "signed_number_in", "read_hand", "wall_in", "point_in", "aim_in", "cross_in", "bound_in", "read_bay", "read_starts", "start_in", "read_rest", "own_point_in", "are_goes"] : List Str) ++ (["_law_pot", "_law_take", "_law_of", "_law_some", "_law_cells", "_law_odd", "_law_names", "_law_line_text", "_law_point_names", "_law_bay_aim", "_law_bay", "_law_bay_text", "_law_right"] : List Str)
theorem runF (w : World) : HandSHeadRun.RunEq R (PySem.W.view R.prog [49]) hk ob 6000 loose (w.withFollow "special-get-raises" false) := by
  intro os
  kernel_rfl
theorem runT (w : World) : HandSHeadRun.RunEq R (PySem.W.view R.prog [49]) hk ob 6000 loose (w.withFollow "special-get-raises" true) := by
  intro os
  kernel_rfl
theorem run (w : World) : HandSHeadRun.RunEq R (PySem.W.view R.prog [49]) hk ob 6000 loose w := PySem.W.byRow2 "special-get-raises" (P := fun w => HandSHeadRun.RunEq R (PySem.W.view R.prog [49]) hk ob 6000 loose w) runF runT w
end L2.K40

set_option Elab.async false
set_option linter.all false
set_option maxRecDepth 100000
set_option maxHeartbeats 4000000
namespace L2.K40
open PySem PySem.Spec PyProof.Rows L2.Vx
open PySem.W (Frag)
open LamX (CodeO Tabs TabS TabB ExtN)
open He (ga ma)
/-- a def's own words from the hook's -/
theorem fun_of {K : Frag} {x qual : Str} {st : Stmt} {f : Addr} {fd : FuncData} (h : FunD K x qual (defArgs st) (defBody st) (defScope st) [] [] f fd) : Fun K x qual st f fd := by
  obtain ⟨oc, od, dV, kV, doc, pm, an, cdv, ct, osl, e, lk, hc, hD, _⟩ := h.ex
  rcases hD with ⟨_, rfl⟩ | ⟨z, _⟩
  · exact ⟨⟨oc, od, kV, doc, pm, an, cdv, ct, osl, e, lk, hc⟩, h.kp⟩
  · exact absurd rfl z
theorem init_of {K : Frag} {fd : FuncData} (h : FunD K "__init__" "DrawError.__init__" (defArgs sInit) (defBody sInit) (defScope sInit) [] [] (fI K) fd) : InitF K (fI K) := by
  obtain ⟨oc, od, dV, kV, doc, pm, an, cdv, ct, osl, e, lk, hc, hD, hK⟩ := h.ex
  rcases hD with ⟨_, rfl⟩ | ⟨z, _⟩
  · exact ⟨oc, od, kV, doc, pm, an, cdv, ct, osl, _, _, _, _, _, _, by rw [lk, e]; rfl, hc⟩
  · exact absurd rfl z
/-- the code object that a def holds -/
theorem code_of {K : Frag} {x qual : Str} {st : Stmt} {fd : FuncData} {p : He.Defn} (F : Fun K x qual st (He.fAd K p) fd) : fd.code = .ref (He.codeOf K p) := by
  obtain ⟨oc, od, kV, doc, pm, an, cdv, ct, osl, rfl, lk, hcd⟩ := F.ex
  obtain ⟨c, rfl⟩ := He.codeIn_ref hcd
  have e := He.codeOf_eq lk (c := c) rfl
  rw [e]
theorem kvOf_some {e : DictEntry} {x : Str} {i : Int} (h : kvOf e = some (x, i)) : ∃ t u, e.key = .str x t ∧ e.val = .int i u := by
  unfold kvOf at h
  split at h
  · rename_i y t j u h1 h2
    cases h
    exact ⟨t, u, h1, h2⟩
  · cases h
theorem look_of {l : List DictEntry} (h : l.map kvOf = wordsL) (z : Str) :
    ∃ r, (match l.find? (·.key.isStr z) with
      | some e => (some (some e.val) : Option (Option Value))
      | none => if l.any (·.refKey) then none else some none) = some r ∧ (z ∈ aimWords → ∃ t, r = some (.int (manyOf z : Nat) t)) ∧ (z ∉ aimWords → r = none) := by
  unfold wordsL at h
  have hl : l.length = 3 := by rw [← List.length_map (f := kvOf), h]; rfl
  match l, hl, h with
  | [a, b, c], _, h =>
    simp only [List.map_cons, List.map_nil, List.cons.injEq, and_true] at h
    obtain ⟨ha, hb, hc⟩ := h
    obtain ⟨t1, u1, a1, a2⟩ := kvOf_some ha
    obtain ⟨t2, u2, b1, b2⟩ := kvOf_some hb
    obtain ⟨t3, u3, c1, c2⟩ := kvOf_some hc
    have key : ∀ (w x : Str) (t : Tok), Value.isStr (.str w t) x = (w == x) := fun _ _ _ => rfl
    by_cases z1 : (("at" : Str) == z) = true
    · have n1 := z1
      refine ⟨some a.val, by simp only [List.find?, a1, key, n1], fun _ => ⟨u1, ?_⟩, fun n => absurd ?_ n⟩
      · have e0 : ("at" : Str) = z := by simpa using z1
        rw [a2, ← e0]
        rfl
      · have e0 : ("at" : Str) = z := by simpa using z1
        rw [← e0]
        decide +kernel
    have n1 : (("at" : Str) == z) = false := by simpa using z1
    by_cases z2 : (("by" : Str) == z) = true
    · have n2 := z2
      refine ⟨some b.val, by simp only [List.find?, a1, b1, key, n1, n2], fun _ => ⟨u2, ?_⟩, fun n => absurd ?_ n⟩
      · have e0 : ("by" : Str) = z := by simpa using z2
        rw [b2, ← e0]
        rfl
      · have e0 : ("by" : Str) = z := by simpa using z2
        rw [← e0]
        decide +kernel
    have n2 : (("by" : Str) == z) = false := by simpa using z2
    by_cases z3 : (("cross" : Str) == z) = true
    · have n3 := z3
      refine ⟨some c.val, by simp only [List.find?, a1, b1, c1, key, n1, n2, n3], fun _ => ⟨u3, ?_⟩, fun n => absurd ?_ n⟩
      · have e0 : ("cross" : Str) = z := by simpa using z3
        rw [c2, ← e0]
        rfl
      · have e0 : ("cross" : Str) = z := by simpa using z3
        rw [← e0]
        decide +kernel
    have n3 : (("cross" : Str) == z) = false := by simpa using z3
    refine ⟨none, by simp [List.find?, a1, b1, c1, key, n1, n2, n3, DictEntry.refKey], fun n => ?_, fun _ => rfl⟩
    exfalso
    simp only [aimWords, List.mem_cons, List.not_mem_nil, or_false] at n
    rcases n with n | n | n
    · rw [n] at n1; exact absurd n1 (by decide +kernel)
    · rw [n] at n2; exact absurd n2 (by decide +kernel)
    · rw [n] at n3; exact absurd n3 (by decide +kernel)
theorem words_of {K : Frag} {w : World} {mg : Str → Option Value} (hm : mg "WORDS" = some (.ref (ga K "WORDS"))) (hk : ∃ es n, KDict K w (ga K "WORDS") es n) (h : wordsB K = true) : FxWords K w mg := by
  obtain ⟨es, n, D⟩ := hk
  refine ⟨_, es, n, hm, D, fun z => ?_⟩
  unfold wordsB at h
  rw [D.at_] at h
  have h2 : es.toList.map kvOf = wordsL := of_decide_eq_true h
  have q := look_of h2 z
  unfold PySem.W.nsIn
  rw [D.at_]
  exact q
end L2.K40

set_option Elab.async false
set_option linter.all false
set_option maxRecDepth 100000
set_option maxHeartbeats 4000000
namespace L2.K40
open PySem PySem.Spec PyProof.Rows L2.Vx
open PySem.W (Frag)
open LamX (CodeO Tabs TabS TabB ExtN)
open He (ga ma)
theorem facts {w : World} {K : Frag} {h : Heap} {mg : Str → Option Value} {f : Addr} (X : K.In h) (G : h.Ns mainGlobals mg) (hfa : mg ("law" : Str) = some (.ref f)) (c : He.SaysX fa fn ts tf exK w h K) :
    ∃ (K : Frag) (c PT : Addr) (fd : FuncData) (sp : Sp), K.In h ∧ h.get? PT = some { cls := .none, data := .fields #[] } ∧ K.lookup PT = none ∧ PySem.W.CodeHd h c PT ∧
      (∀ (s : Shared) (u : Value), BindsTo s fd ⟨[u], []⟩ [("script", u)]) ∧
      (∀ (H : Hp) (a : Addr) (ns : List Int), ns.length ≤ 63 → H PT = some (.tbl #[]) → SqL K H a (ns.map V.int) → sp [.ref a] H (fun v _ => v = .bl true) fun _ _ _ => False) ∧
      ∀ base : Heap, K.In base → base.Ns mainGlobals mg → TabB base mg c PT → FnG PySem.Challenge.rw_wobblesnap_k40_bays_as_told.prog w K mg base CX0 12 f fd ["script"] sp := by
  have fact : ∀ f ∈ fa, f.ok K = true := fun f hf => c.t.d.facts hf
  have glo : ∀ x ∈ glos, mg x = some (.ref (ga K x)) := fun x hx => He.glo_ok X G (fact _ (List.mem_append_left _ (List.mem_map.mpr ⟨x, hx, rfl⟩)))
  have free : ∀ x ∈ frees, mg x = none := fun x hx => He.free_ok X G (fact _ (List.mem_append_right _ (List.mem_append_left _ (List.mem_map.mpr ⟨x, hx, rfl⟩))))
  have rest : ∀ q ∈ ([.int "LONGEST_NUMBER" 9, .int "LONGEST_NAME" 8, .int "GREATEST_BOUND_plans" 99, .int "GREATEST_BOUND_baylines" 2, .int "MOST_STARTS" 2, .int "MOST_POINTS" 2, .int "MOST_WALLS" 2, .int "FARTHEST" 999, .str "DIGITS" "0123456789", .str "LETTERS" "abcdefghijklmnopqrstuvwxyz", .cls "Bay", .noat "Bay" "text", .noat "Bay" "hand", .noat "Bay" "starts", .noat "Bay" "points", .noat "Bay" "walls", .noat "Bay" "goes", .noat "Bay" "names", .noat "Bay" "clicks", .mkr "Bay"] : List He.Fa), q.ok K = true :=
    fun q hq => fact _ (List.mem_append_right _ (List.mem_append_right _ hq))
  have i9 := He.int_ok X G (rest (.int "LONGEST_NUMBER" 9) (by simp))
  have i8 := He.int_ok X G (rest (.int "LONGEST_NAME" 8) (by simp))
  have iP := He.int_ok X G (rest (.int "GREATEST_BOUND_plans" 99) (by simp))
  have iB := He.int_ok X G (rest (.int "GREATEST_BOUND_baylines" 2) (by simp))
  have iS := He.int_ok X G (rest (.int "MOST_STARTS" 2) (by simp))
  have iPt := He.int_ok X G (rest (.int "MOST_POINTS" 2) (by simp))
  have iW := He.int_ok X G (rest (.int "MOST_WALLS" 2) (by simp))
  have i999 := He.int_ok X G (rest (.int "FARTHEST" 999) (by simp))
  have sD := He.str_ok X G (rest (.str "DIGITS" "0123456789") (by simp))
  have sL := He.str_ok X G (rest (.str "LETTERS" "abcdefghijklmnopqrstuvwxyz") (by simp))
  have cB := He.cls_ok (rest (.cls "Bay") (by simp))
  have mk := He.mkr_ok (rest (.mkr "Bay") (by simp))
  have nT := He.noat_ok (rest (.noat "Bay" "text") (by simp))
  have nH := He.noat_ok (rest (.noat "Bay" "hand") (by simp))
  have nS := He.noat_ok (rest (.noat "Bay" "starts") (by simp))
  have nP := He.noat_ok (rest (.noat "Bay" "points") (by simp))
  have nW := He.noat_ok (rest (.noat "Bay" "walls") (by simp))
  have nG := He.noat_ok (rest (.noat "Bay" "goes") (by simp))
  have nN := He.noat_ok (rest (.noat "Bay" "names") (by simp))
  have nC := He.noat_ok (rest (.noat "Bay" "clicks") (by simp))
  obtain ⟨m1, m⟩ := Bool.and_eq_true_iff.mp c.more
  obtain ⟨m2, m⟩ := Bool.and_eq_true_iff.mp m
  obtain ⟨m3, m4⟩ := Bool.and_eq_true_iff.mp m
  unfold bayB at m3
  obtain ⟨q1, m3⟩ := Bool.and_eq_true_iff.mp m3
  obtain ⟨q2, m3⟩ := Bool.and_eq_true_iff.mp m3
  obtain ⟨q3, m3⟩ := Bool.and_eq_true_iff.mp m3
  obtain ⟨q4, q5⟩ := Bool.and_eq_true_iff.mp m3
  unfold isiB at m4
  obtain ⟨r1, m4⟩ := Bool.and_eq_true_iff.mp m4
  obtain ⟨r2, m4⟩ := Bool.and_eq_true_iff.mp m4
  obtain ⟨r3, m4⟩ := Bool.and_eq_true_iff.mp m4
  obtain ⟨r4, r5⟩ := Bool.and_eq_true_iff.mp m4
  obtain ⟨fd0, F0⟩ := c.t.d.def_ 0 (d := dInit) rfl
  obtain ⟨fd1, F1⟩ := c.t.d.def_ 1 (d := dBInit) rfl
  obtain ⟨fd2, F2⟩ := c.t.d.def_ 2 (d := dBEq) rfl
  obtain ⟨fd3, F3⟩ := c.t.d.def_ 3 (d := dIsName) rfl
  obtain ⟨fd4, F4⟩ := c.t.d.def_ 4 (d := dCons) rfl
  obtain ⟨fd5, F5⟩ := c.t.d.def_ 5 (d := dNum) rfl
  obtain ⟨fd6, F6⟩ := c.t.d.def_ 6 (d := dSgn) rfl
  obtain ⟨fd7, F7⟩ := c.t.d.def_ 7 (d := dHand) rfl
  obtain ⟨fd8, F8⟩ := c.t.d.def_ 8 (d := dWall) rfl
  obtain ⟨fd9, F9⟩ := c.t.d.def_ 9 (d := dPoint) rfl
  obtain ⟨fd10, F10⟩ := c.t.d.def_ 10 (d := dAim) rfl
  obtain ⟨fd11, F11⟩ := c.t.d.def_ 11 (d := dCross) rfl
  obtain ⟨fd12, F12⟩ := c.t.d.def_ 12 (d := dBound) rfl
  obtain ⟨fd13, F13⟩ := c.t.d.def_ 13 (d := dRBay) rfl
  obtain ⟨fd14, F14⟩ := c.t.d.def_ 14 (d := dRStarts) rfl
  obtain ⟨fd15, F15⟩ := c.t.d.def_ 15 (d := dStart) rfl
  obtain ⟨fd16, F16⟩ := c.t.d.def_ 16 (d := dRest) rfl
  obtain ⟨fd17, F17⟩ := c.t.d.def_ 17 (d := dOwn) rfl
  obtain ⟨fd18, F18⟩ := c.t.d.def_ 18 (d := dGoes) rfl
  obtain ⟨fd19, F19⟩ := c.t.d.def_ 19 (d := dPot) rfl
  obtain ⟨fd20, F20⟩ := c.t.d.def_ 20 (d := dTake) rfl
  obtain ⟨fd21, F21⟩ := c.t.d.def_ 21 (d := dOfD) rfl
  obtain ⟨fd22, F22⟩ := c.t.d.def_ 22 (d := dSome) rfl
  obtain ⟨fd23, F23⟩ := c.t.d.def_ 23 (d := dCells) rfl
  obtain ⟨fd24, F24⟩ := c.t.d.def_ 24 (d := dOdd) rfl
  obtain ⟨fd25, F25⟩ := c.t.d.def_ 25 (d := dNames) rfl
  obtain ⟨fd26, F26⟩ := c.t.d.def_ 26 (d := dLine) rfl
  obtain ⟨fd27, F27⟩ := c.t.d.def_ 27 (d := dPNames) rfl
  obtain ⟨fd28, F28⟩ := c.t.d.def_ 28 (d := dBAim) rfl
  obtain ⟨fd29, F29⟩ := c.t.d.def_ 29 (d := dBay) rfl
  obtain ⟨fd30, F30⟩ := c.t.d.def_ 30 (d := dBText) rfl
  obtain ⟨fd31, F31⟩ := c.t.d.def_ 31 (d := dRight) rfl
  obtain ⟨fd32, F32⟩ := c.t.d.def_ 32 (d := dLaw) rfl
  have b1 : Binds K fd1 ["self", "text"] [] := F1.bindsN fun _ _ _ _ _ _ us hl => match us, hl with | [_, _], _ => rfl
  have b2 : Binds K fd2 ["self", "other"] [] := F2.bindsN fun _ _ _ _ _ _ us hl => match us, hl with | [_, _], _ => rfl
  have b3 : Binds K fd3 ["value"] [] := F3.bindsN fun _ _ _ _ _ _ us hl => match us, hl with | [_], _ => rfl
  have b4 : Binds K fd4 ["text", "signs"] [] := F4.bindsN fun _ _ _ _ _ _ us hl => match us, hl with | [_, _], _ => rfl
  have b5 : Binds K fd5 ["word", "low", "high"] [] := F5.bindsN fun _ _ _ _ _ _ us hl => match us, hl with | [_, _, _], _ => rfl
  have b6 : Binds K fd6 ["word", "most"] [] := F6.bindsN fun _ _ _ _ _ _ us hl => match us, hl with | [_, _], _ => rfl
  have b7 : Binds K fd7 ["line", "most"] [] := F7.bindsN fun _ _ _ _ _ _ us hl => match us, hl with | [_, _], _ => rfl
  have b8 : Binds K fd8 ["words", "names"] [] := F8.bindsN fun _ _ _ _ _ _ us hl => match us, hl with | [_, _], _ => rfl
  have b9 : Binds K fd9 ["words", "names", "hand"] [] := F9.bindsN fun _ _ _ _ _ _ us hl => match us, hl with | [_, _, _], _ => rfl
  have b10 : Binds K fd10 ["words", "names"] [] := F10.bindsN fun _ _ _ _ _ _ us hl => match us, hl with | [_, _], _ => rfl
  have b11 : Binds K fd11 ["words", "names"] [] := F11.bindsN fun _ _ _ _ _ _ us hl => match us, hl with | [_, _], _ => rfl
  have b12 : Binds K fd12 ["words", "hand"] [] := F12.bindsN fun _ _ _ _ _ _ us hl => match us, hl with | [_, _], _ => rfl
  have b13 : Binds K fd13 ["text"] [] := F13.bindsN fun _ _ _ _ _ _ us hl => match us, hl with | [_], _ => rfl
  have b14 : Binds K fd14 ["lines"] [] := F14.bindsN fun _ _ _ _ _ _ us hl => match us, hl with | [_], _ => rfl
  have b15 : Binds K fd15 ["words", "starts"] [] := F15.bindsN fun _ _ _ _ _ _ us hl => match us, hl with | [_, _], _ => rfl
  have b16 : Binds K fd16 ["lines", "first", "hand", "starts"] [] := F16.bindsN fun _ _ _ _ _ _ us hl => match us, hl with | [_, _, _, _], _ => rfl
  have b17 : Binds K fd17 ["words", "names", "hand"] [] := F17.bindsN fun _ _ _ _ _ _ us hl => match us, hl with | [_, _, _], _ => rfl
  have b18 : Binds K fd18 ["words", "names", "many"] [] := F18.bindsN fun _ _ _ _ _ _ us hl => match us, hl with | [_, _, _], _ => rfl
  have b19 : Binds K fd19 ["script", "place"] [] := F19.bindsN fun _ _ _ _ _ _ us hl => match us, hl with | [_, _], _ => rfl
  have b20 : Binds K fd20 ["pot", "upto"] [] := F20.bindsN fun _ _ _ _ _ _ us hl => match us, hl with | [_, _], _ => rfl
  have b21 : Binds K fd21 ["pot", "some"] [] := F21.bindsN fun _ _ _ _ _ _ us hl => match us, hl with | [_, _], _ => rfl
  have b22 : Binds K fd22 ["pot", "pool", "many"] [] := F22.bindsN fun _ _ _ _ _ _ us hl => match us, hl with | [_, _, _], _ => rfl
  have b23 : Binds K fd23 ["script", "most"] [] := F23.bindsN fun _ _ _ _ _ _ us hl => match us, hl with | [_, _], _ => rfl
  have b24 : Binds K fd24 ["pot"] [] := F24.bindsN fun _ _ _ _ _ _ us hl => match us, hl with | [_], _ => rfl
  have b25 : Binds K fd25 ["pot", "many"] [] := F25.bindsN fun _ _ _ _ _ _ us hl => match us, hl with | [_, _], _ => rfl
  have b26 : Binds K fd26 ["line"] [] := F26.bindsN fun _ _ _ _ _ _ us hl => match us, hl with | [_], _ => rfl
  have b27 : Binds K fd27 ["plan"] [] := F27.bindsN fun _ _ _ _ _ _ us hl => match us, hl with | [_], _ => rfl
  have b28 : Binds K fd28 ["pot", "names"] [] := F28.bindsN fun _ _ _ _ _ _ us hl => match us, hl with | [_, _], _ => rfl
  have b29 : Binds K fd29 ["pot", "most"] [] := F29.bindsN fun _ _ _ _ _ _ us hl => match us, hl with | [_, _], _ => rfl
  have b30 : Binds K fd30 ["bay"] [] := F30.bindsN fun _ _ _ _ _ _ us hl => match us, hl with | [_], _ => rfl
  have b31 : Binds K fd31 ["pot"] [] := F31.bindsN fun _ _ _ _ _ _ us hl => match us, hl with | [_], _ => rfl
  have b32 := FunD.bindsA (ps := ["script"]) F32 fun _ _ _ _ _ _ us hl => match us, hl with | [_], _ => rfl
  have e := hfa.symm.trans (glo "law" (by decide +kernel))
  cases e
  have fxD : Dx mg := ⟨free _ (by decide +kernel), free _ (by decide +kernel), free _ (by decide +kernel), free _ (by decide +kernel), free _ (by decide +kernel), free _ (by decide +kernel), free _ (by decide +kernel)⟩
  have fxN : FxNum mg := ⟨free _ (by decide +kernel), free _ (by decide +kernel), free _ (by decide +kernel), free _ (by decide +kernel), i9, sD⟩
  have fxNm : FxName mg := ⟨free _ (by decide +kernel), free _ (by decide +kernel), free _ (by decide +kernel), free _ (by decide +kernel), i8, sL⟩
  have fxW : FxWords K w mg := words_of (glo "WORDS" (by decide +kernel)) (c.t.tab 0) m2
  have fxG : FxGoes mg := ⟨free _ (by decide +kernel), free _ (by decide +kernel), free _ (by decide +kernel)⟩
  have fxR : FxRest mg := ⟨free _ (by decide +kernel), free _ (by decide +kernel), free _ (by decide +kernel), iPt, iW⟩
  have fxRB : FxRBay mg := ⟨free _ (by decide +kernel), free _ (by decide +kernel), iB⟩
  have fxB : FxBNew K mg (ga K "Bay") := ⟨cB, nT, nH, nS, nP, nW, nG, nN, nC, free _ (by decide +kernel), free _ (by decide +kernel), free _ (by decide +kernel)⟩
  have fxI : FxIsiB K mg (ga K "Bay") := ⟨of_decide_eq_true r1, of_decide_eq_true r2, of_decide_eq_true r3, of_decide_eq_true r4, of_decide_eq_true r5, glo "Bay" (by decide +kernel)⟩
  have fxK : FxBBk K (ga K "Bay") (ma K (bK K) "__eq__") := ⟨of_decide_eq_true q1, of_decide_eq_true q1, of_decide_eq_true q3, q2, q4, fun n hn => by
    have z := List.all_eq_true.mp q5 n hn
    obtain ⟨z1, z2⟩ := Bool.and_eq_true_iff.mp z
    exact ⟨z1, of_decide_eq_true z2⟩⟩
  have fxT : FxRt40 K mg (ga K "Bay") (ma K (ga K "Bay") "__init__") := ⟨fxB, fxI, mk, free _ (by decide +kernel), free _ (by decide +kernel)⟩
  have eB := err_ok m1 (init_of F0)
  refine ⟨K, (He.cT K ("law", none)).1, (He.cT K ("law", none)).2, fd32, spLaw K, X, c.empty _ (List.mem_singleton.mpr rfl), c.out _ (List.mem_singleton.mpr rfl), PySem.W.codeHd_of_K X (c.hd _ (List.mem_singleton.mpr rfl)),
    fun s v => b32 s [v] rfl, fun H a ns hl hT hS => ⟨a, ns, rfl, hS, hl, fun _ => rfl⟩, fun base hb hm hTB => ?_⟩
  have GPt := ok_point (P := PySem.Challenge.rw_wobblesnap_k40_bays_as_told.prog) (w := w) (mg := mg) (bs := base) (fun_of (st := sPoint) F9) fxN fxNm fxW i999 iP (fun_of (st := sAim) F10) (glo _ (by decide +kernel)) b10 (fun_of (st := sBound) F12) (glo _ (by decide +kernel)) b12 (fun_of (st := sIsName) F3) (glo _ (by decide +kernel)) b3 (fun_of (st := sCross) F11) (glo _ (by decide +kernel)) b11 (fun_of (st := sSgn) F6) (glo _ (by decide +kernel)) b6 (fun_of (st := sNum) F5) (glo _ (by decide +kernel)) b5 (fun_of (st := sCons) F4) (glo _ (by decide +kernel)) b4
  have GOwn := ok_own (P := PySem.Challenge.rw_wobblesnap_k40_bays_as_told.prog) (w := w) (mg := mg) (bs := base) (fun_of (st := sOwn) F17) iB GPt F9.kp (glo _ (by decide +kernel)) b9
  have GGo := ok_goes (P := PySem.Challenge.rw_wobblesnap_k40_bays_as_told.prog) (w := w) (mg := mg) (bs := base) (fun_of (st := sGoes) F18) fxG
  have GRe := ok_rest (P := PySem.Challenge.rw_wobblesnap_k40_bays_as_told.prog) (w := w) (mg := mg) (bs := base) (fun_of (st := sRest) F16) fxR eB (glo "BadBay" (by decide +kernel)) GOwn F17.kp (glo _ (by decide +kernel)) b17 (fun_of (st := sWall) F8) (glo _ (by decide +kernel)) b8 GGo F18.kp (glo _ (by decide +kernel)) b18
  have GSt := ok_rstarts (P := PySem.Challenge.rw_wobblesnap_k40_bays_as_told.prog) (w := w) (mg := mg) (bs := base) (fun_of (st := sRStarts) F14) fxN fxNm i999 iS (fun_of (st := sStart) F15) (glo _ (by decide +kernel)) b15 (fun_of (st := sIsName) F3) (glo _ (by decide +kernel)) b3 (fun_of (st := sSgn) F6) (glo _ (by decide +kernel)) b6 (fun_of (st := sNum) F5) (glo _ (by decide +kernel)) b5 (fun_of (st := sCons) F4) (glo _ (by decide +kernel)) b4
  have GHa := ok_hand (P := PySem.Challenge.rw_wobblesnap_k40_bays_as_told.prog) (w := w) (mg := mg) (bs := base) (fun_of (st := sHand) F7) fxN (fun_of (st := sNum) F5) (glo _ (by decide +kernel)) b5 (fun_of (st := sCons) F4) (glo _ (by decide +kernel)) b4
  have GRB := ok_rbay (P := PySem.Challenge.rw_wobblesnap_k40_bays_as_told.prog) (w := w) (mg := mg) (bs := base) (fun_of (st := sRBay) F13) fxRB eB (glo "BadBay" (by decide +kernel)) GHa F7.kp (glo _ (by decide +kernel)) b7 GSt F14.kp (glo _ (by decide +kernel)) b14 GRe F16.kp (glo _ (by decide +kernel)) b16
  have GNew := ok_bnew (P := PySem.Challenge.rw_wobblesnap_k40_bays_as_told.prog) (w := w) (mg := mg) (bs := base) (fun_of (st := sBInit) F1) fxB eB (glo "BadBay" (by decide +kernel)) GRB F13.kp (glo _ (by decide +kernel)) b13
  have GEq := ok_beq (P := PySem.Challenge.rw_wobblesnap_k40_bays_as_told.prog) (w := w) (mg := mg) (bs := base) (fun_of (st := sBEq) F2) fxB fxI
  have GOd := ok_odd (P := PySem.Challenge.rw_wobblesnap_k40_bays_as_told.prog) (w := w) (mg := mg) (bs := base) (fun_of (st := sOdd) F24) fxD (fun_of (st := sTake) F20) (glo _ (by decide +kernel)) b20 (fun_of (st := sOf) F21) (glo _ (by decide +kernel)) b21
  have GBy := ok_bay (P := PySem.Challenge.rw_wobblesnap_k40_bays_as_told.prog) (w := w) (mg := mg) (bs := base) (fun_of (st := sBay) F29) fxD (free _ (by decide +kernel)) (fun_of (st := sTake) F20) (glo _ (by decide +kernel)) b20 (fun_of (st := sOf) F21) (glo _ (by decide +kernel)) b21 (fun_of (st := sSome) F22) (glo _ (by decide +kernel)) b22 (fun_of (st := sNames) F25) (glo _ (by decide +kernel)) b25 (fun_of (st := sBAim) F28) (glo _ (by decide +kernel)) b28
  have GBt := ok_btext (P := PySem.Challenge.rw_wobblesnap_k40_bays_as_told.prog) (w := w) (mg := mg) (bs := base) (fun_of (st := sBText) F30) (free _ (by decide +kernel)) (fun_of (st := sLine) F26) (glo _ (by decide +kernel)) b26
  have GPN := ok_pnames (P := PySem.Challenge.rw_wobblesnap_k40_bays_as_told.prog) (w := w) (mg := mg) (bs := base) (fun_of (st := sPNames) F27)
  have GRt := ok_right (fdE := fd0) (P := PySem.Challenge.rw_wobblesnap_k40_bays_as_told.prog) (w := w) (mg := mg) (bs := base) (fun_of (st := sRight) F31) fxT fxK GBy F29.kp (glo _ (by decide +kernel)) b29 GBt F30.kp (glo _ (by decide +kernel)) b30 GPN F27.kp (glo _ (by decide +kernel)) b27 GOd F24.kp (glo _ (by decide +kernel)) b24 GNew b1 (rawF GEq b2)
  exact ok_law (fun_of (st := sLaw) F32) fxD (free _ (by decide +kernel)) GRt F31.kp (glo _ (by decide +kernel)) b31 (fun_of (st := sPot) F19) (glo _ (by decide +kernel)) b19 (fun_of (st := sCells) F23) (glo _ (by decide +kernel)) b23
end L2.K40
open PySem PySem.W PySem.Calls PyProof.Rows
theorem PySem.Challenge.cw_wobblesnap_k40_bays_as_told_holds : PySem.Challenge.rw_wobblesnap_k40_bays_as_told.Holds := by
  w_on; o_law
  refine HandSHeadRun.head_any (r := L2.K40.R) (q := view L2.K40.R.prog [49]) (H := L2.K40.hk) (ob := L2.K40.ob) (M := 6000) (loose := L2.K40.loose) (d := HandSHeadRun.topDef L2.K40.R.prog 49) (kwd := []) L2.K40.ob_eq
    (by kernel_rfl) (fun s => by kernel_rfl) L2.K40.run (by kernel_rfl) (by kernel_rfl) (by kernel_rfl) (by rfl) (by first | assumption | decide +kernel) (by decide +kernel) ⟨rfl, rfl, rfl, rfl, rfl, by decide +kernel⟩ ?hw ?hc
  case hw => w_witness2
  case hc =>
    refine L2.Vx.walk_ofTEG (l := PySem.Challenge.rw_wobblesnap_k40_bays_as_told) (n := 63) (k := 12) (x := "script") (CX := L2.CX0) rfl (by decide) (by kernel_rfl) ⟨rfl, by decide, by decide⟩ ?F (fun _ _ _ _ z => z)
    intro w mg fa h Y G hmg0
    obtain ⟨K, KX, c⟩ := Y
    have hmg : mg ("law" : PySem.Str) = some (.ref fa) := by
      have e : (HandSHeadRun.topDef L2.K40.R.prog 49).name = ("law" : PySem.Str) := by kernel_rfl
      rw [← e]
      exact hmg0
    exact L2.K40.facts KX G hmg c
#print axioms PySem.Challenge.cw_wobblesnap_k40_bays_as_told_holds

