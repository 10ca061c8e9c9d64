import PyProof.Rows.All
import Wide.All
import OpenK.AllK
import Wide.FinOn
import PyProof.EqAt
import PyProof.EqKinds
import PyProof.TupleCall
import PyProof.ReprReads
import KE.KExcIs
import HandS.ForMost
import HandS.Exc
import HandS.ExcOwn
import HandS.WordsExc
import HandS.IsInst
import HandS.ExcValue
import HandS.Defaults
import HandS.Head0
import HandS.Head1
import HandS.Head2
import HandS.HeadEnd
import HandS.HeadHook4
import HandS.Lambda
import HandS.Walk
import KE.GoesEnum
import HandS.Text
import KE.IntTextLaws
import KE.IntTextText
import HandS.Conv
import HandS.Wide
import HandS.SlotsOwn
import OpenK.KMeth
import OpenK.KOps
import PyProof.IsiPairs
import PyProof.FactsAll.dict
import HandS.EndTab
import PySem.Challenge.RW_wobblesnap_k07_plans_as_told
import HandS.Codes
import HandS.More
import HandS.Style
import HandS.Evl
import HandS.FStr
import HandS.Iter
import HandS.RaiseMore
import HandS.Dict
import HandS.WordsDict
import HandS.HeadWalk
set_option Elab.async false
set_option linter.all false
set_option maxRecDepth 100000
set_option maxHeartbeats 2000000
namespace PySem
namespace DrX
open PySem.W PySem.Calls PyProof.Rows PySem.HandSPX
/-! ### the text of __init__ -/
def iA (p1 p2 : Pos) : Arguments := { posonlyargs := [], args := [{ arg := "self", annotation := none, pos := p1 }, { arg := "value", annotation := none, pos := p2 }], vararg := none, kwonlyargs := [], kw_defaults := [], kwarg := none, defaults := [] }
def iB (q1 q2 q3 q4 : Pos) : List Stmt := [.Assign [.Attribute (.Name "self" q1) "value" q2] (.Name "value" q3) q4]
def iS : Scope := { kind := .function, names := [(PySem.Str.ofString "self", .local), (PySem.Str.ofString "value", .local)], isGenerator := false, isCoroutine := false, more := [] }
/-- what the written part says of Low, at C, and of its __init__, at fI -/
structure ErrT (K : Frag) (C fI : Addr) : Prop where
  cls : ∃ nm q N bs bm sn sub ab col dd k0 k1 k2 k3 k5, K.lookup C = some (excClassObj nm q C N bs bm true sn sub ab col dd k0 k1 k2 k3 k5 "ValueError.__new__") ∧ refsVE bm = true
  sa : findIn K (.ref C) "__setattr__" = some (some (.builtin "object.__setattr__"))
  ga : findIn K (.ref C) "__getattribute__" = some (some (.builtin "BaseException.__getattribute__"))
  gg : findIn K (.ref C) "__getattr__" = some none
  noN : findIn K (.ref C) "value" = some none
  iC : findIn K (.ref C) "__init__" = some (some (.ref fI))
  tC : typeIn K (.ref fI) = some (.type "function")
  kC : keepIn K (.ref C) = true
  exC : subIn K (.ref C) (.type "BaseException") = some true
  tyC : typeIn K (.ref C) = some (.type "type")
  hdC : hasDictIn K C = true
  cls' : (clsIn K C).isSome = true
  ha : findIn K (.ref C) "__class__" = some (some (.builtin "object.__class__"))
  hn : specialIn K (.builtin "object.__class__") "__get__" = some (some (.builtin "getset_descriptor.__get__"))
  ht : takesIn K (.builtin "object.__class__") = some true
  hm : mroIn K C (.type "object") = some true
  fn : ∃ (oc : Value) (od : Option Addr) (kV doc pm : Value) (an : Option Addr) (cdv ct : Value) (osl : Array (Option Value)) (p1 p2 q1 q2 q3 q4 : Pos),
    K.lookup fI = some ⟨oc, od, .func (fnOf "__init__" "DrawError.__init__" (iA p1 p2) (iB q1 q2 q3 q4) iS .none kV doc pm an cdv ct), osl⟩ ∧ codeIn K cdv "DrawError.__init__" = true
theorem one_size (v : Value) : [v].length ≤ sizeLine := by
  rw [sizeLine_eq]
  exact (by decide : 1 ≤ 16777216)
theorem kept_but {K : Frag} {h h' : Heap} {x : Addr} (X : K.In h) (hx : K.lookup x = none) (k : ∀ b o, b ≠ x → h.get? b = some o → h'.get? b = some o) : K.In h' := fun a o e =>
  k a o (fun z => by rw [z, hx] at e; cases e) (X a o e)
theorem ldC {M : Model} {s : Shared} {name : Str} {scope : Scope} {L a : Addr} {cd : Value} {m : Str → Option Value} {x : Str} {pos : Pos} {v : Value} {Q : Value → Shared → Prop} {A : Around} {E : Value → Shared → Prop} (hn : s.heap.Ns L m) (hv : m x = some v) (h : Q v s)
    (hk : scope.kind = .function := by rfl) (hl : (envOfC name scope L a cd).kindOf x = some .local := by rfl) (hd : (x == ("__debug__" : Str)) = false := by decide) :
    wpAny M A (eval (.Name x pos) (envOfC name scope L a cd)) Q E s := wpAny_Name (wpAny_loadName_local hk hl hn hv h) hd
/-- what __init__ leaves of a fresh exception at x -/
structure InitEnd (h h' : Heap) (x C dx t1 : Addr) (v : Value) : Prop where
  keep : ∀ b o, b ≠ x → h.get? b = some o → h'.get? b = some o
  obj : h'.get? x = some { cls := .ref C, dict := some dx, data := .fields #[.ref t1, .none, .none, .none, .bool false, .none] }
  dbig : h.objs.size ≤ dx
  dne : dx ≠ x
  ns : h'.Ns1 dx (fun y => if y = "value" then some v else none)
/-- a made Low -/
structure OwnMade (h h' : Heap) (e C d : Addr) (v : Value) : Prop where
  keep : ∀ b o, h.get? b = some o → h'.get? b = some o
  new : h.objs.size ≤ e
  obj : ∃ oe vs, h'.get? e = some oe ∧ oe.cls = .ref C ∧ oe.dict = some d ∧ oe.data = .fields vs ∧ vs[1]? = some .none
  dbig : h.objs.size ≤ d
  dne : d ≠ e
  ns : h'.Ns1 d (fun y => if y = "value" then some v else none)
section
variable {prog : Program} {w : World} {A : Around} {E : Value → Shared → Prop} {R : Result → Shared → Prop} {s : Shared} {K : Frag} {C fI : Addr}
theorem low_init (T : ErrT K C fI) {x t0 : Addr} {v : Value} (X : K.In s.heap) (hlim : s.heap.NoLimit) (hx : s.heap.get? x = some (excO C t0)) (hnx : K.lookup x = none) (hroom : A.depth < recursionLimit)
    (hq : ∀ h' tk dx, InitEnd s.heap h' x C dx t0 v → R (.ok (.ret .none)) { s with heap := h', toks := tk }) :
    codeAny (model prog w) A (.call (.ref fI) ⟨[.ref x, v], []⟩) R s := by
  obtain ⟨oc, od, kV, doc, pm, an, cdv, ct, osl, p1, p2, q1, q2, q3, q4, ho, hcd⟩ := T.fn
  obtain ⟨nm, q, N, bs, bm, sn, sub, ab, col, dd, k0, k1, k2, k3, k5, hC, hbm⟩ := T.cls
  have hcl : clsIn K C = some { name := nm, bases := bs, mro := .ref C :: bm, ns := N, qualname := q, hasDict := true, slotNames := sn, subclasses := sub, abstract := ab, collection := col, hasDel := false } := by unfold clsIn; rw [hC] <;> rfl
  refine Att.call_fn (binds := [("self", .ref x), ("value", v)]) X hlim ho hcd hroom (BindsTo.of_eq (by first | rfl | with_unfolding_all rfl)) (by first | rfl | decide | with_unfolding_all rfl) (fun s₁ IC => ?_) rfl rfl rfl
  obtain ⟨h₁, tk₁, rfl⟩ := IC.toInCall.same
  have k : ∀ b o, s.heap.get? b = some o → h₁.get? b = some o := IC.toInCall.keep
  have hn := IC.toInCall.ns
  have hxL : s.heap.objs.size ≠ x := Nat.ne_of_gt (Heap.lt_size hx)
  have X₁ : K.In h₁ := X.keeps k
  have hx₁ := k _ _ hx
  -- self.by = by
  show wpAny _ _ (execs _ _) _ _ _
  refine wpAny_execs_cons (plainObj_wpAny_Assign_Attribute ?_)
  refine ldC (v := v) hn (by first | rfl | with_unfolding_all rfl | kernel_rfl) (ldC (v := .ref x) hn (by first | rfl | with_unfolding_all rfl | kernel_rfl) ?_)
  refine set_plain X₁ (ox := excO C t0) (od := none) ⟨hx₁, rfl, rfl, trivial⟩ T.sa ?_
  refine exc_osa X₁ hx₁ hcl (show refsVE (.ref C :: bm) = true from hbm) rfl T.noN (fun h₃ tk₃ dx k₃ dn dne hx₃ hn₃ => ?_)
  show wpAny _ _ (execs _ _) _ _ _
  have z : s.heap.objs.size < h₁.objs.size := hn.lt
  exact wpAny_execs_nil (hq h₃ tk₃ dx ⟨fun b o hb e => k₃ b o hb (k b o e), hx₃, Nat.le_of_lt (Nat.lt_of_lt_of_le z dn), dne, hn₃⟩)
theorem low_made (T : ErrT K C fI) {v : Value} (X : K.In s.heap) (hlim : s.heap.NoLimit) (hroom : A.depth + 1 < recursionLimit)
    (hq : ∀ h' tk e d, OwnMade s.heap h' e C d v → R (.ok (.ret (.ref e))) { s with heap := h', toks := tk }) :
    codeAny (model prog w) A (.call (.ref C) ⟨[v], []⟩) R s := by
  obtain ⟨nm, q, N, bs, bm, sn, sub, ab, col, dd, k0, k1, k2, k3, k5, hC, hbm⟩ := T.cls
  obtain ⟨hp, g, dr, tk, os⟩ := s
  have k : ∀ b o, hp.get? b = some o → ((hp.push (kdv_tup [v])).push (excO C hp.objs.size)).get? b = some o := fun b o e => Heap.get?_push_of_some _ (Heap.get?_push_of_some _ e)
  have hget : ((hp.push (kdv_tup [v])).push (excO C hp.objs.size)).get? (hp.objs.size + 1) = some (excO C hp.objs.size) := by heap_get
  have hnx : K.lookup (hp.objs.size + 1) = none := by
    cases e : K.lookup (hp.objs.size + 1) with
    | none => rfl
    | some o =>
      have z : hp.get? (hp.objs.size + 1) = some o := X _ _ e
      exact absurd (Nat.lt_of_succ_lt (Heap.lt_size z)) (Nat.lt_irrefl _)
  refine call_own F.excBase_ValueError (fun X => refsVE_contains X bm hbm) (X _ _ hC) (looks_findIn X T.iC) (fun self => bind_fn X self T.tC) (one_size v) ?_
  refine low_init (s := ⟨(hp.push (kdv_tup [v])).push (excO C hp.objs.size), g, dr, tk, os⟩) T (X.keeps k) (hlim.keeps k) hget hnx ?_ fun h' tk' dx ⟨k', hx, dn, dne, hns⟩ => ?_
  · show A.depth + 1 < recursionLimit
    exact hroom
  · have old : ∀ b o, hp.get? b = some o → h'.get? b = some o := fun b o e => k' b o (Nat.ne_of_lt (Nat.lt_succ_of_lt (Heap.lt_size e))) (k b o e)
    have z : hp.objs.size + 1 + 1 ≤ dx := by
      first
        | (simpa only [Heap.size_push] using dn)
        | exact dn
        | (have q := dn; rw [Heap.size_push, Heap.size_push] at q; exact q)
    exact ⟨rfl, hq h' tk' (hp.objs.size + 1) dx ⟨old, Nat.le_succ _, ⟨_, _, hx, rfl, rfl, rfl, rfl⟩, Nat.le_trans (Nat.le_trans (Nat.le_succ _) (Nat.le_succ _)) z, dne, hns⟩⟩
end
end DrX
end PySem

set_option Elab.async false
set_option linter.all false
set_option maxRecDepth 100000
set_option maxHeartbeats 2000000
namespace L2.Vx
open PySem PySem.Spec PyProof.Rows

/-- the written facts of an error class, with the name of it -/
abbrev ErrT := @PySem.DrX.ErrT

/-- at a stands an exception of the class cls, its own dict, if there is one, at d -/
def EX (a : Addr) (cls : Value) (d : Option Addr) : HO :=
  .ext fun h => ∃ oe vs, h.get? a = some oe ∧ Zc cls d oe ∧ oe.data = .fields vs
theorem ex_ok {P : Program} {w : World} {H : Hp} {h : Heap} {a : Addr} {cls : Value} {d : Option Addr} {oe : Obj} {vs : Array Value}
    (e : h.get? a = some oe) (z : Zc cls d oe) (q : oe.data = .fields vs) : ObjOk P w H h a (EX a cls d) :=
  ⟨⟨oe, vs, e, z, q⟩, ⟨oe, e⟩, fun _ _ ⟨o, v, p, r⟩ k => ⟨o, v, k o p, r⟩⟩
theorem ex_at {P : Program} {w : World} {H : Hp} {h : Heap} {a : Addr} {cls : Value} {d : Option Addr} (ok : HOk P w H h)
    (e : H a = some (EX a cls d)) : ∃ oe vs, h.get? a = some oe ∧ Zc cls d oe ∧ oe.data = .fields vs := (ok a _ e).1
/-- the state is another one, its heap the same -/
theorem inv_same {X : Cx} {pins : List (Addr × Obj)} {σ : St} {H : Hp} {s s' : Shared} (I : Inv X pins σ H s) (e : s'.heap = s.heap)
    (os : s'.os = s.os) (bare : AllBare s'.gens) : Inv X pins σ H s' := by
  obtain ⟨h, g, dr, tk, o⟩ := s
  obtain ⟨h', g', dr', tk', o'⟩ := s'
  obtain rfl : h' = h := e
  obtain rfl : o' = o := os
  exact ⟨I.ok, I.os, bare, I.base, I.loc, I.cell, I.free, I.freeC, I.pin, I.hok, I.len⟩
/-- what makes an exception, as a value: it is tracked from now on -/
theorem pe_mk {X : Cx} {e : Expr} {t : St → Hp → XK → Prop} (he : PMk X e t) :
    PE X e (fun σ H Q => t σ H fun cls d H1 => ∀ a, H1 a = none → Q (.ref a) (upd H1 a (EX a cls d))) := by
  refine ⟨fun pins s σ H Q I h => ?_⟩
  refine wpAny_mono (he pins s σ H _ I h) (fun u s1 hu => ?_) fun _ _ x => x
  obtain ⟨a, oe, vs, sI, H', cls, d, rfl, J, k, hne, ha, hz, hd, _, na, os, ag, _, q⟩ := hu
  have J2 := J.laidN (t' := s1.toks) (h' := s1.heap) k hne na (ex_ok (P := X.prog) (w := X.w) (H := upd H' a (EX a cls d)) ha hz hd)
  exact ⟨.ref a, _, inv_same J2 rfl os ag, rfl, q a na⟩

/-- the own dict of an error that keeps v -/
abbrev xv (v : V) : HO := .xd [(("value" : Str), v)]
theorem look_xv {v : V} : List.lookup ("value" : Str) [(("value" : Str), v)] = some v := by simp [List.lookup]
theorem rel_xv {v : V} {u : Value} (r : RelV v u) (f : Str) :
    RelO (List.lookup f [(("value" : Str), v)]) (if f = "value" then some u else none) := by
  by_cases hf : f = "value"
  · subst hf
    rw [if_pos rfl, look_xv]
    exact r
  · rw [if_neg hf]
    have q : (f == ("value" : Str)) = false := by simpa using hf
    have q2 : List.lookup f [(("value" : Str), v)] = none := by simp [List.lookup, q]
    rw [q2]
    trivial

section
variable {X : Cx} {C fI : Addr}

/-- the call of an error class, whatever is made of it -/
theorem run_err {x : Str} {a : Expr} {ta : TA} {p pos : Pos} {k : Nat} (T : ErrT X.K C fI) (hm : X.mg x = some (.ref C))
    (hr : Room k X.A) (ha : PA X [a] ta) (hg : Gl X x) (hdb : (x == ("__debug__" : Str)) = false)
    (he : starEach (a :: []) X.env = (false, eval a X.env) :: starEach [] X.env)
    (hpl : (backTo pos (starEach [] X.env)).any (·.1) = false)
    {pins : List (Addr × Obj)} {s : Shared} {σ : St} {H : Hp} {Q : V → Hp → Prop} {R : Value → Shared → Prop} (I : Inv X pins σ H s)
    (h : ta σ H fun vs H1 => ∃ v, vs = [v] ∧ Q v H1)
    (fin : ∀ (v : V) (H1 : Hp) (e d : Addr) (G h' : Heap) (g : Array GenState) (dr : Drawn) (tk' : Nat) (os : OsState) (oe : Obj) (fv : Array Value),
      Inv X pins σ (upd H1 d (xv v)) ⟨G, g, dr, tk', os⟩ → (∀ b o, G.get? b = some o → h'.get? b = some o) → G.get? e = none →
      h'.get? e = some oe → Zc (.ref C) (some d) oe → oe.data = .fields fv → fv[1]? = some .none → H1 e = none → H1 d = none → d ≠ e → Q v H1 →
      AllBare g → R (.ref e) ⟨h', g, dr, tk', os⟩) :
    wpAny (model X.prog X.w) X.A (eval (.Call (.Name x p) [a] [] pos) X.env) R X.xe s := by
  refine wpAny_Call_Name_kw (ld_glob I hg hm ?_ hdb)
  refine PySem.W.callWith_K (h₀ := X.base) I.ok.mod.kin T.kC (thn (ha.run pos pins s σ H _ I h) fun us s1 hh => ?_) he hpl
  obtain ⟨vs, H1, I1, r1, v, ev, q1⟩ := hh
  subst ev
  refine ⟨I1.kIn, ?_⟩
  cases r1 with
  | cons rv rn =>
    rename_i v' us'
    cases rn
    have hlim := I1.nolimit
    obtain ⟨hp, g, dr, tk, os⟩ := s1
    refine wpAny_call (PySem.DrX.low_made T I1.kIn hlim (by have := hr.dp; omega) fun h' tk' e d M => ?_)
    obtain ⟨oe, fv, hoe, hc, hd, hdat, h1⟩ := M.obj
    obtain ⟨G', g1, g2⟩ := restrict h' fun b => decide (b ≠ e)
    have gk : ∀ b, b ≠ e → G'.get? b = h'.get? b := fun b hb => g1 b (decide_eq_true hb)
    have ge : G'.get? e = none := g2 e (by simp)
    have old : ∀ b o, hp.get? b = some o → G'.get? b = some o := fun b o q =>
      (gk b (Nat.ne_of_lt (Nat.lt_of_lt_of_le (Heap.lt_size q) M.new))).trans (M.keep b o q)
    have ob : ObjOk X.prog X.w (upd H1 d (xv v)) G' d (xv v) :=
      ⟨_, M.ns.at (fun o q => (gk d M.dne).trans q), fun f => rel_xv rv f⟩
    have J : Inv X pins σ (upd H1 d (xv v)) ⟨G', g, dr, tk', os⟩ := I1.laid (t' := tk') old M.dbig ob
    refine fin v H1 e d G' h' g dr tk' os oe fv J (fun b o q => ?_) ge hoe ⟨hc, hd⟩ hdat h1 (I1.hok.fresh M.new) (I1.hok.fresh M.dbig) M.dne q1 I1.bare
    by_cases hb : b = e
    · rw [hb, ge] at q
      cases q
    · exact (gk b hb).symm.trans q

/-- C(e), to be raised -/
def tMkE (C : Addr) (ta : TA) : St → Hp → XK → Prop := fun σ H Q => ta σ H fun vs H1 =>
  ∃ v, vs = [v] ∧ ∀ d, H1 d = none → Q (.ref C) (some d) (upd H1 d (xv v))
theorem pmk_err {x : Str} {a : Expr} {ta : TA} {p pos : Pos} {k : Nat} (T : ErrT X.K C fI) (hm : X.mg x = some (.ref C))
    (hr : Room k X.A) (ha : PA X [a] ta) (hg : Gl X x := by rfl) (hdb : (x == ("__debug__" : Str)) = false := by decide)
    (he : starEach (a :: []) X.env = (false, eval a X.env) :: starEach [] X.env := by rfl)
    (hpl : (backTo pos (starEach [] X.env)).any (·.1) = false := by rfl) :
    PMk X (.Call (.Name x p) [a] [] pos) (tMkE C ta) := by
  intro pins s σ H Q I h
  refine run_err T hm hr ha hg hdb he hpl I (Q := fun v H1 => ∀ d, H1 d = none → Q (.ref C) (some d) (upd H1 d (xv v))) h ?_
  intro v H1 e d G h' g dr tk' os oe fv J k ge hoe hz hdat h1 ne nd ned q hb
  have hn : upd H1 d (xv v) e = none := by rw [upd_ne (Ne.symm ned)]; exact ne
  exact ⟨e, oe, fv, _, _, .ref C, some d, rfl, J, k, ge, hoe, hz, hdat, h1, hn, rfl, hb, raises_own T.exC T.tyC, q d nd⟩
/-- raise C(e) -/
theorem ps_err {W : WX} {x : Str} {a : Expr} {ta : TA} {p pos pos2 : Pos} {k : Nat} (hc : X.calm = true) (T : ErrT X.K C fI)
    (hm : X.mg x = some (.ref C)) (hr : Room k X.A) (tk : Takes X W) (ha : PA X [a] ta) (hg : Gl X x := by rfl)
    (hdb : (x == ("__debug__" : Str)) = false := by decide)
    (he : starEach (a :: []) X.env = (false, eval a X.env) :: starEach [] X.env := by rfl)
    (hpl : (backTo pos (starEach [] X.env)).any (·.1) = false := by rfl) :
    PS X (.Raise (some (.Call (.Name x p) [a] [] pos)) none pos2) (fun _ σ H => tMkE C ta σ H fun cls d H' => W cls d σ H') :=
  ps_raise hc tk (pmk_err T hm hr ha hg hdb he hpl)

/-- C(e) as a value -/
def tExc (C : Addr) (ta : TA) : TE := fun σ H Q => tMkE C ta σ H fun cls d H1 => ∀ a, H1 a = none → Q (.ref a) (upd H1 a (EX a cls d))
theorem pe_exc {x : Str} {a : Expr} {ta : TA} {p pos : Pos} {k : Nat} (T : ErrT X.K C fI) (hm : X.mg x = some (.ref C))
    (hr : Room k X.A) (ha : PA X [a] ta) (hg : Gl X x := by rfl) (hdb : (x == ("__debug__" : Str)) = false := by decide)
    (he : starEach (a :: []) X.env = (false, eval a X.env) :: starEach [] X.env := by rfl)
    (hpl : (backTo pos (starEach [] X.env)).any (·.1) = false := by rfl) :
    PE X (.Call (.Name x p) [a] [] pos) (tExc C ta) := pe_mk (pmk_err T hm hr ha hg hdb he hpl)

/-- what is known of an error that is held: its class of one's own, its dict with the value; or a plain ValueError -/
def Held (K : PySem.W.Frag) (H : Hp) (a : Addr) (cls : Value) : Prop :=
  (∃ C d fI v, cls = .ref C ∧ H a = some (EX a cls (some d)) ∧ H d = some (xv v) ∧ ErrT K C fI) ∨
  (cls = .type "ValueError" ∧ H a = some (EX a cls none))
/-- e.value, e a tracked error -/
def tVal (K : PySem.W.Frag) (te : TE) : TE := fun σ H Q => te σ H fun x H1 => ∃ a C d fI v,
  x = .ref a ∧ H1 a = some (EX a (.ref C) (some d)) ∧ ErrT K C fI ∧ H1 d = some (xv v) ∧ Q v H1
theorem inst_ex {h : Heap} {a C d : Addr} {oe : Obj} {vs : Array Value} {mA : Str → Option Value} (ho : h.get? a = some oe)
    (hz : Zc (.ref C) (some d) oe) (hd : oe.data = .fields vs) (hns : h.Ns1 d mA) :
    ∃ od, PySem.W.InstAt h a oe C (some od) ∧ ∀ name, PySem.W.lookIn name od = some (mA name) := by
  obtain ⟨od, hod, hl⟩ := lookIn_ns hns
  exact ⟨od, ⟨ho, hz.1, by unfold PySem.W.notCls; rw [hd] <;> rfl, by rw [hz.2]; exact hod⟩, hl⟩
theorem pe_val {e : Expr} {te : TE} {pos : Pos} (he : PE X e te)
    (hb : attributeBase e "value" X.env (eval e X.env) = eval e X.env := by rfl) : PE X (.Attribute e "value" pos) (tVal X.K te) := by
  refine ⟨fun pins s σ H Q I h => ?_⟩
  refine attr_of hb (thn (he.run pins s σ H _ I h) fun u s1 hh => ?_)
  obtain ⟨x, H1, I1, rx, a, C, d, fI, v, ex, ea, T, ed, q⟩ := hh
  subst ex
  obtain rfl : u = Value.ref a := rx
  obtain ⟨oe, vs, ho, hz, hd⟩ := ex_at I1.hok ea
  have hx : ObjOk X.prog X.w H1 s1.heap d (xv v) := I1.hok d _ ed
  obtain ⟨mA, hns, hr⟩ := hx
  obtain ⟨od, J, hl⟩ := inst_ex ho hz hd hns
  obtain ⟨u, hu, ru⟩ := RelO.some_of (v := v) (o := mA "value") (by rw [← look_xv (v := v)]; exact hr "value")
  exact HandSPX.exc_get I1.kIn J T.ga T.gg T.exC (PySem.W.findObj_own T.hdC T.noN rfl (by rw [hl, hu])) (handed_of ru) ⟨v, H1, I1.tok _, ru, q⟩

/-- isinstance(e, c), e a tracked error -/
def rIsX (K : PySem.W.Frag) : List V → Hp → VK → Prop := fun xs H Q => ∃ (a : Addr) (cls : Value) (c : V) (cv : Value) (b : Bool),
  xs = [.ref a, c] ∧ Held K H a cls ∧ (∀ u, RelV c u → u = cv) ∧ PySem.W.kitOne K cls cv = some b ∧ Q (.bl b) H
theorem call_isX : CallR X (.builtin "isinstance") (rIsX X.K) := by
  intro pins s σ H xs us Q I r h
  obtain ⟨a, cls, c, cv, b, rfl, hh, hcv, e, q⟩ := h
  cases r with
  | cons rx rr =>
    cases rr with
    | cons rt rr =>
      cases rr
      cases rx
      have ec := hcv _ rt
      subst ec
      have fin : ∀ tk : Nat, EP X pins σ Q (.bool b) { s with toks := tk } := fun tk => ⟨.bl b, H, I.kept (t' := tk) fun _ _ z => z, rfl, q⟩
      rcases hh with ⟨C, d, fI, v, rfl, ea, ed, T⟩ | ⟨rfl, ea⟩
      · obtain ⟨oe, vs, ho, hz, hd⟩ := ex_at I.hok ea
        have hx : ObjOk X.prog X.w H s.heap d (xv v) := I.hok d _ ed
        obtain ⟨mA, hns, _⟩ := hx
        obtain ⟨od, J, _⟩ := inst_ex ho hz hd hns
        exact PySem.W.kia_one (PySem.W.kitx_exc T.cls' T.ga T.gg T.exC T.ha T.hn T.ht T.hm) I.kIn J e (fun z => nomatch z) fin
      · obtain ⟨oe, vs, ho, hz, hd⟩ := ex_at I.hok ea
        exact PySem.W.kia_one (PySem.W.kitx_bexc PySem.F.excAttr_ValueError PySem.F.lkClass_ValueError PySem.F.soClass_ValueError (by decide)) I.kIn ⟨oe, ho, hz.1⟩ e (fun z => nomatch z) fin
end
end L2.Vx

set_option Elab.async false
set_option linter.all false
set_option maxRecDepth 100000
set_option maxHeartbeats 2000000
namespace L2.Vx
open PySem PySem.Spec PyProof.Rows

/-! ### data at an address, dicts with it -/
def kd : Key → PyData
  | .inl i => .int i
  | .inr x => .str x
mutual
inductive Dd (K : PySem.W.Frag) (H : Hp) : V → PyData → Prop
  | non : Dd K H .non .none
  | bl (b : Bool) : Dd K H (.bl b) (.bool b)
  | int (i : Int) : Dd K H (.int i) (.int i)
  | str (x : Str) : Dd K H (.str x) (.str x)
  | lst {a : Addr} {xs : List V} {ds : List PyData} : SqL K H a xs → DdAll K H xs ds → Dd K H (.ref a) (.list ds)
  | tup {a : Addr} {xs : List V} {ds : List PyData} : SqT K H a xs → DdAll K H xs ds → Dd K H (.ref a) (.tuple ds)
  | dct {a : Addr} {kvs : List (Key × V)} {ds : List PyData} : H a = some (.dK kvs) → DdAll K H (kvs.map (·.2)) ds →
      Dd K H (.ref a) (.dict ((kvs.map fun p => kd p.1).zip ds))
inductive DdAll (K : PySem.W.Frag) (H : Hp) : List V → List PyData → Prop
  | nil : DdAll K H [] []
  | cons {v : V} {vs : List V} {d : PyData} {ds : List PyData} : Dd K H v d → DdAll K H vs ds → DdAll K H (v :: vs) (d :: ds)
end
/-! no list in it -/
mutual
def noL : PyData → Bool
  | .none | .bool _ | .int _ | .str _ => true
  | .list _ => false
  | .tuple xs => noLs xs
  | .dict kvs => noLk kvs
def noLs : List PyData → Bool
  | [] => true
  | x :: xs => noL x && noLs xs
def noLk : List (PyData × PyData) → Bool
  | [] => true
  | (_, v) :: r => noL v && noLk r
end
theorem noLk_zip : ∀ (ks ds : List PyData), ks.length = ds.length → noLk (ks.zip ds) = noLs ds
  | [], [], _ => rfl
  | k :: ks, d :: ds, h => by
    show (noL d && noLk (ks.zip ds)) = (noL d && noLs ds)
    rw [noLk_zip ks ds (Nat.succ.inj h)]
  | [], _ :: _, h => by cases h
  | _ :: _, [], h => by cases h
theorem DdAll.len {K : PySem.W.Frag} {H : Hp} : ∀ {vs : List V} {ds : List PyData}, DdAll K H vs ds → vs.length = ds.length
  | _, _, .nil => rfl
  | _, _, .cons _ t => congrArg (· + 1) t.len

theorem reads_keys {P : Program} {w : World} {h : Heap} : ∀ (es : List DictEntry) (kvs : List (Key × Value)), Pairs (mixKind P w) es kvs →
    ReadsAll h (es.map (·.key)) (kvs.map fun p => kd p.1) [] ∧ es.map (·.val) = kvs.map (·.2)
  | _, _, .nil => ⟨.nil, rfl⟩
  | e :: es, kv :: kvs, .cons hk hv t => by
    obtain ⟨r, q⟩ := reads_keys es kvs t
    refine ⟨?_, by rw [List.map_cons, List.map_cons, hv, q]⟩
    have r1 : Reads h e.key (kd kv.1) [] := by
      rcases keyIs_shape (show keyIs kv.1 e.key = true from hk) with ⟨i, t, e1, e2⟩ | ⟨x, t, e1, e2⟩
      · rw [e1, e2]; exact .int i t
      · rw [e1, e2]; exact .str x t
    exact ReadsAll.cons r1 r
theorem kv_keys {κ : Type} : ∀ (kvs : List (κ × V)) (us : List (κ × Value)), KV kvs us → kvs.map (·.1) = us.map (·.1) ∧ Vals (kvs.map (·.2)) (us.map (·.2))
  | _, _, .nil => ⟨rfl, .nil⟩
  | _, _, .cons r t => by
    obtain ⟨q1, q2⟩ := kv_keys _ _ t
    exact ⟨by rw [List.map_cons, List.map_cons, r.1, q1], .cons r.2 q2⟩

section
variable {X : Cx} {pins : List (Addr × Obj)} {σ : St} {H : Hp} {s : Shared}
mutual
theorem Dd.reads (I : Inv X pins σ H s) : ∀ {v : V} {d : PyData}, Dd X.K H v d → ∀ u : Value, RelV v u → ∃ as, Reads s.heap u d as ∧ (noL d = true → sysModules ∉ as)
  | _, _, .non, u, r => by
    obtain rfl : u = Value.none := r
    exact ⟨_, Reads.none, fun _ z => by cases z⟩
  | _, _, .bl b, u, r => by
    obtain rfl : u = Value.bool b := r
    exact ⟨_, Reads.bool b, fun _ z => by cases z⟩
  | _, _, .int i, u, r => by
    obtain ⟨t, rfl⟩ := (show ∃ t, u = Value.int i t from r)
    exact ⟨_, Reads.int i t, fun _ z => by cases z⟩
  | _, _, .str x, u, r => by
    obtain ⟨t, rfl⟩ := (show ∃ t, u = Value.str x t from r)
    exact ⟨_, Reads.str x t, fun _ z => by cases z⟩
  | _, _, .lst (a := a) hs ha, u, r => by
    obtain rfl : u = Value.ref a := r
    obtain ⟨its, rv, ⟨o, n, ho, hc, _, hd⟩, _⟩ := I.list hs
    obtain ⟨as, hr, _⟩ := Dd.readsAll I ha its rv
    exact ⟨_, Reads.list ho hc hd hr, fun z => by cases z⟩
  | _, _, .tup (a := a) hs ha, u, r => by
    obtain rfl : u = Value.ref a := r
    obtain ⟨its, rv, ⟨o, ho, hc, n, hd⟩, _⟩ := I.tuple hs
    obtain ⟨as, hr, hn⟩ := Dd.readsAll I ha its rv
    exact ⟨_, Reads.tuple ho hc hd hr, hn⟩
  | _, _, .dct (a := a) (kvs := pvs) (ds := ds) he ha, u, r => by
    obtain rfl : u = Value.ref a := r
    obtain ⟨_, hne, us, rk, ob, es, ep, ho, hx, hd, _, hp, _⟩ := I.hok _ _ he
    obtain ⟨rk1, rk2⟩ := kv_keys _ _ rk
    obtain ⟨q1, q2⟩ := reads_keys (h := s.heap) es.toList us hp
    have hl : (pvs.map fun p => kd p.1).length = ds.length := by
      rw [List.length_map]
      have := ha.len
      rw [List.length_map] at this
      exact this
    obtain ⟨as, hr, hn⟩ := Dd.readsAll I ha (us.map (·.2)) rk2
    have e1 : us.map (fun p => kd p.1) = pvs.map (fun p => kd p.1) := by
      have := congrArg (List.map kd) rk1
      rw [List.map_map, List.map_map] at this
      exact this.symm
    have f1 : ((pvs.map fun p => kd p.1).zip ds).map (·.1) = pvs.map fun p => kd p.1 := List.map_fst_zip (by rw [hl]; exact Nat.le_refl _)
    have f2 : ((pvs.map fun p => kd p.1).zip ds).map (·.2) = ds := List.map_snd_zip (by rw [hl]; exact Nat.le_refl _)
    refine ⟨_, Reads.dict ho hx.1 hd (as := []) (bs := as) (by rw [f1, ← e1]; exact q1) (by rw [f2, q2]; exact hr), fun z => ?_⟩
    intro hm
    rcases List.mem_cons.mp (show sysModules ∈ a :: ([] ++ as) from hm) with e | hm
    · rw [← e] at hne
      simp at hne
    · exact hn (by rw [← noLk_zip _ _ hl]; exact z) hm
theorem Dd.readsAll (I : Inv X pins σ H s) : ∀ {vs : List V} {ds : List PyData}, DdAll X.K H vs ds → ∀ us : List Value, Vals vs us → ∃ as, ReadsAll s.heap us ds as ∧ (noLs ds = true → sysModules ∉ as)
  | _, _, .nil, us, r => by
    cases r
    exact ⟨_, ReadsAll.nil, fun _ z => by cases z⟩
  | _, _, .cons h1 h2, us, r => by
    cases r with
    | cons r1 r2 =>
      obtain ⟨as, q1, n1⟩ := Dd.reads I h1 _ r1
      obtain ⟨bs, q2, n2⟩ := Dd.readsAll I h2 _ r2
      refine ⟨_, ReadsAll.cons q1 q2, fun z hm => ?_⟩
      obtain ⟨z1, z2⟩ := Bool.and_eq_true_iff.mp z
      rcases List.mem_append.mp hm with m | m
      · exact n1 z1 m
      · exact n2 z2 m
end
end
/-- what repr may be asked of -/
def shOk (d : PyData) : Bool := d.showable && (!d.hasDict || noL d)
/-- repr(x) of data -/
def rRepr (K : PySem.W.Frag) : List V → Hp → VK → Prop := fun xs H Q => ∃ (x : V) (d : PyData),
  xs = [x] ∧ Dd K H x d ∧ shOk d = true ∧ d.depth ≤ 60 ∧ d.shown.length ≤ sizeLine ∧ Q (.str d.shown) H
theorem call_repr {X : Cx} (hg : X.A.guards = some []) (hu : X.A.units + 64 < cLine) : CallR X (.builtin "repr") (rRepr X.K) := by
  intro pins s σ H xs us Q I r h
  obtain ⟨x, d, rfl, hd, hs, hdep, hz, q⟩ := h
  cases r with
  | cons rx rr =>
    cases rr
    rename_i u
    obtain ⟨as, hr, hn⟩ := Dd.reads I hd u rx
    obtain ⟨s1, s2⟩ := Bool.and_eq_true_iff.mp (show (d.showable && (!d.hasDict || noL d)) = true from hs)
    have hsm : d.hasDict = true → sysModules ∉ as := fun z => hn (by rw [z] at s2; simpa using s2)
    have atRef : ∀ {a : Addr}, u = Value.ref a → wpAny (model X.prog X.w) X.A (call (.builtin "repr") [u]) (EP X pins σ Q) X.xe s := fun {a} e => by
      subst e
      exact repr_of_reads' hr s1 hsm hg (by omega) (fun _ _ e => e) (fun h' v tk hk => ⟨.str _, H, I.kept hk, ⟨_, rfl⟩, q⟩) hz
    cases hd with
    | non =>
      obtain rfl : u = Value.none := rx
      exact PySem.P.repr_of_none ⟨.str _, H, I.tok _, ⟨_, rfl⟩, q⟩
    | bl b =>
      obtain rfl : u = Value.bool b := rx
      exact PySem.P.repr_of_bool ⟨.str _, H, I.tok _, ⟨_, rfl⟩, q⟩
    | int i =>
      obtain ⟨t, rfl⟩ := (show ∃ t, u = Value.int i t from rx)
      exact PySem.P.repr_of_int (of_decide_eq_true s1) ⟨.str _, H, I.tok _, ⟨_, rfl⟩, q⟩
    | str x =>
      obtain ⟨t, rfl⟩ := (show ∃ t, u = Value.str x t from rx)
      exact PySem.P.repr_of_str ⟨.str _, H, I.tok _, ⟨_, rfl⟩, q⟩ hz
    | lst _ _ => exact atRef rx
    | tup _ _ => exact atRef rx
    | dct _ _ => exact atRef rx

/-! ### defs that are called where nothing shows itself: the guards are told -/
structure FnG (P : Program) (w : World) (K : PySem.W.Frag) (mg : Str → Option Value) (base : Heap) (CX : CXT) (k : Nat) (f : Addr)
    (fd : FuncData) (ps : List Str) (sp : Sp) : Prop where
  len : ∀ vs H Q E, sp vs H Q E → vs.length = ps.length
  run : ∀ (A : Around) (outer : List Env) (s : Shared) (H : Hp) (args : Args) (us : List Value) (vs : List V) (Q : VK) (E : XK), A.guards = some [] →
    Room k A → Env0 P w K mg base A outer s H → BindsTo s fd args (ps.zip us) → Vals vs us → sp vs H Q E →
      codeAny (model P w) A (.call (.ref f) args) (CR CX outer P w H s Q E) s
section
variable {X : Cx} {CX : CXT} {k : Nat} {f : Addr} {fd : FuncData} {ps : List Str} {sp : Sp} {dvs : List V} {ds : List Value} {E : XK} {x : Str}
  {p pos : Pos} {e : Expr} {es : List Expr} {t : TA}
theorem run_g {pins : List (Addr × Obj)} {σ : St} {H : Hp} {s : Shared} {Q : VK} {us : List Value} {vs : List V}
    (F : FnG X.prog X.w X.K X.mg X.base CX k f fd ps sp) (gd : X.A.guards = some []) (hr : Room k X.A) (hb : Binds X.K fd ps ds) (hd : Vals dvs ds)
    (hx : Passes CX X E) (I : Inv X pins σ H s) (r : Vals vs us) (h : sp (vs ++ dvs) H Q E) :
    wpAny (model X.prog X.w) X.A (call (.ref f) us) (EP X pins σ Q) X.xe s := by
  have r2 := r.append hd
  have hl : (us ++ ds).length = ps.length := r2.length.symm.trans (F.len _ _ _ _ h)
  have hc := F.run X.A X.stack s H ⟨us, []⟩ (us ++ ds) (vs ++ dvs) Q E gd hr I.env0 (hb s us I.kIn hl) r2 h
  refine wpAny_call (codeAny_mono hc fun r s' hq => ?_)
  match r, hq with
  | .error e, hq => exact hx pins σ H s e s' I hq
  | .ok (.ret u), hq => exact I.after hq
  | .ok .next, hq => exact hq.elim
  | .ok .brk, hq => exact hq.elim
  | .ok .cont, hq => exact hq.elim
/-- f(e, ..), f such a def -/
theorem pe_callG (F : FnG X.prog X.w X.K X.mg X.base CX k f fd ps sp) (gd : X.A.guards = some []) (hr : Room k X.A) (hg : Gl X x)
    (hm : X.mg x = some (.ref f)) (hk : PySem.W.keepIn X.K (.ref f) = true) (hb : Binds X.K fd ps ds) (hd : Vals dvs ds) (hx : Passes CX X E)
    (ha : PA X (e :: es) t) (hdb : (x == ("__debug__" : Str)) = false := by decide)
    (he : starEach (e :: es) X.env = (false, eval e X.env) :: starEach es X.env := by rfl)
    (hpl : (backTo pos (starEach es X.env)).any (·.1) = false := by rfl) :
    PE X (.Call (.Name x p) (e :: es) [] pos) (tCall sp dvs E t) := by
  refine ⟨fun pins s σ H Q I h => wpAny_Call_Name_kw (ld_glob I hg hm ?_ hdb)⟩
  have ht := ha.run pos pins s σ H _ I h
  exact PySem.W.callWith_K (h₀ := X.base) I.ok.mod.kin hk
    (thn ht fun us s1 ⟨vs, H1, I1, r, q⟩ => ⟨I1.kIn, run_g F gd hr hb hd hx I1 r q⟩) he hpl
end
section
variable {P : Program} {w : World} {K : PySem.W.Frag} {mg : Str → Option Value} {base : Heap}
/-- a def's promise by its body, the guards told -/
theorem okG {CX : CXT} {x qual : Str} {st : Stmt} {f : Addr} {fd : FuncData} {N ps : List Str} {k : Nat} {sp : Sp} (F : Fun K x qual st f fd)
    (S : FnScope N ps (defScope st)) (len : ∀ vs H Q E, sp vs H Q E → vs.length = ps.length)
    (hbody : ∀ (cdv : Value) (A : Around) (outer : List Env) (s : Shared) (H : Hp) (vs : List V) (Q : VK) (E : XK), A.guards = some [] →
      Room k (A.deeper (envOfC qual (defScope st) s.heap.objs.size f cdv)) → sp vs H Q E →
      ∃ t, PSs (cxOf CX P w K mg base N qual (defScope st) f cdv A outer s H E) (defBody st) t ∧
        t { nx := fun _ H' => Q .non H', rt := Q } (start N vs) H) : FnG P w K mg base CX (k + 1) f fd ps sp := by
  obtain ⟨oc, od, kV, doc, pm, an, cdv, ct, osl, rfl, lk, hcd⟩ := F.ex
  refine ⟨len, fun A outer s H args us vs Q E gd hr e0 hb r hsp => ?_⟩
  have old : ∀ b o, base.get? b = some o → s.heap.get? b = some o := fun b o e => (e0.bs b o e).1
  have KX : K.In s.heap := e0.mod.kin.keeps old
  have par : ∀ y ∈ ps.zip us, (defScope st).names.lookup y.1 = some .local ∨
      ((defScope st).names.lookup y.1 = some .cell ∧ ((cellsFrom (s.heap.objs.size + 1) (defScope st).names []).lookup y.1).isSome = true) := by
    intro y hy
    obtain ⟨n, v⟩ := y
    rcases S.par n (List.of_mem_zip hy).1 with q | q
    · exact .inl q
    · exact .inr ⟨q, PySem.W.cellsFrom_some _ _ _ (.inl q)⟩
  refine codeAny_call_function hr.depth (KX _ _ lk) rfl S.co S.gen rfl (PySem.W.codeRec_of KX hcd) (hb _ _ _ _ ?_)
  refine wpAny_newFunctionEnv_cells S.kind par fun env he s1 ic => ?_
  subst he
  refine ⟨(e0.mod.nolimit.keeps old).keeps ic.toInCall.keep, codeAny_func ?_⟩
  obtain ⟨t, ht, hq⟩ := hbody cdv A outer s H vs Q E gd (hr.deeper _) hsp
  have I := inv_start (CX := CX) (E := E) S hr.hd e0 (len _ _ _ _ hsp) r ic
  refine wpAny_mono (ht.run [] s1 _ H _ I hq) (fun fl s' hs => ?_) fun _ _ z => z
  match fl, hs with
  | .ret u, ⟨v, σ', H', J, rv, q⟩ => exact ⟨v, H', J.os, J.bare, J.base, J.hok, rv, q⟩
  | .next, ⟨σ', H', J, q⟩ => exact ⟨V.non, H', J.os, J.bare, J.base, J.hok, rfl, q⟩
  | .brk, ⟨_, _, _, q⟩ => exact q.elim
  | .cont, ⟨_, _, _, q⟩ => exact q.elim
/-- .. one that lets nothing out -/
theorem okG0 {x qual : Str} {st : Stmt} {f : Addr} {fd : FuncData} {N ps : List Str} {k : Nat} {sp : Sp} (F : Fun K x qual st f fd)
    (S : FnScope N ps (defScope st)) (len : ∀ vs H Q E, sp vs H Q E → vs.length = ps.length)
    (hbody : ∀ (cdv : Value) (A : Around) (outer : List Env) (s : Shared) (H : Hp) (vs : List V) (Q : VK) (E : XK), A.guards = some [] →
      Room k (A.deeper (envOfC qual (defScope st) s.heap.objs.size f cdv)) → sp vs H Q E →
      ∃ t, PSs (cxOf CX0 P w K mg base N qual (defScope st) f cdv A outer s H E).nox (defBody st) t ∧
        t { nx := fun _ H' => Q .non H', rt := Q } (start N vs) H) : FnG P w K mg base CX0 (k + 1) f fd ps sp :=
  okG F S len fun cdv A outer s H vs Q E gd hr hsp => by
    obtain ⟨t, h, q⟩ := hbody cdv A outer s H vs Q E gd hr hsp
    exact ⟨t, h.nox, q⟩
end
end L2.Vx

set_option Elab.async false
set_option linter.all false
set_option maxRecDepth 100000
set_option maxHeartbeats 2000000
namespace L2.Vx
open PySem PySem.Spec PyProof.Rows

/-- the end of a law whose def is told the guards -/
theorem law_callG {P : Program} {w : World} {K : PySem.W.Frag} {mg mb : Str → Option Value} {CX : CXT} {k : Nat} {fa a : Addr} {fd : FuncData} {x : Str} {sp : Sp}
    {s₁ : Shared} {vs : List Value} {ns : List Int}
    (KX : K.In s₁.heap) (hns : s₁.heap.Ns mainGlobals mg) (hb : s₁.heap.Ns builtinsNs mb) (hbb : ∀ x : Str, x ≠ "__name__" → mb x = bootBuiltins x)
    (hlim : s₁.heap.NoLimit) (hg : s₁.gens = #[]) (ha : s₁.heap.get? a = some { cls := .type "list", data := .seq vs.toArray }) (hi : IntsAre vs ns)
    (hl : ns.length ≤ sizeLine) (hr : Room k callerA)
    (F : ∀ base : Heap, K.In base → base.Ns mainGlobals mg → FnG P w K mg base CX k fa fd [x] sp)
    (hbind : ∀ (s : Shared) (u : Value), BindsTo s fd ⟨[u], []⟩ [(x, u)])
    (hsp : ∀ H : Hp, Only H → SqL K H a (ns.map V.int) → sp [.ref a] H (fun v _ => v = .bl true) fun _ _ _ => False)
    (hCX : ∀ H e s', CX [] H s₁ (fun _ _ _ => False) e s' → False) :
    codeAny (model P w) callerA (.call (.ref fa) ⟨[.ref a], []⟩)
      (fun r s' => r = .ok (.ret (.bool true)) ∧ OldK s₁.heap s'.heap ∧ s'.os = s₁.os ∧ AllBare s'.gens) s₁ := by
  have lenV := hi.length
  have rv := vals_ints hi
  -- whatever of the script is tracked
  have any : ∀ H : Hp, Only H → SqL K H a (ns.map V.int) → HOk P w H s₁.heap → (∀ b u, H b = some u → b = a) → (∀ u, H a = some u → K.lookup a = none) →
      codeAny (model P w) callerA (.call (.ref fa) ⟨[.ref a], []⟩)
        (fun r s' => r = .ok (.ret (.bool true)) ∧ OldK s₁.heap s'.heap ∧ s'.os = s₁.os ∧ AllBare s'.gens) s₁ := by
    intro H hO hS hok only free
    have stays : ∀ {b : Addr} {o : Obj}, s₁.heap.get? b = some o → (∀ u, H b = some u → False) → (hidT s₁.heap H).get? b = some o := by
      intro b o e n
      refine hidT_get e ?_
      cases q : H b with
      | none => rfl
      | some u => exact (n u q).elim
    have dictStays : ∀ {b : Addr} {o : Obj} {es : Array DictEntry} {ep : Nat}, s₁.heap.get? b = some o → o.data = .dict es ep → (hidT s₁.heap H).get? b = some o := by
      intro b o es ep e d
      refine stays e fun u q => ?_
      have eb := only b u q
      subst eb
      rw [ha] at e
      cases e
      cases d
    have ns' : ∀ {b : Addr} {m : Str → Option Value}, s₁.heap.Ns b m → (hidT s₁.heap H).Ns b m := by
      intro b m h
      obtain ⟨o, es, ep, e, d, r⟩ := h
      exact ⟨o, es, ep, dictStays e d, d, r⟩
    have KB : K.In (hidT s₁.heap H) := by
      intro b o e
      refine stays (KX b o e) fun u q => ?_
      have eb := only b u q
      subst eb
      rw [free u q] at e
      cases e
    have M : Mod K mg (hidT s₁.heap H) := by
      obtain ⟨mc, h1, h2⟩ := hlim
      exact ⟨KB, ns' hns, ⟨mb, ns' hb, hbb⟩, ⟨mc, ns' h1, h2⟩⟩
    have e0 : Env0 P w K mg (hidT s₁.heap H) callerA [] s₁ H :=
      { frames := rfl, mod := M, bs := fun b o e => of_hidT e, bsz := Nat.le_of_eq (hidT_size _ _), funs := trivial, frf := fun b z => (by cases z), hok := hok, bare := .of_eq hg }
    have run := (F _ KB (ns' hns)).run callerA [] s₁ H ⟨[.ref a], []⟩ [.ref a] [.ref a] _ _ rfl hr e0 (hbind s₁ (.ref a)) (.cons rfl .nil) (hsp H hO hS)
    refine codeAny_mono run fun r s' h => ?_
    match r, h with
    | .error e, h => exact (hCX H e s' h).elim
    | .ok .next, h => exact h.elim
    | .ok .brk, h => exact h.elim
    | .ok .cont, h => exact h.elim
    | .ok (.ret u), ⟨v, H', os, bare, un, hok', r', q⟩ =>
      obtain rfl : v = .bl true := q
      obtain rfl : u = Value.bool true := r'
      refine ⟨rfl, OldK.of_keep fun b o e => ?_, os, bare⟩
      rcases hO b with z | ⟨ob, xs, z⟩
      · exact un.keep b o e z (fun z => by cases z) (fun z => by cases z)
      · obtain ⟨e1, _⟩ := hok b _ z
        obtain ⟨e2, _⟩ := hok' b _ (un.frzs b ob _ z)
        rw [e] at e1
        cases e1
        exact e2
  cases hk : K.lookup a with
  | some o =>
    have e := KX a o hk
    rw [ha] at e
    cases e
    refine any (fun _ => none) (fun _ => .inl rfl) (.inr ⟨_, vs.toArray, _, hk, rfl, rfl, rfl, ?_, by simpa using rv⟩) (fun b u z => by cases z) (fun b u z => by cases z) (fun u z => by cases z)
    rw [List.size_toArray, lenV]
    exact hl
  | none =>
    refine any (fun b => if b = a then some (.frz { cls := .type "list", data := .seq vs.toArray } (.lst (ns.map V.int))) else none) (fun b => ?_)
      (.inl (.inr ⟨{ cls := .type "list", data := .seq vs.toArray }, if_pos rfl⟩)) (fun b u z => ?_) (fun b u z => ?_) (fun _ _ => hk)
    · by_cases q : b = a
      · exact .inr ⟨_, _, if_pos q⟩
      · exact .inl (if_neg q)
    · by_cases q : b = a
      · subst q
        have z := (if_pos rfl).symm.trans z
        cases z
        exact ⟨ha, by rw [List.length_map]; exact hl, vs, _, rv, ha⟩
      · have z := (if_neg q).symm.trans z
        cases z
    · by_cases q : b = a
      · exact q
      · have z := (if_neg q).symm.trans z
        cases z
theorem walk_ofG {l : PySem.W.OpenLaw} {n k : Nat} {q : Program} {loose : List Str} {XP : (Str → Option Value) → Heap → Prop} {YP : World → Heap → Prop} {d : DefRec}
    {K : Params → PySem.W.Frag} {CX : World → CXT} {sp : World → Sp} {x : Str}
    (hn : l.most = some n) (hn2 : n ≤ sizeLine) (hdf : d.params.defaults = []) (hr : Room k callerA) (hY : ∀ (w : World) (h : Heap), YP w h → (K w.params).In h)
    (F : ∀ (w : World) (mg : Str → Option Value) (fa : Addr) (h : Heap), (K w.params).In h → h.Ns mainGlobals mg → mg d.name = some (.ref fa) →
      ∃ fd : FuncData, (∀ (s : Shared) (u : Value), BindsTo s fd ⟨[u], []⟩ [(x, u)]) ∧
        ∀ base : Heap, (K w.params).In base → base.Ns mainGlobals mg → FnG l.prog w (K w.params) mg base (CX w) k fa fd [x] (sp w))
    (hsp : ∀ (w : World) (H : Hp) (a : Addr) (ns : List Int), ns.length ≤ n → Only H → SqL (K w.params) H a (ns.map V.int) →
      sp w [.ref a] H (fun v _ => v = .bl true) fun _ _ _ => False)
    (hCX : ∀ (w : World) (H : Hp) (s : Shared) (e : Value) (s' : Shared), CX w [] H s (fun _ _ _ => False) e s' → False) :
    PySem.W.WalkO q loose XP YP l.row.toRowW d [] (fun f vs => PySem.call f vs) := by
  refine Att.attach_call hn hdf fun w s₀ s₁ mg mb fa o pm cd doc a vs ns G Y ho hd hcd hmg hobj hints hlen hg => ?_
  have KX := hY w _ Y
  obtain ⟨fd, hb, hF⟩ := F w mg fa _ KX G.T.g hmg
  refine law_callG KX G.T.g G.T.b G.T.builtins G.T.nolimit hg hobj hints (Nat.le_trans hlen hn2) hr hF hb (fun H hO hS => ?_) fun H e s' => hCX w H s₁ e s'
  exact hsp w H a ns hlen hO hS
end L2.Vx

set_option Elab.async false
set_option linter.all false
set_option maxRecDepth 100000
set_option maxHeartbeats 2000000
namespace L2.Vx
open PySem PySem.Spec PyProof.Rows
open PySem.W (Frag)

/-! ### the facts of an error class as one Bool -/
/-- the class object itself -/
def ecB (K : Frag) (C : Addr) : Bool := match K.lookup C with
  | some ⟨.type t, _, .cls cd, sl⟩ => decide (t = "type") && (match cd.mro, sl.toList with
    | .ref D :: bm, [_, _, _, _, some (.builtin n), _] => decide (D = C) && (decide (n = "ValueError.__new__") && (!cd.hasDel && (PySem.HandSPX.refsVE bm && cd.hasDict)))
    | _, _ => false)
  | _ => false
theorem ec_ok {K : Frag} {C : Addr} (h : ecB K C = true) : ∃ nm q N bs bm sn sub ab col dd k0 k1 k2 k3 k5,
    K.lookup C = some (excClassObj nm q C N bs bm true sn sub ab col dd k0 k1 k2 k3 k5 "ValueError.__new__") ∧ PySem.HandSPX.refsVE bm = true := by
  unfold ecB at h
  split at h
  · rename_i t dd cd sl ho
    obtain ⟨h0, h⟩ := Bool.and_eq_true_iff.mp h
    split at h
    · rename_i D bm k0 k1 k2 k3 n k5 hm hs
      obtain ⟨h1, h⟩ := Bool.and_eq_true_iff.mp h
      obtain ⟨h2, h⟩ := Bool.and_eq_true_iff.mp h
      obtain ⟨h3, h⟩ := Bool.and_eq_true_iff.mp h
      obtain ⟨h4, h5⟩ := Bool.and_eq_true_iff.mp h
      have e0 := of_decide_eq_true h0
      have e1 := of_decide_eq_true h1
      have e2 := of_decide_eq_true h2
      obtain ⟨nm, bs, mro, ns, qn, hd, sn, sub, ab, col, del⟩ := cd
      dsimp only at hm h3 h4 h5
      have h3' : del = false := by simpa using h3
      subst hm h3' h5 e0 e1 e2
      have hsl : sl = #[k0, k1, k2, k3, some (.builtin "ValueError.__new__"), k5] := by
        rw [← hs]
      subst hsl
      exact ⟨nm, qn, ns, bs, bm, sn, sub, ab, col, dd, k0, k1, k2, k3, k5, ho, h4⟩
    · cases h
  · cases h
def eqV1 (a b : Option (Option Value)) : Bool := decide (a = b)
def errB (K : Frag) (C fI : Addr) : Bool :=
  ecB K C && (eqV1 (PySem.W.findIn K (.ref C) "__setattr__") (some (some (.builtin "object.__setattr__"))) &&
  (eqV1 (PySem.W.findIn K (.ref C) "__getattribute__") (some (some (.builtin "BaseException.__getattribute__"))) &&
  (eqV1 (PySem.W.findIn K (.ref C) "__getattr__") (some none) && (eqV1 (PySem.W.findIn K (.ref C) "value") (some none) &&
  (eqV1 (PySem.W.findIn K (.ref C) "__init__") (some (some (.ref fI))) && (decide (PySem.W.typeIn K (.ref fI) = some (.type "function")) &&
  (PySem.W.keepIn K (.ref C) && (decide (PySem.W.subIn K (.ref C) (.type "BaseException") = some true) &&
  (decide (PySem.W.typeIn K (.ref C) = some (.type "type")) && (PySem.W.hasDictIn K C && ((PySem.W.clsIn K C).isSome &&
  (eqV1 (PySem.W.findIn K (.ref C) "__class__") (some (some (.builtin "object.__class__"))) &&
  (eqV1 (PySem.W.specialIn K (.builtin "object.__class__") "__get__") (some (some (.builtin "getset_descriptor.__get__"))) &&
  (decide (PySem.W.takesIn K (.builtin "object.__class__") = some true) && decide (PySem.W.mroIn K C (.type "object") = some true)))))))))))))))
/-- the own __init__ of all of them -/
def InitF (K : Frag) (fI : Addr) : Prop := ∃ (oc : Value) (od : Option Addr) (kV doc pm : Value) (an : Option Addr) (cdv ct : Value)
  (osl : Array (Option Value)) (p1 p2 q1 q2 q3 q4 : Pos), K.lookup fI = some ⟨oc, od, .func (PySem.W.fnOf "__init__" "DrawError.__init__"
    (PySem.DrX.iA p1 p2) (PySem.DrX.iB q1 q2 q3 q4) PySem.DrX.iS .none kV doc pm an cdv ct), osl⟩ ∧ PySem.W.codeIn K cdv "DrawError.__init__" = true
theorem err_ok {K : Frag} {C fI : Addr} (h : errB K C fI = true) (fn : InitF K fI) : ErrT K C fI := by
  have ba := @Bool.and_eq_true_iff
  obtain ⟨h1, h⟩ := ba.mp h
  obtain ⟨h2, h⟩ := ba.mp h
  obtain ⟨h3, h⟩ := ba.mp h
  obtain ⟨h4, h⟩ := ba.mp h
  obtain ⟨h5, h⟩ := ba.mp h
  obtain ⟨h6, h⟩ := ba.mp h
  obtain ⟨h7, h⟩ := ba.mp h
  obtain ⟨h8, h⟩ := ba.mp h
  obtain ⟨h9, h⟩ := ba.mp h
  obtain ⟨h10, h⟩ := ba.mp h
  obtain ⟨h11, h⟩ := ba.mp h
  obtain ⟨h12, h⟩ := ba.mp h
  obtain ⟨h13, h⟩ := ba.mp h
  obtain ⟨h14, h⟩ := ba.mp h
  obtain ⟨h15, h16⟩ := ba.mp h
  exact { cls := ec_ok h1, sa := of_decide_eq_true h2, ga := of_decide_eq_true h3, gg := of_decide_eq_true h4, noN := of_decide_eq_true h5,
          iC := of_decide_eq_true h6, tC := of_decide_eq_true h7, kC := h8, exC := of_decide_eq_true h9, tyC := of_decide_eq_true h10, hdC := h11,
          cls' := h12, ha := of_decide_eq_true h13, hn := of_decide_eq_true h14, ht := of_decide_eq_true h15, hm := of_decide_eq_true h16, fn := fn }
/-! ### a reading, one step -/
section
variable {t u : TS} {D : Ends} {σ : St} {H : Hp} {te tv : TE} {ta : TA} {g : TG} {Q : VK} {c : TT}
theorem rd_seq (h : t { D with nx := u D } σ H) : tSeq t u D σ H := h
theorem rd_asg (h : te σ H fun x H1 => g x σ H1 D.nx) : tAsg te g D σ H := h
theorem rd_set {i : Nat} (h : te σ H fun x H1 => D.nx (σ.set i (some x)) H1) : tAsg te (gName i) D σ H := h
theorem rd_lst (h : ta σ H fun xs H1 => xs.length ≤ sizeLine ∧ ∀ p, H1 p = none → Q (.ref p) (upd H1 p (.lst xs))) : tLst ta σ H Q := h
theorem rd_tup (h : ta σ H fun xs H1 => xs.length ≤ sizeLine ∧ ∀ p, H1 p = none → Q (.ref p) (upd H1 p (.tup xs))) : tTup ta σ H Q := h
theorem rd_yes {F : Bool → Hp → Prop} {A B : Prop} (e : F true H = if true = true then A else B) (h : A) : tYes σ H F := by
  show F true H
  rw [e, if_pos rfl]
  exact h
theorem rd_drop (h : te σ H fun _ H1 => D.nx σ H1) : tDrop te D σ H := h
theorem rd_ret (h : te σ H D.rt) : tRet te D σ H := h
theorem rd_if (h : c σ H fun b H1 => if b = true then t D σ H1 else u D σ H1) : tIfS c t u D σ H := h
theorem rd_cons {tr : TA} {Q : List V → Hp → Prop} (h : te σ H fun x H1 => tr σ H1 fun xs H2 => Q (x :: xs) H2) : tCons te tr σ H Q := h
theorem rd_op {r : R2} {tb : TE} (h : te σ H fun x H1 => tb σ H1 fun y H2 => r x y H2 Q) : tOp r te tb σ H Q := h
theorem rd_cb {r : List V → Hp → VK → Prop} (h : ta σ H fun vs H1 => r vs H1 Q) : tCB r ta σ H Q := h
theorem rd_bm {K : PySem.W.Frag} {T : String} {r : V → List V → Hp → VK → Prop} (h : te σ H fun x H1 => tyV K T x H1 ∧ ta σ H1 fun xs H2 => r x xs H2 Q) : tBM K T r te ta σ H Q := h
end
/-- a class, a def as a value -/
theorem pe_ref {X : Cx} {x : Str} {a : Addr} {pos : Pos} (hm : X.mg x = some (.ref a)) (hg : Gl X x := by rfl) (hd : (x == ("__debug__" : Str)) = false := by decide) :
    PE X (.Name x pos) (tC (.ref a)) := pe_glob hg hm rfl hd
theorem same_new {H : Hp} {p : Addr} {o : HO} (h : H p = none) : Same H (upd H p o) := fun b u e => by
  rw [upd_ne (ne_of_none e h)]
  exact e
/-- what did not stand before may change -/
theorem _root_.L2.Same.mut {H H' : Hp} {p : Addr} {o : HO} (e : Same H H') (h : H p = none) : Same H (upd H' p o) := fun b u q => by
  rw [upd_ne (ne_of_none q h)]
  exact e _ _ q
end L2.Vx

set_option Elab.async false
set_option linter.all false
set_option maxRecDepth 100000
set_option maxHeartbeats 2000000
namespace L2.Vx
open PySem PySem.Spec PyProof.Rows

section
variable {X : Cx} {pins : List (Addr × Obj)} {σ : St} {H : Hp} {s : Shared}
/-- a pinned exception, new since the entry, is tracked from now on -/
theorem inv_track {a : Addr} {oe : Obj} {vs : Array Value} {cls : Value} {d : Option Addr} (I : Inv X ((a, oe) :: pins) σ H s)
    (new : X.s_0.heap.get? a = none) (hz : Zc cls d oe) (hd : oe.data = .fields vs) (ap : ∀ p ∈ X.pn ++ pins, p.1 ≠ a) :
    Inv X pins σ (upd H a (EX a cls d)) s := by
  obtain ⟨ha, na, nL, nF, ncell⟩ := I.pin (a, oe) (List.mem_append_right _ List.mem_cons_self)
  have off : ∀ {b : Addr} {o : Obj}, X.s_0.heap.get? b = some o → b ≠ a := fun {b o} e z => by
    rw [z, new] at e
    cases e
  have low : ∀ {b : Addr} {u : HO}, H b = some u → upd H a (EX a cls d) b = some u := fun {b u} e => by
    rw [upd_ne (ne_of_none e na)]
    exact e
  have pin' : ∀ p ∈ X.pn ++ pins, p ∈ X.pn ++ (a, oe) :: pins := fun p hp => by
    rcases List.mem_append.mp hp with m | m
    · exact List.mem_append_left _ m
    · exact List.mem_append_right _ (List.mem_cons_of_mem _ m)
  refine ⟨I.ok, I.os, I.bare, ⟨I.base.keep, I.base.slot, fun b o e n hx => ?_, I.base.there, fun b xs q => low (I.base.tups b xs q), fun b o u q => low (I.base.frzs b o u q), fun b ps q => ?_⟩, I.loc, I.cell, ?_, fun x c e => ?_, fun p hp => ?_, I.hok.laidN (fun _ _ e => e) na (ex_ok ha hz hd), I.len⟩
  · rw [upd_ne (off e)]
    exact I.base.free b o e n hx
  · obtain ⟨more, q'⟩ := I.base.tbls b ps q
    exact ⟨more, low q'⟩
  · rw [upd_ne (Ne.symm nL)]
    exact I.free
  · have hc : c ≠ a := fun z => by
      obtain ⟨v, o, e1, e2⟩ := I.cell x c e
      rw [z, show s.heap.get? a = some oe from ha] at e1
      cases e1
      exact ncell _ e2
    rw [upd_ne hc]
    exact I.freeC x c e
  · obtain ⟨e1, e2, e3, e4, e5⟩ := I.pin p (pin' p hp)
    exact ⟨e1, by rw [upd_ne (ap p hp)]; exact e2, e3, e4, e5⟩
end

/-- what 'except x as n: m = n' wishes of an exception of the body: slot i is n's, j is m's -/
def wHold (K : PySem.W.Frag) (c : Value) (i j : Nat) (Wout : WX) (D : Ends) : WX := fun cls d σ H =>
  ∃ b, PySem.W.exmOne K cls c = some b ∧ (b = true → ∀ a, H a = none → D.nx (((σ.set i (some (.ref a))).set j (some (.ref a))).set i none) (upd H a (EX a cls d))) ∧
    (b = false → Wout cls d σ H)
section
variable {X : Cx} {x n m : Str} {c : Value} {i j : Nat} {body : List Stmt} {np pos pos' q1 q2 q3 : Pos} {tb : WX → TS} {Wout : WX}
theorem ps_try_hold (hs : X.stack = X.env :: X.outer) (hf : X.env.frame = some X.env.locals) (hex : X.ex = []) (hN : X.N.Nodup) (hi : X.N[i]? = some n) (hj : X.N[j]? = some m)
    (hln : X.env.kindOf n = some .local) (hlm : X.env.kindOf m = some .local) (hc : Names X x c) (tk : Takes X Wout) (hdn : (n == ("__debug__" : Str)) = false := by decide) (hdc : (n == ("__classdict__" : Str)) = false := by decide)
    (hb : ∀ (W : WX) (pn : List (Addr × Obj)) (xe : Value → Shared → Prop), Takes (X.tr pn xe) W → PassesOwn (model X.prog X.w) X.A X.env xe → PSs (X.tr pn xe) body (tb W))
    (hsw : ∀ (a : Addr) (pn : List (Addr × Obj)), swapsWith (.Name n q2) (some (.Name m q1)) q3.line (X.suite a pn).env = pure false := by intro _ _; rfl) :
    PS X (.Try body [.ExceptHandler (some (.Name x np)) (some n) [.Assign [.Name m q1] (.Name n q2) q3] pos'] [] [] pos) (fun D σ H => tb (wHold X.K c i j Wout D) D σ H) := by
  refine ⟨fun pins s σ H D I h => ?_⟩
  have ok := I.ok
  have hfr : X.A.frames = some (X.env :: X.outer) := ok.frames.trans (congrArg some hs)
  have hloc : Loc X.env.scope n := .inl hln
  have hlom : Loc X.env.scope m := .inl hlm
  refine wpAny_Try_except ?_
  let hs_ : List ExceptHandler := [.ExceptHandler (some (.Name x np)) (some n) [.Assign [.Name m q1] (.Name n q2) q3] pos']
  let xe' : Value → Shared → Prop := fun e s₁ => wpAny (model X.prog X.w) X.A (noteFrame e X.env) (fun _ s₂ => wpAny (model X.prog X.w) X.A (setFlight e none) (fun _ s₃ =>
    wpAny (model X.prog X.w) X.A (handleBy e X.env hs_) (SP X pins D) X.xe s₃) X.xe s₂) X.xe s₁
  have hbody := hb (wHold X.K c i j Wout D) (X.pn ++ pins) xe' (fun u s' xx => ?_) PassesOwn.looking
  · refine wpAny_mono (hbody.run [] s σ H D (I.toTry _) h) (fun f s1 hsp => ?_) (fun e s1 he => he)
    match f, hsp with
    | .next, ⟨σ', H', J', q⟩ => exact wpAny_execs_nil ⟨σ', H', J'.ofTry ok, q⟩
    | .brk, ⟨σ', H', J', q⟩ => exact ⟨σ', H', J'.ofTry ok, q⟩
    | .cont, ⟨σ', H', J', q⟩ => exact ⟨σ', H', J'.ofTry ok, q⟩
    | .ret u, ⟨v, σ', H', J', r, q⟩ => exact ⟨v, σ', H', J'.ofTry ok, r, q⟩
  · -- caught
    obtain ⟨a, B, sI, pins', σ', H', cls, d, rfl, J', nb, up, sky, na, os, ag, b, hb1, hyes, hno⟩ := xx
    have J : Inv X pins σ' H' sI := J'.ofTry ok
    rw [hs] at sky
    show wpAny (model X.prog X.w) X.A (noteFrame (.ref a) X.env) _ _ _
    refine Sky.land Zc.steady hfr hf sky fun h3 fl3 up3 => ?_
    have J3 : Inv X pins σ' H' { s' with heap := h3 } := J.landed nb fl3.1 (up.trans up3) os ag
    obtain ⟨oe3, vs3, he3, hz3, hd3⟩ := fl3.there
    have nfr : a ∉ frs (X.env :: X.outer) := fun hm => by
      obtain ⟨_, o', e', hnf⟩ := fl3.2.2.1.mem hm
      rw [he3] at e'
      cases e'
      exact hnf _ hd3
    have nL : a ≠ X.env.locals := fun z => nfr (List.mem_filterMap.mpr ⟨X.env, List.mem_cons_self, hf.trans (congrArg some z.symm)⟩)
    have nF : a ∉ X.fs := fun hm => by
      obtain ⟨e, he, q⟩ := List.mem_filterMap.mp hm
      exact nfr (List.mem_filterMap.mpr ⟨e, List.mem_cons_of_mem _ he, q⟩)
    -- the exception is new
    have outI : sI.heap.get? a = none := by
      cases q : sI.heap.get? a with
      | none => rfl
      | some o =>
        have z := nb a o q (by rw [hs]; exact nfr)
        rw [fl3.2.1] at z
        cases z
    have new : X.s_0.heap.get? a = none := by
      cases q : X.s_0.heap.get? a with
      | none => rfl
      | some o =>
        obtain ⟨o', z⟩ := J.base.there a o q (by rw [hex]; simp)
        rw [outI] at z
        cases z
    have apart : ∀ p ∈ X.pn ++ pins, p.1 ≠ a := fun p hp z => by
      have q := (J.pin p hp).1
      rw [z, outI] at q
      cases q
    have S3 := J3.suite he3 hd3 na nL nF
    refine wpAny_handleBy_cons (codeAny_handlers_test ?_) (by intro q; cases q)
    have LT : PySem.W.Looks (model X.prog X.w) h3 (typeOf (.ref a)) cls := fun A Q E s k q => wpAny_typeOf_ref (k _ _ he3) (by rw [hz3.1]; exact q)
    have LM := PySem.W.exm_one (M := model X.prog X.w) J3.kIn LT hb1
    have test : ∀ {Q : Value → Shared → Prop} {E : Value → Shared → Prop}, Q c { s' with heap := h3 } →
        wpAny (model X.prog X.w) (X.A.mark (some (.ref a))) (eval (.Name x np) X.env) Q E { s' with heap := h3 } := by
      intro Q E q
      obtain ⟨hg, hdbg, hm | ⟨hm, hv, hnn⟩⟩ := hc
      · exact ld_glob (X := X.suite a ((a, oe3) :: (X.pn ++ pins))) S3 hg hm q hdbg
      · exact ld_blt (X := X.suite a ((a, oe3) :: (X.pn ++ pins))) S3 hg hm hv q hnn hdbg
    refine test (LM.here ?_)
    cases b with
    | true =>
      refine codeAny_handlers_suite_as ?_
      refine HandSPX.lands_againZ fl3 fun h4 fl4 up4 => ?_
      have J4 : Inv X pins σ' H' { s' with heap := h4 } := J.landed nb fl4.1 ((up.trans up3).trans up4) os ag
      obtain ⟨oe4, vs4, he4, hz4, hd4⟩ := fl4.there
      have S4 := J4.suite he4 hd4 na nL nF
      refine store_ok (X := X.suite a ((a, oe4) :: (X.pn ++ pins))) (v := .ref a) S4 hN hi hloc rfl (fun s5 S5 => ?_) (.inr hln)
      have li : i < σ'.length := by
        rw [J.len]
        exact (List.getElem?_eq_some_iff.mp hi).1
      have asg : PSs (X.suite a ((a, oe4) :: (X.pn ++ pins))) [.Assign [.Name m q1] (.Name n q2) q3] (tAsg (tVar i) (gName j)) :=
        pss_one (ps_set hN hj hlom (pe_var hi (.inl hln) hdn hdc) (hsw a _) (.inr hlm))
      refine wpAny_mono (asg.run [] s5 _ H' { nx := fun σ6 H6 => σ6 = (σ'.set i (some (.ref a))).set j (some (.ref a)) ∧ H6 = H', rt := fun _ _ => False } S5 ?_) (fun f s6 hsp => ?_) (fun _ _ z => False.elim z)
      · exact ⟨.ref a, by rw [List.getElem?_set_self li], rfl, rfl⟩
      · match f, hsp with
        | .ret u, ⟨_, _, _, _, _, z⟩ => exact z.elim
        | .brk, ⟨_, _, _, z⟩ => exact z.elim
        | .cont, ⟨_, _, _, z⟩ => exact z.elim
        | .next, ⟨σ6, H6, S6, e6, eH⟩ =>
          subst e6
          subst eH
          have J6 : Inv X ((a, oe4) :: pins) ((σ'.set i (some (.ref a))).set j (some (.ref a))) H6 s6 :=
            ⟨ok, S6.os, S6.bare, S6.base, S6.loc, S6.cell, S6.free, S6.freeC, fun p hp => S6.pin p (by
              rw [List.append_nil]
              rcases List.mem_append.mp hp with q | q
              · exact List.mem_cons_of_mem _ (List.mem_append_left _ q)
              · rcases List.mem_cons.mp q with q | q
                · rw [q]; exact List.mem_cons_self
                · exact List.mem_cons_of_mem _ (List.mem_append_right _ q)), S6.hok, S6.len⟩
          refine gone_ok J6 hN hi hln fun s7 J7 => ⟨_, _, inv_track J7 new hz4 hd4 apart, hyes rfl a na⟩
    | false =>
      show wpAny _ X.A (handleBy (.ref a) X.env []) _ _ _
      refine wpAny_handleBy_nil ?_
      obtain ⟨k1, k2, k3, oe, vs, T, oT, ts', he, hz, hd, h1, hr⟩ := id fl3
      unfold PySem.passOn
      refine wpAny_bind (wpAny_field he hd h1 ?_)
      rw [if_neg (show ¬ ((Value.ref T == Value.none) = true) from by simp)]
      have fin : wpAny (model X.prog X.w) X.A (setFlight (.ref a) X.env.frame) (fun _ s4 => wpAny (model X.prog X.w) X.A (throw (.ref a) : Sem Flow) (SP X pins D) X.xe s4) X.xe { s' with heap := h3 } := by
        rw [hf]
        refine HandSPX.setFlight_upZ fl3 fun h4 hh4 up4 => wpAny_throw (tk _ _ ?_)
        exact ⟨a, B, sI, pins, σ', H', cls, d, rfl, J, nb, (up.trans up3).trans up4, .inr (.inr (by rw [hs]; exact hh4)), na, os, ag, hno rfl⟩
      first
        | exact wpAny_bind (wpAny_pure (wpAny_bind fin))
        | exact wpAny_bind fin
end
end L2.Vx

set_option Elab.async false
set_option linter.all false
set_option maxRecDepth 100000
set_option maxHeartbeats 2000000
namespace L2.Vx
open PySem PySem.Spec PyProof.Rows
open LamX (CodeO Tabs TabS TabB ExtN LamS lamEnv lamCx lam_make2 lam_start2 lamS_by)

section
variable {X : Cx} {pins : List (Addr × Obj)} {σ : St} {H : Hp} {s : Shared}
/-- the call of a lambda that was handed in, what it raises being wished for at the slots as they stand -/
theorem pe_act2 {CXg : CXT} {Eg : XK} {Ng : List Str} {qg : Str} {sg : Scope} {g f c' : Addr} {cdg pm ctv : Value} {params : Arguments} {body : Expr} {scope : Scope} {k i : Nat} {a : Str}
    {pn : List (Addr × Obj)} {xe : Value → Shared → Prop} {W : WX} {E : XK} {tb : TE} {p1 p2 : Pos}
    (I : Inv X pins σ H s) (L : LamS X.env.scope scope)
    (hf : s.heap.get? f = some (PySem.W.kla_obj "<lambda>" (X.env.qual ++ "<lambda>") params body scope (cloFrom X.env.cells scope.names []) pm c' ctv)) (hfn : H f = none) (hfr : f ∉ frs X.stack)
    (hbind : bindArgs (PySem.W.kla_fn "<lambda>" (X.env.qual ++ "<lambda>") params body scope (cloFrom X.env.cells scope.names []) pm (.ref c') ctv) ⟨[], []⟩ = pure [])
    (tk : Takes ((cxOf CXg X.prog X.w X.K X.mg X.base Ng qg sg g cdg X.A X.stack s H Eg).tr pn xe) W) (hr : Room (k + 1) (X.A.deeper (envOfC qg sg s.heap.objs.size g cdg)))
    (hbody : ∀ (A : Around) (outer : List Env) (s : Shared) (H : Hp), Room k (A.deeper (lamEnv X scope s.heap.objs.size f c')) → PE (lamCx X A outer s H E scope f c') body tb)
    (hN : Ng[i]? = some a) (hv : Vis sg a) (hd : (a == ("__debug__" : Str)) = false := by decide) (hcd : (a == ("__classdict__" : Str)) = false := by decide) :
    PE ((cxOf CXg X.prog X.w X.K X.mg X.base Ng qg sg g cdg X.A X.stack s H Eg).tr pn xe) (.Call (.Name a p1) [] [] p2)
      (fun σZ HZ Q => (∀ cls d H', E cls d H' → W cls d σZ H') ∧ σZ[i]? = some (some (.ref f)) ∧ HZ c' = some (CodeO c' (X.env.qual ++ "<lambda>")) ∧ tb σ HZ Q) := by
  refine ⟨fun pinsZ sZ σZ HZ Q IZ h => ?_⟩
  obtain ⟨hW, hs, hc, ht⟩ := h
  have rd := (pe_var (pos := p1) (i := i) hN hv hd hcd).run pinsZ sZ σZ HZ (fun v H1 => v = .ref f ∧ H1 = HZ) IZ ⟨.ref f, hs, rfl, rfl⟩
  refine wpAny_Call_Name_kw (thn rd fun u s1 q0 => ?_)
  obtain ⟨v, H1, I1, r1, ev, eH⟩ := q0
  subst ev
  subst eH
  obtain rfl : u = Value.ref f := r1
  have of1 := I1.base.keep f _ hf hfn hfr (fun z => nomatch (show f ∈ ([] : List Addr) from z))
  refine PySem.W.callWith_F0 ⟨_, _, _, _, of1⟩ ?_
  obtain ⟨⟨oc, vs, t, hoc, hdc, hvc⟩, _, _⟩ := I1.hok c' _ hc
  have rc : codeAny (model X.prog X.w) (X.A.deeper (envOfC qg sg s.heap.objs.size g cdg)) (.call (.ref f) ⟨[], []⟩)
      (CR (L2.CX X.prog X.w) (envOfC qg sg s.heap.objs.size g cdg :: X.stack) X.prog X.w H1 s1 Q E) s1 := by
    refine PySem.W.kla_callFunE hr.depth of1 rfl L.co L.gen rfl ⟨c', oc, vs, t, rfl, hoc, hdc, hvc⟩ ?_
    rw [hbind]
    refine wpAny_pure (wpAny_newFunctionEnv (fun y hy => (L.own y hy).2) (fun y hy => absurd hy (by simp)) (fun h₁ hns hsb => ⟨I1.nolimit.fresh _ hsb, ?_⟩) L.kind)
    show codeAny _ _ (.expr body (lamEnv X scope s1.heap.objs.size f c')) _ _
    have kp : ∀ b o, s1.heap.get? b = some o → h₁.get? b = some o := fun b o e => hsb.extBut b o (Nat.ne_of_lt (Heap.lt_size e)) (Heap.get?_push_of_some _ e)
    have J := lam_start2 (E := E) (f := f) (c' := c') (tk := s1.toks + ([] : List (Str × Value)).length) I L I1.env0 hr.hd I1.base hns kp
    refine PySem.W.kla_codeExpr (wpAny_mono ((hbody _ _ s1 H1 (hr.deeper _)).run [] _ _ H1 Q J ht) (fun v s' hq => ?_) fun e s' hq => hq)
    obtain ⟨w', H', J', rv, q⟩ := hq
    exact ⟨w', H', J'.os, J'.bare, J'.base, J'.hok, rv, q⟩
  refine wpAny_call (codeAny_mono rc fun r s' hq => ?_)
  match r, hq with
  | .error e, hq => exact tk e s' (XE.of_call I1 (fun cls d H' z => hW cls d H' z) hq)
  | .ok (.ret u), hq => exact I1.after hq
  | .ok .next, hq => exact hq.elim
  | .ok .brk, hq => exact hq.elim
  | .ok .cont, hq => exact hq.elim
end
/-- the def that calls what it got; TT: what it makes of the lambda's reading -/
def Gives (X : Cx) (Ng : List Str) (x : Str) (sg : Scope) (g : Addr) (cdg : Value) (bg : List Stmt) (a : Str) (q : Str) (TT : (XK → Hp → VK → Prop) → Hp → VK → Prop) : Prop :=
  ∀ (f c' : Addr) (s : Shared) (H : Hp) (Q : VK) (tl : XK → Hp → VK → Prop),
    (∀ (W : WX) (pn : List (Addr × Obj)) (xe : Value → Shared → Prop) (E : XK) (p1 p2 : Pos), Takes ((cxOf CX0 X.prog X.w X.K X.mg X.base Ng x sg g cdg X.A X.stack s H E0).tr pn xe) W →
      PE ((cxOf CX0 X.prog X.w X.K X.mg X.base Ng x sg g cdg X.A X.stack s H E0).tr pn xe) (.Call (.Name a p1) [] [] p2)
        (fun σZ HZ Q => (∀ cls d H', E cls d H' → W cls d σZ H') ∧ σZ[0]? = some (some (.ref f)) ∧ HZ c' = some (CodeO c' q) ∧ tl E HZ Q)) →
    H c' = some (CodeO c' q) → TT tl H Q →
    ∃ t, PSs (cxOf CX0 X.prog X.w X.K X.mg X.base Ng x sg g cdg X.A X.stack s H E0).nox bg t ∧ t { nx := fun _ H' => Q .non H', rt := Q } (start Ng [.ref f]) H
def tLam2 (T : List (Addr × Str)) (TT : (XK → Hp → VK → Prop) → Hp → VK → Prop) (t : XK → TE) : TE := fun σ H Q =>
  Tabs T H ∧ ∀ H1, ExtN H H1 → Tabs T H1 → TT (fun E H' Q' => t E σ H' Q') H1 Q
section
variable {X : Cx}
/-- x(lambda: body) -/
theorem pe_lam2 {T : List (Addr × Str)} {TT : (XK → Hp → VK → Prop) → Hp → VK → Prop} {x a : Str} {g c P : Addr} {k : Nat} {pg : Arguments} {bg : List Stmt} {sg : Scope} {dV kV doc pm cdv ct oc : Value} {an od : Option Addr} {osl : Array (Option Value)} {Ng : List Str}
    {params : Arguments} {body : Expr} {scope : Scope} {t : XK → TE} {p lpos pos : Pos} (hg : Gl X x) (hm : X.mg x = some (.ref g)) (hk : PySem.W.keepIn X.K (.ref g) = true)
    (lk : X.K.lookup g = some ⟨oc, od, .func (PySem.W.fnOf x x pg bg sg dV kV doc pm an cdv ct), osl⟩) (hcg : PySem.W.codeIn X.K cdv x = true)
    (hb : Binds X.K (PySem.W.fnOf x x pg bg sg dV kV doc pm an cdv ct) [a] []) (Sg : FnScope Ng [a] sg) (hNg : Ng[0]? = some a) (hva : Vis sg a)
    (hG : Gives X Ng x sg g cdv bg a (X.env.qual ++ "<lambda>") TT)
    (TB : TabB X.base X.mg c P) (hcode : X.env.code = .ref c) (hmT : (P, X.env.qual ++ "<lambda>") ∈ T) (hu : ∀ p ∈ T, p.1 = P → p.2 = X.env.qual ++ "<lambda>") (hr : Room (k + 2) X.A) (L : LamS X.env.scope scope) (hdef : defaultsOf params X.env = ([], []))
    (hbind : ∀ (q : Str) (cl : List (Str × Addr)) (pm cv ctv : Value), bindArgs (PySem.W.kla_fn "<lambda>" q params body scope cl pm cv ctv) ⟨[], []⟩ = pure [])
    (hbody : ∀ (A : Around) (outer : List Env) (s : Shared) (H : Hp) (E : XK) (f c' : Addr), Room k (A.deeper (lamEnv X scope s.heap.objs.size f c')) → PE (lamCx X A outer s H E scope f c') body (t E))
    (hdb : (x == ("__debug__" : Str)) = false := by decide) (hd : (a == ("__debug__" : Str)) = false := by decide) (hcd : (a == ("__classdict__" : Str)) = false := by decide) :
    PE X (.Call (.Name x p) [.Lambda params body scope lpos] [] pos) (tLam2 T TT t) := by
  refine ⟨fun pins s σ H Q I h => ?_⟩
  obtain ⟨hT, h⟩ := h
  refine wpAny_Call_Name_kw (ld_glob I hg hm ?_ hdb)
  refine PySem.W.callWith_K (h₀ := X.base) I.ok.mod.kin hk ?_ (by rfl) (by rfl)
  show wpAny _ _ (spliced ((false, eval (.Lambda params body scope lpos) X.env) :: backTo pos (starEach [] X.env))) _ _ s
  refine Calls.spliced_cons (lam_make2 I TB hcode hmT hu hT hdef (L.has I.ok) fun f c' pm' ctv H1 s' I1 eN T1 hf hfn hfr hco => ?_)
  refine Calls.spliced_nil ⟨I1.kIn, ?_⟩
  have rc : codeAny (model X.prog X.w) X.A (.call (.ref g) ⟨[.ref f], []⟩) (CR CX0 X.stack X.prog X.w H1 s' Q E0) s' := by
    refine LamX.run_ofS (N := Ng) (ps := [a]) (us := [.ref f]) (vs := [.ref f]) lk hcg Sg hr I1.env0 (hb s' [.ref f] I1.kIn rfl) (.cons rfl .nil) rfl fun hr' => ?_
    have act := fun (W : WX) (pn : List (Addr × Obj)) (xe : Value → Shared → Prop) (E : XK) (p1 p2 : Pos) (tk : Takes ((cxOf CX0 X.prog X.w X.K X.mg X.base Ng x sg g cdv X.A X.stack s' H1 E0).tr pn xe) W) =>
      pe_act2 (p1 := p1) (p2 := p2) (i := 0) I1 L hf hfn hfr (hbind _ _ _ _ _) tk hr' (fun A outer s H hr2 => hbody A outer s H E f c' hr2) hNg hva hd hcd
    obtain ⟨t', ht', hq'⟩ := hG f c' s' H1 Q (fun E H' Q' => t E σ H' Q') act hco (h H1 eN T1)
    exact ⟨t', ht'.nox, hq'⟩
  refine wpAny_call (codeAny_mono rc fun r s2 hq => ?_)
  match r, hq with
  | .error e, hq => exact (show False from hq).elim
  | .ok (.ret u), hq => exact I1.after hq
  | .ok .next, hq => exact hq.elim
  | .ok .brk, hq => exact hq.elim
  | .ok .cont, hq => exact hq.elim

/-- what is wished for may be weakened -/
theorem pe_weak {e : Expr} {t : TE} (h : PE X e t) : PE X e (fun σ H Q => ∃ R : VK, (∀ v H', R v H' → Q v H') ∧ t σ H R) := by
  refine ⟨fun pins s σ H Q I hh => ?_⟩
  obtain ⟨R, hR, ht⟩ := hh
  refine thn (h.run pins s σ H R I ht) fun u s1 hu => ?_
  obtain ⟨v, H1, I1, r1, q1⟩ := hu
  exact ⟨v, H1, I1, r1, hR v H1 q1⟩
/-! ### told: the error, or what came back -/
def toldN : List Str := ["look", "caught", "back", "error"]
def toldB (a1 a2 a3 a4 a5 a6 a7 b1 b2 b3 b4 b5 c1 c2 c3 c4 c5 d1 d2 d3 d4 : Pos) : List Stmt :=
  [.Assign [.Tuple [.Name "caught" a1, .Name "back" a2] 0 a3] (.Tuple [.Constant .none 0 a4, .Constant .none 0 a5] 0 a6) a7,
   .Try [.Assign [.Name "back" b1] (.Call (.Name "look" b2) [] [] b3) b4] [.ExceptHandler (some (.Name "DrawError" c1)) (some "error") [.Assign [.Name "caught" c2] (.Name "error" c3) c4] c5] [] [] b5,
   .Return (some (.Tuple [.Name "caught" d1, .Name "back" d2] 0 d3)) d4]
def toldS : Scope := { kind := .function, names := [("look", .local), ("caught", .local), ("back", .local), ("error", .local), ("DrawError", .globalImplicit)], isGenerator := false, isCoroutine := false, more := [] }
/-- what comes of a lambda's reading -/
def TTold (K : PySem.W.Frag) (CS : Addr) : (XK → Hp → VK → Prop) → Hp → VK → Prop := fun tl H Q =>
  ∀ t, H t = none → tl (fun cls d H' => PySem.W.exmOne K cls (.ref CS) = some true ∧ ∀ a, H' a = none → ∀ p, upd H' a (EX a cls d) p = none →
      Q (.ref p) (upd (upd H' a (EX a cls d)) p (.tup [.ref a, .non]))) (upd H t (.tup [.non, .non]))
    fun v H' => ∀ p, H' p = none → Q (.ref p) (upd H' p (.tup [.non, v]))
theorem told_gives2 {q x : Str} {g CS : Addr} {cdg : Value} {a1 a2 a3 a4 a5 a6 a7 b1 b2 b3 b4 b5 c1 c2 c3 c4 c5 d1 d2 d3 d4 : Pos} (hme : X.mg "DrawError" = some (.ref CS))
    (hw : ∀ n : Nat, swappedStores [.Tuple [.Name "caught" a1, .Name "back" a2] 0 a3] (.Tuple [.Constant .none 0 a4, .Constant .none 0 a5] 0 a6) (envOfC x toldS n g cdg) = pure none) :
    Gives X toldN x toldS g cdg (toldB a1 a2 a3 a4 a5 a6 a7 b1 b2 b3 b4 b5 c1 c2 c3 c4 c5 d1 d2 d3 d4) "look" q (TTold X.K CS) := by
  intro f c' s H Q tl act hc h
  have nd : toldN.Nodup := by decide +kernel
  refine ⟨_, pss_cons (ps_asg (pe_tup (pa_cons pe_non (pa_cons pe_non pa_nil))) (pg_tup rfl (pgs_cons (pg_name (i := 1) nd rfl (Or.inl rfl)) (pgs_cons (pg_name (i := 2) nd rfl (Or.inl rfl)) pgs_nil))) (hw := hw _))
    (pss_cons (ps_try_hold (X := (cxOf CX0 X.prog X.w X.K X.mg X.base toldN x toldS g cdg X.A X.stack s H E0).nox) (c := .ref CS) (x := "DrawError") (n := "error") (m := "caught") (i := 3) (j := 1) (Wout := fun _ _ _ _ => False)
      (tb := fun W D σ H => ∃ (Ech : XK) (R : VK), (∀ v H', R v H' → D.nx (σ.set 2 (some v)) H') ∧ (∀ cls d H', Ech cls d H' → W cls d σ H') ∧ σ[0]? = some (some (.ref f)) ∧ H c' = some (CodeO c' q) ∧ tl Ech H R)
      rfl rfl rfl nd rfl rfl rfl rfl ⟨rfl, by decide, .inl hme⟩ takes0 (hb := fun W pn xe tk _ => ?_))
    (pss_one (ps_ret (pe_tup (pa_cons (pv 1) (pa_cons (pv 2) pa_nil)))))), ?_⟩
  · refine ⟨fun pins s' σ H' D I h' => ?_⟩
    obtain ⟨Ech, R, hR, hW, h1, h2, h3⟩ := h'
    have hp := pe_weak (act W pn xe Ech b2 b3 tk)
    have hq := pss_one (ps_set (pos := b4) (i := 2) (pos' := b1) nd rfl (Or.inl rfl) hp)
    exact hq.run pins s' σ H' D I ⟨R, hR, hW, h1, h2, h3⟩
  · refine ⟨(by exact (by decide : 2 ≤ sizeLine)), fun t ht => ⟨t, _, rfl, SqT.of upd_same, rfl, _, _, rfl, _, _, rfl, rfl, ?_⟩⟩
    refine ⟨fun cls d H' => PySem.W.exmOne X.K cls (.ref CS) = some true ∧ ∀ a, H' a = none → ∀ p, upd H' a (EX a cls d) p = none →
      Q (.ref p) (upd (upd H' a (EX a cls d)) p (.tup [.ref a, .non])), fun v H' => ∀ p, H' p = none → Q (.ref p) (upd H' p (.tup [.non, v])), fun v H' z => ⟨_, rfl, _, rfl, (by exact (by decide : 2 ≤ sizeLine)), fun p hp => z p hp⟩, fun cls d H' z => ?_, rfl, same_new ht _ _ hc, h t ht⟩
    obtain ⟨z1, z2⟩ := z
    exact ⟨true, z1, fun _ a ha => ⟨_, rfl, _, rfl, (by exact (by decide : 2 ≤ sizeLine)), fun p hp => z2 a ha p hp⟩, fun z => by cases z⟩
end
end L2.Vx

set_option Elab.async false
set_option linter.all false
set_option maxRecDepth 100000
set_option maxHeartbeats 2000000
namespace L2.Vx
open PySem PySem.Spec PyProof.Rows
/-! ### for n, x in enumerate(list, start) -/
def IteF (K : PySem.W.Frag) (a : Addr) (k : Int) : It :=
  ⟨fun i H => ∃ (xs : List V) (x : V), SqL K H a xs ∧ xs[i]? = some x, fun i H v H' => ∃ T x, v = .ref T ∧ H T = none ∧ H' = upd H T (.tup [.int (k + (i : Nat)), x]) ∧ ∀ xs, SqL K H a xs → xs[i]? = some x, fun i H => ∃ xs : List V, SqL K H a xs ∧ xs.length = i⟩
theorem list_enum_ne {h : Heap} {e it a : Addr} {n : Int} {old : Value} {items : Array Value} (he : IsEnum h e it n old) (hl : h.IsList a items) : e ≠ a := by
  intro z
  subst z
  obtain ⟨o, ho, hc, _⟩ := hl
  rw [Option.some.inj (ho.symm.trans he)] at hc
  injection hc with h
  exact absurd h (by decide)
theorem list_iter_ne {h : Heap} {it a : Addr} {i : Nat} {items : Array Value} (hit : h.IsListIter it a i) (hl : h.IsList a items) : a ≠ it := by
  intro z
  subst z
  obtain ⟨o, ho, hc, _⟩ := hl
  obtain ⟨o2, ho2, hc2, _⟩ := hit
  rw [Option.some.inj (ho2.symm.trans ho), hc] at hc2
  injection hc2 with h
  exact absurd h (by decide)
theorem turn_enumF {P : Program} {w : World} {K : PySem.W.Frag} {elts : List Expr} {kk : Nat} {tpos : Pos} (a e it : Addr) (k : Int) :
    Turn P w K (.Tuple elts kk tpos) (IteF K a k) [e, it] e (fun i h => (∃ old, IsEnum h e it (k + ((i : Nat) : Int)) old) ∧ h.IsListIter it a i ∧ e ≠ it) where
  mem := by simp
  obj := fun i h st b hb => by
    obtain ⟨⟨old, he⟩, ⟨o, ho, hc, hd⟩, _⟩ := st
    have e' : b = e ∨ b = it := by simpa using hb
    rcases e' with z | z
    · rw [z]; exact ⟨_, he, fun v q => nomatch q⟩
    · rw [z]; exact ⟨o, ho, fun v q => by rw [hd] at q; cases q⟩
  keep := fun i h h' st q => let ⟨⟨old, he⟩, hi, hne⟩ := st; ⟨⟨old, q e (by simp) _ he⟩, hi.at fun o r => q it (by simp) o r, hne⟩
  item := by
    intro X hP hw hK hc i pins s σ H E I hf st hg
    subst hP hw hK
    obtain ⟨⟨old, he⟩, hit, hne⟩ := st
    obtain ⟨xs, x, hq, hx⟩ := hg
    obtain ⟨its, rv, p, hz⟩ := I.list hq
    obtain ⟨u, hu, ru⟩ := rv.get hx
    have hel : e < s.heap.objs.size := Heap.lt_size he
    have hil : it < s.heap.objs.size := by obtain ⟨_, q, _⟩ := hit; exact Heap.lt_size q
    have hea := list_enum_ne he p.isList
    have hai := list_iter_ne hit p.isList
    have hlt : i < its.toArray.size := by
      have hl := rv.length
      have := (List.getElem?_eq_some_iff.mp hx).1
      rw [List.size_toArray]
      omega
    refine PySem.wpAny_pyNext_enum_itemC (Draws.list (A := X.A.in1) (I.ok.hd hc) it a hai its.toArray) he ⟨hit, p.isList⟩ hlt hne (by simp [hne, hea]) fun x1 h' tk hx1 ho st' hT hsz hk => ?_
    have hxu : x1 = u := by
      have h1 : its[i]? = some x1 := by simpa using hx1
      exact Option.some.inj (h1.symm.trans hu)
    subst hxu
    refine ⟨_, rfl, wpAny_letOwnedTupleGo_enum (s := { s with heap := h', toks := tk + 1 }) ho fun h'' he' sb => ?_⟩
    have hT2 : h''.get? s.heap.objs.size = some { cls := .type "tuple", data := .seq #[.int (k + (i : Int)) tk, x1] } := (sb.2 _ (Nat.ne_of_gt hel)).trans hT
    have new : ObjOk X.prog X.w (upd H s.heap.objs.size (.tup [.int (k + (i : Nat)), x])) h'' s.heap.objs.size (.tup [.int (k + (i : Nat)), x]) :=
      ⟨by show 2 ≤ sizeLine; decide, [.int (k + (i : Int)) tk, x1], .cons ⟨_, rfl⟩ (.cons ru .nil), ⟨_, hT2, rfl, _, rfl⟩⟩
    have I1 : Inv X pins σ (upd H s.heap.objs.size (.tup [.int (k + (i : Nat)), x])) { s with heap := h'', toks := tk + 1 } :=
      I.turnedNew (ch := [e, it]) (fun b ob hb q => (sb.2 b (fun z => hb (by simp [z]))).trans (hk b ob (fun z => hb (by simp [z])) (fun z => hb (by simp [z])) q)) hf (Nat.le_refl _) new
    refine ⟨.ref s.heap.objs.size, _, I1, rfl, ⟨_, x, rfl, I.hok.fresh (Nat.le_refl _), rfl, fun ys hy => by rw [I.list_inj hy hq]; exact hx⟩, ⟨⟨x1, ?_⟩, st'.1.at fun o q => (sb.2 it (Ne.symm hne)).trans q, hne⟩, fun b hb => ?_⟩
    · have e1 : k + ((i + 1 : Nat) : Int) = k + (i : Int) + 1 := by omega
      rw [e1]; exact he'
    · have hb' : b < s.heap.objs.size := by
        have e' : b = e ∨ b = it := by simpa using hb
        rcases e' with z | z
        · rw [z]; exact hel
        · rw [z]; exact hil
      rw [upd_ne (Nat.ne_of_lt hb')]
      exact (hf b hb).1
  done := by
    intro X hP hw hK hc i pins s σ H E I hf st hg
    subst hP hw hK
    obtain ⟨⟨old, he⟩, hit, hne⟩ := st
    obtain ⟨xs, hq, hx⟩ := hg
    obtain ⟨its, rv, p, hz⟩ := I.list hq
    obtain ⟨f0, f1, f2, f3, f4, f5⟩ := hf it (by simp)
    have hl := rv.length
    have hn : its.toArray.size = i := by
      rw [List.size_toArray]
      omega
    have hst : s.heap.IsListIter it a its.toArray.size := by rw [hn]; exact hit
    exact wpAny_pyNext_enum_endD (Draws.list (A := X.A.in1) (I.ok.hd hc) it a (list_iter_ne hit p.isList) its.toArray) he ⟨hst, p.isList⟩ fun h' eb => ⟨rfl, I.turned (t' := s.toks) (fun b o hb q => eb b o hb q) f0 f1 f3 f4 f5⟩
  self := fun A i s Q E st h => let ⟨⟨_, he⟩, _⟩ := st; wpAny_pyIter_enum he h
def iEnumF (K : PySem.W.Frag) (ta : TA) : TI := fun σ H R => ta σ H fun vs H1 => ∃ a xs k, vs = [.ref a, .int k] ∧ SqL K H1 a xs ∧ 0 ≤ k ∧ k < 2 ^ 62 ∧ R (IteF K a k) H1
theorem pi_enumF {X : Cx} {e e2 : Expr} {ta : TA} {p pos tpos : Pos} {elts : List Expr} {kk : Nat} (hg : Gl X "enumerate") (hm : X.mg "enumerate" = none) (ha : PA X [e, e2] ta)
    (hs : starEach [e, e2] X.env = (false, eval e X.env) :: starEach [e2] X.env := by rfl) (hpl : (backTo pos (starEach [e2] X.env)).any (·.1) = false := by rfl) :
    PI X (.Tuple elts kk tpos) (.Call (.Name "enumerate" p) [e, e2] [] pos) (iEnumF X.K ta) := by
  refine ⟨fun pins s σ H R I h => ?_⟩
  refine Call_ (ld_blt I hg hm boot_enumerate (PyProof.Rows.callWith_type1 (thn (ha.run pos pins s σ H _ I h) fun us s1 ⟨vs, H1, I1, r1, q1⟩ => ?_) hs hpl))
  obtain ⟨a, xs, k, ex, hq, k0, k1, q⟩ := q1
  subst ex
  cases r1 with
  | cons r rr =>
    cases rr with
    | cons r2 rr =>
    cases rr
    cases r
    obtain ⟨t, rfl⟩ := r2
    obtain ⟨its, rv, p', hz⟩ := I1.list hq
    refine enum_begins (begins_list a its.toArray) p'.isList (by omega) (by omega) fun h' he hit hsz hk => wpAny_pyIter_enum he ?_
    have I2 : Inv X pins σ H1 { s1 with heap := h' } := I1.kept (t' := s1.toks) hk
    refine ⟨s1.heap.objs.size + 1, [s1.heap.objs.size + 1, s1.heap.objs.size], _, _, H1, rfl, I2, turn_enumF a (s1.heap.objs.size + 1) s1.heap.objs.size k, ⟨⟨.none, ?_⟩, ⟨_, hit, rfl, rfl⟩, Nat.succ_ne_self _⟩, fun b hb => ?_, q⟩
    · have e1 : k + ((0 : Nat) : Int) = k := by omega
      rw [e1]
      exact he
    have e' : b = s1.heap.objs.size + 1 ∨ b = s1.heap.objs.size := by simpa using hb
    have hle : s1.heap.objs.size ≤ b := by
      rcases e' with z | z
      · rw [z]; exact Nat.le_add_right _ _
      · rw [z]; exact Nat.le_refl _
    exact I1.fpOk hle (I1.hok.fresh hle)
theorem walk_enumF {K : PySem.W.Frag} {a : Addr} {xs : List V} {k : Int} : Walk (IteF K a k) xs.length (fun H => SqL K H a xs) (YPair (fun i => some (.int (k + (i : Nat)))) (fun i => xs[i]?)) := by
  refine ⟨fun i _ hi q => ⟨xs, xs[i], q, by simp [hi]⟩, fun _ q => ⟨xs, q, rfl⟩, fun i H v H' _ q y => ?_⟩
  obtain ⟨T, x, h1, h2, h3, h4⟩ := y
  exact ⟨T, .int (k + (i : Nat)), x, h1, h2, h3, rfl, h4 xs q⟩
end L2.Vx

set_option Elab.async false
set_option linter.all false
set_option maxRecDepth 100000
set_option maxHeartbeats 2000000
namespace L2.Vx
open PySem PySem.Spec PyProof.Rows
open TL (tl spl pre)
/-! ### a text, cut at one sign -/
def cutAt (s : Nat) : List Nat → List Nat → List (List Nat)
  | acc, [] => [acc]
  | acc, c :: r => if c = s then acc :: cutAt s [] r else cutAt s (acc ++ [c]) r
theorem pre_one (s c : Nat) (r : List Nat) : pre [s] (c :: r) = decide (c = s) := by
  unfold TL.pre
  rw [Bool.eq_iff_iff]
  simp
theorem spl_cut (s : Nat) : ∀ (l acc : List Nat), spl [s] 0 acc l = cutAt s acc l
  | [], acc => by
    unfold TL.spl cutAt
    rfl
  | c :: r, acc => by
    unfold TL.spl cutAt
    rw [pre_one]
    by_cases h : c = s
    · rw [if_pos (decide_eq_true h), if_pos h, ← spl_cut s r []]
      rfl
    · rw [if_neg (by rw [decide_eq_false h]; decide), if_neg h, spl_cut s r]
theorem split_cut (z : Str) {s : Nat} (hs : s < 256) : (Txt.split z ⟨#[s]⟩).map tl = cutAt s [] (tl z) := by
  rw [TL.split_spl z ⟨#[s]⟩ (by simp [tl]) (TL.kind_ok (by simpa using hs))]
  exact spl_cut s _ _
/-- put together again -/
def glue (s : Nat) : List (List Nat) → List Nat
  | [] => []
  | [p] => p
  | p :: q :: r => p ++ s :: glue s (q :: r)
theorem cut_ne (s : Nat) : ∀ (l acc : List Nat), cutAt s acc l ≠ []
  | [], acc => by unfold cutAt; simp
  | c :: r, acc => by
    unfold cutAt
    split
    · simp
    · exact cut_ne s r _
theorem glue_cons {s : Nat} {p : List Nat} {q : List (List Nat)} (h : q ≠ []) : glue s (p :: q) = p ++ s :: glue s q := by
  cases q with
  | nil => exact absurd rfl h
  | cons a b => rfl
theorem glue_cut (s : Nat) : ∀ (l acc : List Nat), glue s (cutAt s acc l) = acc ++ l
  | [], acc => by unfold cutAt glue; simp
  | c :: r, acc => by
    unfold cutAt
    split
    · rename_i h
      rw [glue_cons (cut_ne s r []), glue_cut s r [], h]
      rfl
    · rw [glue_cut s r]
      simp
theorem split_ne (z : Str) {s : Nat} (hs : s < 256) : Txt.split z ⟨#[s]⟩ ≠ [] := fun e => by
  have h := split_cut z hs
  rw [e] at h
  exact cut_ne s _ _ h.symm
theorem split_glue (z : Str) {s : Nat} (hs : s < 256) : glue s ((Txt.split z ⟨#[s]⟩).map tl) = tl z := by
  rw [split_cut z hs, glue_cut]
  rfl
theorem split_inj {x y : Str} {s : Nat} (hs : s < 256) (h : Txt.split x ⟨#[s]⟩ = Txt.split y ⟨#[s]⟩) : x = y :=
  TL.ext_tl (by rw [← split_glue x hs, ← split_glue y hs, h])
theorem glue_len (s : Nat) : ∀ (ps : List (List Nat)), ∀ p ∈ ps, p.length ≤ (glue s ps).length
  | [], _, h => by cases h
  | [q], p, h => by
    rw [List.mem_singleton.mp h]
    exact Nat.le_refl _
  | a :: b :: r, p, h => by
    have ih := glue_len s (b :: r)
    show p.length ≤ (a ++ s :: glue s (b :: r)).length
    rw [List.length_append, List.length_cons]
    rcases List.mem_cons.mp h with rfl | h
    · omega
    · have := ih p h
      omega
theorem glue_count (s : Nat) : ∀ (ps : List (List Nat)), ps.length ≤ (glue s ps).length + 1
  | [] => Nat.zero_le _
  | [q] => by show 1 ≤ _; omega
  | a :: b :: r => by
    have ih := glue_count s (b :: r)
    show (b :: r).length + 1 ≤ (a ++ s :: glue s (b :: r)).length + 1
    simp only [List.length_append, List.length_cons] at ih ⊢
    omega
theorem split_len (z : Str) {s : Nat} (hs : s < 256) : (Txt.split z ⟨#[s]⟩).length ≤ z.length + 1 := by
  have h := glue_count s ((Txt.split z ⟨#[s]⟩).map tl)
  rw [split_glue z hs, List.length_map] at h
  rw [TL.len_tl]
  exact h
theorem split_part {z p : Str} {s : Nat} (hs : s < 256) (h : p ∈ Txt.split z ⟨#[s]⟩) : p.length ≤ z.length := by
  have h1 := glue_len s ((Txt.split z ⟨#[s]⟩).map tl) (tl p) (List.mem_map.mpr ⟨p, h, rfl⟩)
  rw [split_glue z hs] at h1
  rw [TL.len_tl, TL.len_tl]
  exact h1
/-! ### a test's answer, turned about -/
theorem nt {p : Prop} [Decidable p] (h : p) : ¬ (!decide p) = true := by rw [decide_eq_true h]; decide
theorem nf {p : Prop} [Decidable p] (h : ¬ p) : (!decide p) = true := by rw [decide_eq_false h]; rfl
theorem rd_nx {D : Ends} {σ : St} {H : Hp} (h : D.nx σ H) : tNext D σ H := h
theorem inV_str (x : Str) (ys : List Str) : inV (.str x) (ys.map V.str) = decide (x ∈ ys) := by
  unfold inV
  rw [Bool.eq_iff_iff, List.any_eq_true, decide_eq_true_iff]
  constructor
  · rintro ⟨v, hv, e⟩
    obtain ⟨y, hy, rfl⟩ := List.mem_map.mp hv
    have : y = x := by simpa [eqV] using e
    exact this ▸ hy
  · intro h
    exact ⟨.str x, List.mem_map.mpr ⟨x, h, rfl⟩, by simp [eqV]⟩
theorem flat_strs (ys : List Str) : (ys.map V.str).all flatV = true := by
  rw [List.all_eq_true]
  intro v hv
  obtain ⟨y, _, rfl⟩ := List.mem_map.mp hv
  rfl
end L2.Vx

set_option Elab.async false
set_option linter.all false
set_option maxRecDepth 100000
set_option maxHeartbeats 2000000
namespace L2.Vx
open PySem PySem.Spec PyProof.Rows
/-! ### data that are newly made -/
/-- what stands in H' and did not in H -/
def nw (H H' : Hp) : Hp := fun a => match H a with
  | none => H' a
  | some _ => none
theorem nw_at {H H' : Hp} {a : Addr} (h : H a = none) : nw H H' a = H' a := by
  unfold nw
  rw [h]
theorem nw_old {H H' : Hp} {a : Addr} {o : HO} (h : H a = some o) : nw H H' a = none := by
  unfold nw
  rw [h]
theorem nw_up {H H1 H2 : Hp} (s : Same H1 H2) : Same (nw H H1) (nw H H2) := fun b o e => by
  cases h : H b with
  | some u => rw [nw_old h] at e; cases e
  | none =>
    rw [nw_at h] at e ⊢
    exact s _ _ e
theorem nw_in {H H1 H2 : Hp} (s : Same H H1) : Same (nw H1 H2) (nw H H2) := fun b o e => by
  cases h : H1 b with
  | some u => rw [nw_old h] at e; cases e
  | none =>
    rw [nw_at h] at e
    rw [nw_at (s.free h)]
    exact e
theorem nw_le {H H' : Hp} : Same (nw H H') H' := fun b o e => by
  cases h : H b with
  | some u => rw [nw_old h] at e; cases e
  | none =>
    rw [nw_at h] at e
    exact e
theorem _root_.L2.Same.tup {K : PySem.W.Frag} {H H' : Hp} {a : Addr} {xs : List V} (k : Same H H') (h : SqT K H a xs) : SqT K H' a xs := by
  rcases h with (h | ⟨o, h⟩) | h
  · exact .inl (.inl (k _ _ h))
  · exact .inl (.inr ⟨o, k _ _ h⟩)
  · exact .inr h
mutual
theorem Dd_keep {K : PySem.W.Frag} {H H' : Hp} (k : Same H H') : ∀ {x : V} {d : PyData}, Dd K H x d → Dd K H' x d
  | _, _, .non => .non
  | _, _, .bl b => .bl b
  | _, _, .int i => .int i
  | _, _, .str x => .str x
  | _, _, .lst h t => .lst (k.seq h) (ddAll_keep k t)
  | _, _, .tup h t => .tup (k.tup h) (ddAll_keep k t)
  | _, _, .dct h t => .dct (k _ _ h) (ddAll_keep k t)
theorem ddAll_keep {K : PySem.W.Frag} {H H' : Hp} (k : Same H H') : ∀ {xs : List V} {ds : List PyData}, DdAll K H xs ds → DdAll K H' xs ds
  | _, _, .nil => .nil
  | _, _, .cons h t => .cons (Dd_keep k h) (ddAll_keep k t)
end
/-- an expression that makes the data d -/
def GD (K : PySem.W.Frag) (te : TE) (d : PyData) : Prop := ∀ (σ : St) (H : Hp) (Q : VK), (∀ v H', Same H H' → Dd K (nw H H') v d → Q v H') → te σ H Q
def GA (K : PySem.W.Frag) (ta : TA) (ds : List PyData) : Prop := ∀ (σ : St) (H : Hp) (Q : List V → Hp → Prop), (∀ vs H', Same H H' → DdAll K (nw H H') vs ds → Q vs H') → ta σ H Q
section
variable {K : PySem.W.Frag} {te : TE} {ta : TA} {d : PyData} {ds : List PyData}
theorem gd_const {v : V} (h : ∀ H, Dd K H v d) : GD K (tC v) d := fun σ H Q q => q v H (Same.refl H) (h _)
theorem ga_nil : GA K tNil [] := fun σ H Q q => q [] H (Same.refl H) .nil
theorem ga_cons (h : GD K te d) (t : GA K ta ds) : GA K (tCons te ta) (d :: ds) := fun σ H Q q =>
  h σ H _ fun v H1 s1 g1 => t σ H1 _ fun vs H2 s2 g2 => q (v :: vs) H2 (s1.trans s2) (.cons (Dd_keep (nw_up s2) g1) (ddAll_keep (nw_in s1) g2))
theorem ddAll_len {H : Hp} : ∀ {vs : List V} {ds : List PyData}, DdAll K H vs ds → vs.length = ds.length
  | _, _, .nil => rfl
  | _, _, .cons _ t => congrArg Nat.succ (ddAll_len t)
theorem gd_lst (h : GA K ta ds) (hl : ds.length ≤ 1000) : GD K (tLst ta) (.list ds) := fun σ H Q q => h σ H _ fun vs H1 s1 g => by
  refine ⟨Nat.le_trans (by rw [ddAll_len g]; exact hl) (by decide), fun p hp => ?_⟩
  refine q (.ref p) _ (s1.trans (same_new hp)) (.lst (SqL.of (by rw [nw_at (s1.free hp)]; exact upd_same)) (ddAll_keep (nw_up (same_new hp)) g))
theorem gd_tup (h : GA K ta ds) (hl : ds.length ≤ 1000) : GD K (tTup ta) (.tuple ds) := fun σ H Q q => h σ H _ fun vs H1 s1 g => by
  refine ⟨Nat.le_trans (by rw [ddAll_len g]; exact hl) (by decide), fun p hp => ?_⟩
  refine q (.ref p) _ (s1.trans (same_new hp)) (.tup (SqT.of (by rw [nw_at (s1.free hp)]; exact upd_same)) (ddAll_keep (nw_up (same_new hp)) g))
theorem gd_dnew : GD K tDNewK (.dict []) := fun σ H Q q p hp => q (.ref p) _ (same_new hp) (.dct (kvs := []) (by rw [nw_at hp]; exact upd_same) .nil)
/-- no text -/
def NoStr (K : PySem.W.Frag) (H : Hp) (v : V) : Prop := ∃ n : String, TyX K H v (.type n) ∧ kitB n "str" = some false
def isS : PyData → Bool
  | .str _ => true
  | _ => false
theorem tyX_list {H : Hp} {a : Addr} {xs : List V} (h : SqL K H a xs) : TyX K H (.ref a) (.type "list") := by
  rcases h with (h | ⟨o, h⟩) | ⟨o, its, n, h1, h2, _⟩
  · exact .base (.lst h)
  · exact .base (.frz h)
  · exact .kList h1 h2
theorem tyX_tup {H : Hp} {a : Addr} {xs : List V} (h : SqT K H a xs) : TyX K H (.ref a) (.type "tuple") := by
  rcases h with (h | ⟨o, h⟩) | ⟨o, its, n, h1, h2, _⟩
  · exact .base (.tup h)
  · exact .fTuple h
  · exact .kTuple h1 h2
theorem noStr_of {H : Hp} {v : V} {d : PyData} (h : Dd K H v d) (hs : isS d = false) : NoStr K H v := by
  cases h with
  | non => exact ⟨_, .base .non, by decide +kernel⟩
  | bl b => exact ⟨_, .base (.bl b), by decide +kernel⟩
  | int i => exact ⟨_, .base (.int i), by decide +kernel⟩
  | str x => cases hs
  | lst h t => exact ⟨_, tyX_list h, by decide +kernel⟩
  | tup h t => exact ⟨_, tyX_tup h, by decide +kernel⟩
  | dct h t => exact ⟨_, .base (.dK h), by decide +kernel⟩
end
end L2.Vx

set_option Elab.async false
set_option linter.all false
set_option maxRecDepth 100000
set_option maxHeartbeats 2000000
namespace L2.Vx
open PySem PySem.Spec PyProof.Rows
open TL (tl joinL)
/-! ### how long lists of texts are, put together -/
def tot (ys : List Str) : Nat := (ys.map fun y => y.length + 1).sum
theorem tot_nil : tot [] = 0 := rfl
theorem tot_cons (y : Str) (ys : List Str) : tot (y :: ys) = y.length + 1 + tot ys := by
  unfold tot
  rw [List.map_cons, List.sum_cons]
theorem tot_append : ∀ (a b : List Str), tot (a ++ b) = tot a + tot b
  | [], b => by rw [List.nil_append, tot_nil, Nat.zero_add]
  | x :: a, b => by rw [List.cons_append, tot_cons, tot_cons, tot_append a b]; omega
theorem tot_take (ys : List Str) (n : Nat) : tot (ys.take n) ≤ tot ys := by
  have := tot_append (ys.take n) (ys.drop n)
  rw [List.take_append_drop] at this
  omega
theorem tot_drop (ys : List Str) (n : Nat) : tot (ys.drop n) ≤ tot ys := by
  have := tot_append (ys.take n) (ys.drop n)
  rw [List.take_append_drop] at this
  omega
theorem tot_cut (ys : List Str) (n : Nat) : tot (ys.take n) + tot (ys.drop n) = tot ys := by
  have := tot_append (ys.take n) (ys.drop n)
  rw [List.take_append_drop] at this
  omega
theorem tot_mem : ∀ {ys : List Str} {y : Str}, y ∈ ys → y.length + 1 ≤ tot ys
  | x :: ys, y, h => by
    rw [tot_cons]
    rcases List.mem_cons.mp h with rfl | h
    · omega
    · have := tot_mem h
      omega
theorem tot_erase : ∀ (ys : List Str) (n : Nat), tot (ys.eraseIdx n) ≤ tot ys
  | [], _ => by simp
  | y :: ys, 0 => by rw [List.eraseIdx_cons_zero, tot_cons]; omega
  | y :: ys, n + 1 => by
    rw [List.eraseIdx_cons_succ, tot_cons, tot_cons]
    have := tot_erase ys n
    omega
theorem tot_erase_at : ∀ (ys : List Str) (n : Nat) (y : Str), ys[n]? = some y → tot (ys.eraseIdx n) + (y.length + 1) = tot ys
  | [], _, _, h => by simp at h
  | x :: ys, 0, y, h => by
    simp at h
    subst h
    rw [List.eraseIdx_cons_zero, tot_cons]; omega
  | x :: ys, n + 1, y, h => by
    rw [List.eraseIdx_cons_succ, tot_cons, tot_cons]
    have := tot_erase_at ys n y (by simpa using h)
    omega
theorem tot_set : ∀ (ys : List Str) (n : Nat) (v : Str), tot (ys.set n v) ≤ tot ys + v.length
  | [], _, _ => by simp [tot_nil]
  | y :: ys, 0, v => by rw [List.set_cons_zero, tot_cons, tot_cons]; omega
  | y :: ys, n + 1, v => by
    rw [List.set_cons_succ, tot_cons, tot_cons]
    have := tot_set ys n v
    omega
theorem tot_len (ys : List Str) : ys.length ≤ tot ys := by
  induction ys with
  | nil => simp
  | cons y ys ih =>
    rw [List.length_cons, tot_cons]
    omega
theorem tot_sum (ys : List Str) {a : Str} (ha : a.length = 1) : (ys.map (·.length)).sum + ys.length * a.length = tot ys := by
  rw [ha, Nat.mul_one]
  induction ys with
  | nil => rfl
  | cons y ys ih =>
    rw [List.map_cons, List.sum_cons, List.length_cons, tot_cons, ← ih]
    omega
theorem joinL_len (s : List Nat) (hs : s.length = 1) : ∀ ys : List Str, (joinL s (ys.map tl)).length ≤ tot ys
  | [] => by simp [joinL]
  | [y] => by
    show (tl y).length ≤ tot [y]
    rw [tot_cons, ← TL.len_tl]
    omega
  | x :: y :: r => by
    show (tl x ++ (s ++ joinL s ((y :: r).map tl))).length ≤ _
    have ih := joinL_len s hs (y :: r)
    rw [List.length_append, List.length_append, hs, tot_cons, ← TL.len_tl]
    omega
theorem join_tot {a : Str} (ha : a.length = 1) (ys : List Str) : (Txt.join a ys).length ≤ tot ys := by
  rw [TL.join_eq, TL.len_tl, TL.tl_join]
  exact joinL_len _ (by rw [← TL.len_tl]; exact ha) ys
theorem glue_tot (s : Nat) : ∀ (ys : List Str), ys ≠ [] → tot ys = (glue s (ys.map tl)).length + 1
  | [], h => absurd rfl h
  | [y], _ => by
    show tot [y] = (tl y).length + 1
    rw [tot_cons, tot_nil, ← TL.len_tl]
  | x :: y :: r, _ => by
    show tot (x :: y :: r) = (tl x ++ s :: glue s ((y :: r).map tl)).length + 1
    rw [tot_cons, glue_tot s (y :: r) (by simp), List.length_append, List.length_cons, ← TL.len_tl]
    omega
theorem split_tot (z : Str) {s : Nat} (hs : s < 256) : tot (Txt.split z ⟨#[s]⟩) = z.length + 1 := by
  rw [glue_tot s _ (split_ne z hs), split_glue z hs, ← TL.len_tl]
theorem nl1 : ("\n" : Str).length = 1 := by decide +kernel
theorem sp1 : (" " : Str).length = 1 := by decide +kernel
end L2.Vx

set_option Elab.async false
set_option linter.all false
set_option maxRecDepth 100000
set_option maxHeartbeats 2000000
namespace L2.Vx
open PySem PySem.Spec PyProof.Rows
open SlX (run_at cmpback)
/-! ### operators by an own def of the class: in, not in, len, o[i], == -/
section
variable {X : Cx} {CX : CXT} {C g : Addr} {n : Nat} {sp : Sp} {E : XK}
theorem ins_at {pins : List (Addr × Obj)} {σ : St} {H : Hp} {s : Shared} {a dx : Addr} {fs : List (Str × V)} (I : Inv X pins σ H s) (e : H a = some (.ins C dx fs)) : ∃ od, PySem.W.InstAt s.heap a (PySem.W.instObj C dx) C (some od) := by
  obtain ⟨mA, O, _⟩ := ins_get I.hok e
  obtain ⟨od, J, _⟩ := O.look
  exact ⟨od, J⟩
/-- x in o, o.__contains__ at g gives a bool -/
def rInOwn (C : Addr) (sp : Sp) (E : XK) : R2 := fun x y H Q => ∃ a dx fs, y = .ref a ∧ H a = some (.ins C dx fs) ∧ sp [.ref a, x] H (fun r H' => ∃ b, r = .bl b ∧ Q (.bl b) H') E
theorem op_inOwn (hs : PySem.W.findIn X.K (.ref C) "__contains__" = some (some (.ref g))) (hf : PySem.W.isFn X.K (.ref g) = true) (F : FnR X.prog X.w X.K X.mg X.base CX n g sp) (hr : Room n X.A) (hx : Passes CX X E) :
    OpR X (compareOp .In) (rInOwn C sp E) := by
  intro pins s σ H x y v u Q I rx ry h
  obtain ⟨a, dx, fs, rfl, ha, q⟩ := h
  cases (show u = Value.ref a from ry)
  obtain ⟨od, J⟩ := ins_at I ha
  obtain ⟨m, hF⟩ := I.fr
  refine PySem.W.in_K hF I.ok.mod.kin J hs hf (wpAny_mono (wpAny_call (run_fnR (us := [.ref a, v]) (vs := [.ref a, x]) F hr hx I (.cons rfl (.cons rx .nil)) q)) (fun w s' z => ?_) fun _ _ e => e)
  obtain ⟨z', H', I', rz, b, eb, qz⟩ := z
  subst eb
  cases (show w = Value.bool b from rz)
  exact wpAny_truthy_bool ⟨.bl b, H', I', rfl, qz⟩
/-- len(o), o.__len__ at g gives an int -/
def rLenOwn (C : Addr) (sp : Sp) (E : XK) : List V → Hp → VK → Prop := fun xs H Q => ∃ a dx fs, xs = [V.ref a] ∧ H a = some (.ins C dx fs) ∧ sp [.ref a] H (fun z H' => ∃ i : Int, z = .int i ∧ 0 ≤ i ∧ i < 2 ^ 63 ∧ Q (.int i) H') E
theorem call_lenOwn (hs : PySem.W.findIn X.K (.ref C) "__len__" = some (some (.ref g))) (hf : PySem.W.isFn X.K (.ref g) = true) (F : FnR X.prog X.w X.K X.mg X.base CX n g sp) (hr : Room (n + 1) X.A) (hx : Passes CX X E) :
    CallR X (.builtin "len") (rLenOwn C sp E) := by
  intro pins s σ H xs us Q I r h
  obtain ⟨a, dx, fs, rfl, ha, q⟩ := h
  obtain ⟨u, rfl, ru⟩ := r.one
  cases (show u = Value.ref a from ru)
  obtain ⟨od, J⟩ := ins_at I ha
  obtain ⟨m, hF⟩ := I.fr
  refine PySem.W.len_K hF I.ok.mod.kin J hs hf (wpAny_mono (wpAny_call (run_at (us := [.ref a]) (ws := [.ref a]) F (Room.in1 hr) I.env0.in1 hx I (.cons rfl .nil) q)) (fun w s' z => ?_) fun _ _ x => x)
  obtain ⟨z', H', I', rz, i, ei, i0, i1, qz⟩ := z
  subst ei
  obtain ⟨t, e⟩ := (show ∃ t, w = Value.int i t from rz)
  subst e
  exact ⟨⟨i0, i1⟩, .int i, H', I'.tok _, ⟨_, rfl⟩, qz⟩
/-- o[i], o.__getitem__ at g (which may raise: E) -/
def tItemOwn (C : Addr) (sp : Sp) (E : XK) (ta tb : TE) : TE := fun σ H Q => ta σ H fun x H1 => tb σ H1 fun y H2 => ∃ a dx fs, x = .ref a ∧ H2 a = some (.ins C dx fs) ∧ sp [.ref a, y] H2 Q E
theorem pe_itemOwn {a b : Expr} {ta tb : TE} {pos : Pos} (hs : PySem.W.findIn X.K (.ref C) "__getitem__" = some (some (.ref g))) (hfn : PySem.W.fnIn X.K g = true) (hf : PySem.W.isFn X.K (.ref g) = true) (F : FnR X.prog X.w X.K X.mg X.base CX n g sp)
    (hr : Room (n + 1) X.A) (hx : Passes CX X E) (ha : PE X a ta) (hb : PE X b tb)
    (hsl : ∀ v u, subscripted b true v u = runValue (.builtin "lifetime.subscript" ⟨[v, u], []⟩) := by intro _ _; with_unfolding_all rfl) : PE X (.Subscript a b pos) (tItemOwn C sp E ta tb) := by
  refine ⟨fun pins s σ H Q I h => ?_⟩
  refine Subscript_ (binT ha hb I h fun v u s2 x y H2 I2 rx ry q => ?_)
  obtain ⟨a0, dx, fs, rfl, hins, q⟩ := q
  cases (show v = Value.ref a0 from rx)
  obtain ⟨od, J⟩ := ins_at I2 hins
  obtain ⟨m, hF⟩ := I2.fr
  exact PySem.W.sub_K hF I2.ok.mod.kin J hs hfn hf (wpAny_mono (wpAny_call (run_at (us := [.ref a0, u]) (ws := [.ref a0, y]) F (Room.in1 hr) I2.env0.in1 hx I2 (.cons rfl (.cons ry .nil)) q)) (fun w s' z => z) fun _ _ x => x) (hsl _ _)
/-- what stands right of ==: None, a text, an instance of an own class -/
def RightOf (K : PySem.W.Frag) (C : Addr) (H : Hp) (y : V) : Prop := (y = .non ∧ PySem.W.notFirst K C (.type "NoneType") = true) ∨ ((∃ z, y = .str z) ∧ PySem.W.notFirst K C (.type "str") = true) ∨
  ∃ b C' dy gs, y = .ref b ∧ H b = some (.ins C' dy gs) ∧ PySem.W.notFirst K C (.ref C') = true
def rEqOwn (K : PySem.W.Frag) (C : Addr) (sp : Sp) (E : XK) : R2 := fun x y H Q => ∃ a dx fs, x = .ref a ∧ H a = some (.ins C dx fs) ∧ RightOf K C H y ∧ sp [x, y] H Q E
theorem op_eqOwn (hs : PySem.W.findIn X.K (.ref C) (cmpInfo .Eq).2.1 = some (some (.ref g))) (hf : PySem.W.isFn X.K (.ref g) = true) (F : FnR X.prog X.w X.K X.mg X.base CX n g sp)
    (hr : Room n X.A) (hx : Passes CX X E) : OpR X (compareOp .Eq) (rEqOwn X.K C sp E) := by
  intro pins s σ H x y v u Q I rx ry h
  obtain ⟨a, dx, fs, rfl, ha, hy, q⟩ := h
  cases (show v = Value.ref a from rx)
  obtain ⟨od, J⟩ := ins_at I ha
  obtain ⟨m, hF⟩ := I.fr
  have tb : ∃ t, PySem.W.Looks (model X.prog X.w) s.heap (typeOf u) t ∧ PySem.W.notFirst X.K C t = true := by
    rcases hy with ⟨rfl, h⟩ | ⟨⟨z, rfl⟩, h⟩ | ⟨b, C', dy, gs, rfl, hb, h⟩
    · cases (show u = Value.none from ry)
      exact ⟨_, PySem.W.Looks.of_pure rfl, h⟩
    · obtain ⟨t, rfl⟩ := ry
      exact ⟨_, PySem.W.Looks.of_pure rfl, h⟩
    · cases (show u = Value.ref b from ry)
      obtain ⟨od', J'⟩ := ins_at I hb
      exact ⟨_, J'.type, h⟩
  obtain ⟨t, ht, hn⟩ := tb
  show wpAny _ _ (richCompare .Eq (.ref a) u) _ _ _
  refine PySem.W.cmp_K (op := .Eq) (tb := t) hr.units0 hF I.ok.mod.kin J ht hn hs hf ?_
  refine wpAny_mono (wpAny_call (run_fnR (us := [.ref a, u]) (vs := [.ref a, y]) F hr hx I (.cons rfl (.cons ry .nil)) q)) (fun w s' z => ?_) fun _ _ x => x
  obtain ⟨z', H', I', rz, qz⟩ := z
  exact cmpback rz ⟨z', H', I', rz, qz⟩
end
end L2.Vx

set_option Elab.async false
set_option linter.all false
set_option maxRecDepth 100000
set_option maxHeartbeats 2000000
namespace L2.Vx
open PySem PySem.Spec PyProof.Rows PySem.SeqAt
open AutoSeq1 (wpAny_loadPart')
open MeetsSeq
/-! ### a dict == a text: False -/
theorem dict_declines_str (l : Addr) (es : Array DictEntry) (ep : Nat) (dd : Option Addr) (sl : Array (Option Value)) (b : Str) (u : Tok) :
    Meets (Builtin.«dict.__eq__» ⟨[.ref l, .str b u], []⟩) (fun _ R s => s.heap.get? l = some { cls := .type "dict", dict := dd, data := .dict es ep, slots := sl } ∧ R (.ok (.ret .notImplemented)) s) :=
  .of_wp fun prog w A R s h => by
    obtain ⟨hp, g, d, tk, os⟩ := s
    obtain ⟨hl, h⟩ := h
    have f1 := F.sub_str_dict
    wp_walk using wpAny_loadPart' hl, wpAny_load hl
    exact ⟨_, rfl, h⟩
theorem str_declines_dict (b : Str) (u : Tok) (l : Addr) (es : Array DictEntry) (ep : Nat) (dd : Option Addr) (sl : Array (Option Value)) :
    Meets (Builtin.«str.__eq__» ⟨[.str b u, .ref l], []⟩) (fun _ R s => s.heap.get? l = some { cls := .type "dict", dict := dd, data := .dict es ep, slots := sl } ∧ R (.ok (.ret .notImplemented)) s) :=
  .of_wp fun prog w A R s h => by
    obtain ⟨hp, g, d, tk, os⟩ := s
    obtain ⟨hl, h⟩ := h
    wp_walk using wpAny_loadPart' hl, wpAny_load hl
    exact ⟨_, rfl, h⟩
def rEqDictStr : R2 := fun x y H Q => ∃ a kvs z, x = .ref a ∧ y = .str z ∧ H a = some (.dK kvs) ∧ Q (.bl false) H
theorem op_eqDictStr {X : Cx} (hu : X.A.units < cLine) : OpR X (compareOp .Eq) rEqDictStr := by
  intro pins s σ H x y v u Q I rx ry h
  obtain ⟨a, kvs, z, rfl, rfl, ha, q⟩ := h
  cases (show v = Value.ref a from rx)
  obtain ⟨t, rfl⟩ := ry
  obtain ⟨_, _, vs, _, p⟩ := (show ObjOk X.prog X.w H s.heap a (.dK kvs) from I.hok a _ ha)
  obtain ⟨⟨cls, dd, data, sl⟩, es, ep, ho, hx, hd, _⟩ := p
  have hc : cls = .type "dict" := hx.1
  have hd2 : data = .dict es ep := hd
  subst hc hd2
  show wpAny _ _ (richCompare .Eq (.ref a) (.str z t)) _ _ _
  exact rc_eq_decline_or (k := false) ⟨_, ho, rfl⟩ (typeIs_str s z t) (by decide) F.sub_str_dict F.slot_dict_eq F.slot_str_eq_refl
    (fun _ hq => call_meets F.slot_dict_eq ⟨_, ho, rfl⟩ F.entry_dict_eq (F.args_dict_eq_2 _ _) (dict_declines_str a es ep dd sl z t) ⟨ho, hq⟩)
    (fun _ hq => call_meets F.slot_str_eq_refl (typeIs_str s z t) F.entry_str_eq (F.args_str_eq_2 _ _) (str_declines_dict z t a es ep dd sl) ⟨ho, hq⟩)
    (fun _ hq => wpAny_of_eq (rfl : isSame (.ref a) (.str z t) = pure false) hq) (.inr hu) ⟨.bl false, H, I, rfl, q⟩
end L2.Vx

set_option Elab.async false
set_option linter.all false
set_option maxRecDepth 100000
set_option maxHeartbeats 2000000
namespace L2.Vx
open PySem PySem.Spec PyProof.Rows
open LamX (TabB)
/-- the end of a law whose def is told the guards, with one table of code objects, at PT, of the code object c -/
theorem law_callTG {P : Program} {w : World} {K : PySem.W.Frag} {mg mb : Str → Option Value} {CX : CXT} {k : Nat} {fa a c PT : Addr} {fd : FuncData} {x : Str} {sp : Sp}
    {s₁ : Shared} {vs : List Value} {ns : List Int}
    (KX : K.In s₁.heap) (hns : s₁.heap.Ns mainGlobals mg) (hb : s₁.heap.Ns builtinsNs mb) (hbb : ∀ x : Str, x ≠ "__name__" → mb x = bootBuiltins x)
    (hlim : s₁.heap.NoLimit) (hg : s₁.gens = #[]) (hT : s₁.heap.get? PT = some { cls := .none, data := .fields #[] }) (nT : K.lookup PT = none) (CH : PySem.W.CodeHd s₁.heap c PT)
    (hbm : ∃ (bm : Addr) (ob : Obj), mg "__builtins__" = some (.ref bm) ∧ bm ≠ builtinsNs ∧ s₁.heap.get? bm = some ob ∧ ob.cls = .type "module" ∧ ob.dict = some builtinsNs ∧ ob.data = .plain)
    (ha : s₁.heap.get? a = some { cls := .type "list", data := .seq vs.toArray }) (hi : IntsAre vs ns)
    (hl : ns.length ≤ sizeLine) (hr : Room k callerA)
    (F : ∀ base : Heap, K.In base → base.Ns mainGlobals mg → TabB base mg c PT → FnG P w K mg base CX k fa fd [x] sp)
    (hbind : ∀ (s : Shared) (u : Value), BindsTo s fd ⟨[u], []⟩ [(x, u)])
    (hsp : ∀ H : Hp, H PT = some (.tbl #[]) → SqL K H a (ns.map V.int) → sp [.ref a] H (fun v _ => v = .bl true) fun _ _ _ => False)
    (hCX : ∀ H e s', CX [] H s₁ (fun _ _ _ => False) e s' → False) :
    codeAny (model P w) callerA (.call (.ref fa) ⟨[.ref a], []⟩)
      (fun r s' => r = .ok (.ret (.bool true)) ∧ OldK s₁.heap s'.heap ∧ s'.os = s₁.os ∧ AllBare s'.gens) s₁ := by
  have lenV := hi.length
  have rv := vals_ints hi
  have aPT : a ≠ PT := fun z => by
    rw [z, hT] at ha
    cases ha
  have any : ∀ H : Hp, H PT = some (.tbl #[]) → SqL K H a (ns.map V.int) → HOk P w H s₁.heap → (∀ b u, H b = some u → b = PT ∨ (b = a ∧ ∃ o xs, u = .frz o (.lst xs))) → (∀ u, H a = some u → K.lookup a = none) →
      codeAny (model P w) callerA (.call (.ref fa) ⟨[.ref a], []⟩)
        (fun r s' => r = .ok (.ret (.bool true)) ∧ OldK s₁.heap s'.heap ∧ s'.os = s₁.os ∧ AllBare s'.gens) s₁ := by
    intro H hP hS hok only free
    have stays : ∀ {b : Addr} {o : Obj}, s₁.heap.get? b = some o → (∀ u, H b = some u → False) → (hidT s₁.heap H).get? b = some o := by
      intro b o e n
      refine hidT_get e ?_
      cases q : H b with
      | none => rfl
      | some u => exact (n u q).elim
    have other : ∀ {b : Addr} {o : Obj}, s₁.heap.get? b = some o → (∀ vs n, o.data ≠ .seq vs n) → o.data ≠ .fields #[] → (hidT s₁.heap H).get? b = some o := by
      intro b o e n1 n2
      refine stays e fun u q => ?_
      rcases only b u q with eb | ⟨eb, _⟩
      · rw [eb, hT] at e
        cases e
        exact n2 rfl
      · rw [eb, ha] at e
        cases e
        exact n1 _ _ rfl
    have ns' : ∀ {b : Addr} {m : Str → Option Value}, s₁.heap.Ns b m → (hidT s₁.heap H).Ns b m := by
      intro b m h
      obtain ⟨o, es, ep, e, d, r⟩ := h
      exact ⟨o, es, ep, other e (fun _ _ z => by rw [d] at z; cases z) (fun z => by rw [d] at z; cases z), d, r⟩
    have KB : K.In (hidT s₁.heap H) := by
      intro b o e
      refine stays (KX b o e) fun u q => ?_
      rcases only b u q with eb | ⟨eb, _⟩
      · rw [eb, nT] at e
        cases e
      · rw [eb] at q e
        rw [free u q] at e
        cases e
    have M : Mod K mg (hidT s₁.heap H) := by
      obtain ⟨mc, h1, h2⟩ := hlim
      exact ⟨KB, ns' hns, ⟨mb, ns' hb, hbb⟩, ⟨mc, ns' h1, h2⟩⟩
    have TB : TabB (hidT s₁.heap H) mg c PT := by
      refine ⟨?_, ?_, fun z => ?_⟩
      · obtain ⟨o, us, file, tf, flags, tg, inF, text, tt, q1, qc, q2, q3, rest⟩ := CH
        refine ⟨o, us, file, tf, flags, tg, inF, text, tt, other q1 (fun _ _ z => by rw [q2] at z; cases z) (fun z => ?_), qc, q2, q3, rest⟩
        rw [q2] at z
        cases z
        simp at q3
      · obtain ⟨bm, ob, b1, b2, b3, b4, b5, b6⟩ := hbm
        refine ⟨bm, ob, b1, b2, fun q => ?_, fun q => ?_, other b3 (fun _ _ z => by rw [b6] at z; cases z) (fun z => by rw [b6] at z; cases z), b4, b5, b6⟩
        · obtain ⟨o, es, ep, e, d, _⟩ := hns
          rw [q, e] at b3
          cases b3
          rw [d] at b6
          cases b6
        · rw [q, hT] at b3
          cases b3
          cases b6
      · obtain ⟨o, es, ep, e, d, _⟩ := hns
        rw [z, hT] at e
        cases e
        cases d
    have e0 : Env0 P w K mg (hidT s₁.heap H) callerA [] s₁ H :=
      { frames := rfl, mod := M, bs := fun b o e => of_hidT e, bsz := Nat.le_of_eq (hidT_size _ _), funs := trivial, frf := fun b z => (by cases z), hok := hok, bare := .of_eq hg }
    have run := (F _ KB (ns' hns) TB).run callerA [] s₁ H ⟨[.ref a], []⟩ [.ref a] [.ref a] _ _ rfl hr e0 (hbind s₁ (.ref a)) (.cons rfl .nil) (hsp H hP hS)
    refine codeAny_mono run fun r s' h => ?_
    match r, h with
    | .error e, h => exact (hCX H e s' h).elim
    | .ok .next, h => exact h.elim
    | .ok .brk, h => exact h.elim
    | .ok .cont, h => exact h.elim
    | .ok (.ret u), ⟨v, H', os, bare, un, hok', r', q⟩ =>
      obtain rfl : v = .bl true := q
      obtain rfl : u = Value.bool true := r'
      have kept : ∀ b o, b ≠ PT → s₁.heap.get? b = some o → s'.heap.get? b = some o := fun b o nb e => by
        cases z : H b with
        | none => exact un.keep b o e z (fun z => by cases z) (fun z => by cases z)
        | some u =>
          rcases only b u z with eb | ⟨_, ob, xs, eu⟩
          · exact absurd eb nb
          · subst eu
            obtain ⟨e1, _⟩ := hok b _ z
            obtain ⟨e2, _⟩ := hok' b _ (un.frzs b ob _ z)
            rw [e] at e1
            cases e1
            exact e2
      obtain ⟨more, hm⟩ : ∃ more : Array Value, s'.heap.get? PT = some { cls := .none, data := .fields more } := by
        obtain ⟨more, z⟩ := un.tbls PT #[] hP
        exact ⟨_, hok' PT _ z⟩
      refine ⟨rfl, ⟨fun b o e => ?_, fun b o e => ?_⟩, os, bare⟩
      · by_cases hbP : b = PT
        · subst hbP
          rw [hT] at e
          cases e
          exact .inr (.inl ⟨(CH.tab hT).isCodeTable, rfl, #[], more, rfl, by rw [Array.empty_append]; exact hm⟩)
        · exact .inl (kept b o hbP e)
      · by_cases hbP : b = PT
        · subst hbP
          exact ⟨_, hm⟩
        · exact ⟨o, kept b o hbP e⟩
  have tblOk : ∀ {H : Hp}, ObjOk P w H s₁.heap PT (.tbl #[]) := fun {H} => hT
  cases hk : K.lookup a with
  | some o =>
    have e := KX a o hk
    rw [ha] at e
    cases e
    refine any (fun b => if b = PT then some (.tbl #[]) else none) (if_pos rfl) (.inr ⟨_, vs.toArray, _, hk, rfl, rfl, rfl, ?_, by simpa using rv⟩) (fun b u z => ?_) (fun b u z => ?_) (fun u z => ?_)
    · rw [List.size_toArray, lenV]
      exact hl
    · by_cases q : b = PT
      · subst q
        have z := (if_pos rfl).symm.trans z
        cases z
        exact tblOk
      · have z := (if_neg q).symm.trans z
        cases z
    · by_cases q : b = PT
      · exact .inl q
      · have z := (if_neg q).symm.trans z
        cases z
    · have z := (if_neg aPT).symm.trans z
      cases z
  | none =>
    refine any (fun b => if b = PT then some (.tbl #[]) else if b = a then some (.frz { cls := .type "list", data := .seq vs.toArray } (.lst (ns.map V.int))) else none) (if_pos rfl)
      (.inl (.inr ⟨{ cls := .type "list", data := .seq vs.toArray }, (if_neg aPT).trans (if_pos rfl)⟩)) (fun b u z => ?_) (fun b u z => ?_) (fun _ _ => hk)
    · by_cases q : b = PT
      · subst q
        have z := (if_pos rfl).symm.trans z
        cases z
        exact tblOk
      · have z := (if_neg q).symm.trans z
        by_cases q2 : b = a
        · subst q2
          have z := (if_pos rfl).symm.trans z
          cases z
          exact ⟨ha, by rw [List.length_map]; exact hl, vs, _, rv, ha⟩
        · have z := (if_neg q2).symm.trans z
          cases z
    · by_cases q : b = PT
      · exact .inl q
      · have z := (if_neg q).symm.trans z
        by_cases q2 : b = a
        · subst q2
          have z := (if_pos rfl).symm.trans z
          cases z
          exact .inr ⟨rfl, _, _, rfl⟩
        · have z := (if_neg q2).symm.trans z
          cases z
theorem walk_ofTEG {l : PySem.W.OpenLaw} {n k : Nat} {q : Program} {loose : List Str} {XP : (Str → Option Value) → Heap → Prop} {YP : World → Heap → Prop} {d : DefRec} {CX : CXT} {x : Str}
    (hn : l.most = some n) (hn2 : n ≤ sizeLine) (hdf : d.params.defaults = []) (hr : Room k callerA)
    (F : ∀ (w : World) (mg : Str → Option Value) (fa : Addr) (h : Heap), YP w h → h.Ns mainGlobals mg → mg d.name = some (.ref fa) →
      ∃ (K : PySem.W.Frag) (c PT : Addr) (fd : FuncData) (sp : Sp), K.In h ∧ h.get? PT = some { cls := .none, data := .fields #[] } ∧ K.lookup PT = none ∧ PySem.W.CodeHd h c PT ∧
        (∀ (s : Shared) (u : Value), BindsTo s fd ⟨[u], []⟩ [(x, u)]) ∧
        (∀ (H : Hp) (a : Addr) (ns : List Int), ns.length ≤ n → H PT = some (.tbl #[]) → SqL K H a (ns.map V.int) → sp [.ref a] H (fun v _ => v = .bl true) fun _ _ _ => False) ∧
        ∀ base : Heap, K.In base → base.Ns mainGlobals mg → TabB base mg c PT → FnG l.prog w K mg base CX k fa fd [x] sp)
    (hCX : ∀ (H : Hp) (s : Shared) (e : Value) (s' : Shared), CX [] H s (fun _ _ _ => False) e s' → False) :
    PySem.W.WalkO q loose XP YP l.row.toRowW d [] (fun f vs => PySem.call f vs) := by
  refine Att.attach_callB hn hdf fun w s₀ s₁ mg mb fa o pm cd doc a vs ns G Y ho hd hcd hmg hobj hints hlen hbits hg => ?_
  obtain ⟨K, c, PT, fd, sp, KX, hT, nT, CH, hb, hsp, hF⟩ := F w mg fa _ Y G.T.g hmg
  exact law_callTG KX G.T.g G.T.b G.T.builtins G.T.nolimit hg hT nT CH G.T.bmain hobj hints (Nat.le_trans hlen hn2) hr hF hb (fun H hH hS => hsp H a ns hlen hH hS) fun H e s' => hCX H s₁ e s'
section
variable {P : Program} {w : World} {K : PySem.W.Frag} {mg : Str → Option Value} {base : Heap}
/-- a def that is told the guards, its code object known -/
theorem okGC {x qual : Str} {st : Stmt} {f c : Addr} {fd : FuncData} {N ps : List Str} {k : Nat} {sp : Sp} (F : Fun K x qual st f fd) (hc : fd.code = .ref c)
    (S : FnScope N ps (defScope st)) (len : ∀ vs H Q E, sp vs H Q E → vs.length = ps.length)
    (hbody : ∀ (A : Around) (outer : List Env) (s : Shared) (H : Hp) (vs : List V) (Q : VK) (E : XK), A.guards = some [] →
      Room k (A.deeper (envOfC qual (defScope st) s.heap.objs.size f (.ref c))) → sp vs H Q E →
      ∃ t, PSs (cxOf CX0 P w K mg base N qual (defScope st) f (.ref c) A outer s H E) (defBody st) t ∧
        t { nx := fun _ H' => Q .non H', rt := Q } (start N vs) H) : FnG P w K mg base CX0 (k + 1) f fd ps sp := by
  obtain ⟨oc, od, kV, doc, pm, an, cdv, ct, osl, rfl, lk, hcd⟩ := F.ex
  obtain rfl : cdv = .ref c := hc
  refine ⟨len, fun A outer s H args us vs Q E gd hr e0 hb r hsp => ?_⟩
  have old : ∀ b o, base.get? b = some o → s.heap.get? b = some o := fun b o e => (e0.bs b o e).1
  have KX : K.In s.heap := e0.mod.kin.keeps old
  have par : ∀ y ∈ ps.zip us, (defScope st).names.lookup y.1 = some .local ∨
      ((defScope st).names.lookup y.1 = some .cell ∧ ((cellsFrom (s.heap.objs.size + 1) (defScope st).names []).lookup y.1).isSome = true) := by
    intro y hy
    obtain ⟨n, v⟩ := y
    rcases S.par n (List.of_mem_zip hy).1 with q | q
    · exact .inl q
    · exact .inr ⟨q, PySem.W.cellsFrom_some _ _ _ (.inl q)⟩
  refine codeAny_call_function hr.depth (KX _ _ lk) rfl S.co S.gen rfl (PySem.W.codeRec_of KX hcd) (hb _ _ _ _ ?_)
  refine wpAny_newFunctionEnv_cells S.kind par fun env he s1 ic => ?_
  subst he
  refine ⟨(e0.mod.nolimit.keeps old).keeps ic.toInCall.keep, codeAny_func ?_⟩
  obtain ⟨t, ht, hq⟩ := hbody A outer s H vs Q E gd (hr.deeper _) hsp
  have I := inv_start (CX := CX0) (E := E) S hr.hd e0 (len _ _ _ _ hsp) r ic
  refine wpAny_mono (ht.run [] s1 _ H _ I hq) (fun fl s' hs => ?_) fun _ _ z => z
  match fl, hs with
  | .ret u, ⟨v, σ', H', J, rv, q⟩ => exact ⟨v, H', J.os, J.bare, J.base, J.hok, rv, q⟩
  | .next, ⟨σ', H', J, q⟩ => exact ⟨V.non, H', J.os, J.bare, J.base, J.hok, rfl, q⟩
  | .brk, ⟨_, _, _, q⟩ => exact q.elim
  | .cont, ⟨_, _, _, q⟩ => exact q.elim
end
end L2.Vx

set_option Elab.async false
set_option linter.all false
set_option maxRecDepth 100000
set_option maxHeartbeats 0
namespace L2.K07
open PySem PySem.Spec PyProof.Rows L2.Vx
open PySem.W (Frag)
def top (i : Nat) : Stmt := PySem.Challenge.pw_wobblesnap_k07_plans_as_told.main.body.getD i (.Pass ⟨0, 0, 0, 0⟩)
abbrev sDErr : Stmt := inClass (top 2) 0
abbrev sIsName : Stmt := top 10
abbrev sCons : Stmt := top 11
abbrev sNum : Stmt := top 12
abbrev sSgn : Stmt := top 13
abbrev sPlan : Stmt := inClass (top 20) 0
abbrev sPEq : Stmt := inClass (top 20) 2
abbrev sPLen : Stmt := inClass (top 20) 3
abbrev sPHas : Stmt := inClass (top 20) 4
abbrev sPGet : Stmt := inClass (top 20) 5
abbrev sHand : Stmt := top 21
abbrev sClicks : Stmt := top 22
abbrev sWall : Stmt := top 23
abbrev sPoint : Stmt := top 24
abbrev sAim : Stmt := top 25
abbrev sCross : Stmt := top 26
abbrev sBound : Stmt := top 27
abbrev sPot : Stmt := top 29
abbrev sTake : Stmt := top 30
abbrev sOf : Stmt := top 31
abbrev sSome : Stmt := top 32
abbrev sCells : Stmt := top 33
abbrev sTold : Stmt := top 34
abbrev sOdd : Stmt := top 35
abbrev sNames : Stmt := top 36
abbrev sLAim : Stmt := top 37
abbrev sSomeP : Stmt := top 38
abbrev sLine : Stmt := top 39
abbrev sPText : Stmt := top 40
abbrev sPNames : Stmt := top 41
abbrev sLBound : Stmt := top 42
abbrev sFar : Stmt := top 43
abbrev sRight : Stmt := top 44
abbrev sLaw : Stmt := top 45
end L2.K07

set_option Elab.async false
set_option linter.all false
set_option maxRecDepth 100000
set_option maxHeartbeats 4000000
namespace L2.K07
open PySem PySem.Spec PyProof.Rows L2.Vx
open PySem.W (Frag)
/-! ### heaps in which one list may change -/
/-- all but what stands at p is as it was -/
def But (p : Addr) (H H' : Hp) : Prop := ∀ b o, b ≠ p → H b = some o → H' b = some o
theorem But.refl (p : Addr) (H : Hp) : But p H H := fun _ _ _ e => e
theorem But.trans {p : Addr} {H H1 H2 : Hp} (a : But p H H1) (b : But p H1 H2) : But p H H2 := fun c o n e => b c o n (a c o n e)
theorem But.of {p : Addr} {H H' : Hp} (s : Same H H') : But p H H' := fun b o _ e => s b o e
theorem But.upd {p : Addr} {H : Hp} {o : HO} : But p H (upd H p o) := fun b u n e => by
  rw [upd_ne n]
  exact e
theorem But.seq {p a : Addr} {K : Frag} {H H' : Hp} {xs : List V} (k : But p H H') (n : a ≠ p) (h : SqL K H a xs) : SqL K H' a xs := by
  rcases h with (h | ⟨o, h⟩) | h
  · exact .inl (.inl (k _ _ n h))
  · exact .inl (.inr ⟨o, k _ _ n h⟩)
  · exact .inr h
theorem But.tup {p a : Addr} {K : Frag} {H H' : Hp} {xs : List V} (k : But p H H') (n : a ≠ p) (h : SqT K H a xs) : SqT K H' a xs := by
  rcases h with (h | ⟨o, h⟩) | h
  · exact .inl (.inl (k _ _ n h))
  · exact .inl (.inr ⟨o, k _ _ n h⟩)
  · exact .inr h
theorem But.free {p b : Addr} {H H' : Hp} {o : HO} (k : But p H H') (h : H' b = none) (hp : H' p = some o) : H b = none := by
  cases e : H b with
  | none => rfl
  | some u =>
    have n : b ≠ p := fun z => by rw [z, hp] at h; cases h
    rw [k b u n e] at h
    cases h
/-- a pot of draws, of which not more than k mixed numbers have come -/
def Pot (H : Hp) (p : Addr) (k : Int) : Prop := ∃ own b c : Int, H p = some (.lst [.int own, .int b, .int c]) ∧ 0 ≤ own ∧ 0 ≤ b ∧ b < 2305843009213693921 ∧ 0 ≤ c ∧ c ≤ k
theorem Pot.same {H H' : Hp} {p : Addr} {k : Int} (h : Pot H p k) (s : Same H H') : Pot H' p k := by
  obtain ⟨o, b, c, e, r⟩ := h
  exact ⟨o, b, c, s _ _ e, r⟩
theorem Pot.mono {H : Hp} {p : Addr} {k j : Int} (h : Pot H p k) (l : k ≤ j) : Pot H p j := by
  obtain ⟨o, b, c, e, r1, r2, r3, r4, r5⟩ := h
  exact ⟨o, b, c, e, r1, r2, r3, r4, by omega⟩
theorem Pot.ne {H : Hp} {p a : Addr} {k : Int} (h : Pot H p k) (e : H a = none) : a ≠ p := by
  obtain ⟨o, b, c, e', _⟩ := h
  exact fun z => by rw [z, e'] at e; cases e
theorem Pot.some {H : Hp} {p : Addr} {k : Int} (h : Pot H p k) : ∃ o, H p = some o := by
  obtain ⟨o, b, c, e', _⟩ := h
  exact ⟨_, e'⟩
theorem op_powW {X : Cx} : OpR X (binaryOp .Pow) (rI (fun i j => 0 ≤ j ∧ (Builtin.Int.intBits i : Int) * j ≤ 2 ^ 27) fun i j => .int (i ^ j.toNat)) :=
  opI fun _ _ _ _ _ _ _ hc q => pow_int hc.1 hc.2 q
/-- the built-in names that the draws call -/
structure Dx (mg : Str → Option Value) : Prop where
  len : mg "len" = none
  abs : mg "abs" = none
  int : mg "int" = none
  max : mg "max" = none
  min : mg "min" = none
  range : mg "range" = none
  list : mg "list" = none
abbrev FD (K : Frag) (x : Str) (st : Stmt) (f : Addr) (fd : FuncData) : Prop := Fun K x x st f fd
def spPot (K : Frag) : Sp := fun vs H Q _ => ∃ (a : Addr) (ns : List Int) (i : Int), vs = [.ref a, .int i] ∧ SqL K H a (ns.map V.int) ∧ ns.length ≤ 63 ∧ 0 ≤ i ∧ i ≤ 63 ∧
  ∀ H' p, Same H H' → H p = none → Pot H' p 0 → Q (.ref p) H'
def spTake : Sp := fun vs H Q _ => ∃ (p : Addr) (n k : Int), vs = [.ref p, .int n] ∧ 0 < n ∧ n ≤ 1000 ∧ k < 1000000 ∧ Pot H p k ∧
  ∀ H' i, But p H H' → Pot H' p (k + 1) → 0 ≤ i → i < n → Q (.int i) H'
def spOf (K : Frag) : Sp := fun vs H Q _ => ∃ (p l : Addr) (xs : List V) (k : Int), vs = [.ref p, .ref l] ∧ l ≠ p ∧ SqL K H l xs ∧ 0 < xs.length ∧ xs.length ≤ 1000 ∧ k < 1000000 ∧ Pot H p k ∧
  ∀ H' v, But p H H' → Pot H' p (k + 1) → v ∈ xs → Q v H'
theorem pow_pos1 : (0 : Int) < (10 ^ Int.toNat 60) ^ Int.toNat 5 := by decide +kernel
theorem bit_small (b : Bool) : -(2 ^ 64 : Int) < (if b = true then (1 : Int) else 0) ∧ (if b = true then (1 : Int) else 0) < 2 ^ 64 := by cases b <;> decide
theorem sq_small {c : Int} (h0 : 0 ≤ c) (h : c ≤ 1000000) : 100069 * c * c ≤ 100069000000000000 ∧ 0 ≤ 100069 * c * c := by
  have h1 : c * c ≤ 1000000 * 1000000 := Int.mul_le_mul h h h0 (by decide)
  have h2 : 0 ≤ c * c := Int.mul_nonneg h0 h0
  rw [Int.mul_assoc]
  omega
/-- the primes -/
abbrev primes : List V := [.int 2147483647, .int 2147483629, .int 2147483587, .int 2147483579, .int 2147483563]
theorem prime_at {i : Int} (h0 : 0 ≤ i) (h1 : i < 5) : ∃ q, atI primes i = some (.int q) ∧ 0 < q ∧ q < 2147483648 := by
  have h : i = 0 ∨ i = 1 ∨ i = 2 ∨ i = 3 ∨ i = 4 := by omega
  rcases h with rfl | rfl | rfl | rfl | rfl
  · exact ⟨_, rfl, by decide, by decide⟩
  · exact ⟨_, rfl, by decide, by decide⟩
  · exact ⟨_, rfl, by decide, by decide⟩
  · exact ⟨_, rfl, by decide, by decide⟩
  · exact ⟨_, rfl, by decide, by decide⟩
theorem own_nn (m : Int) (b : Bool) : 0 ≤ (if m < 0 then -m else m) % (10 ^ Int.toNat 60) ^ Int.toNat 5 * (if b = true then 1 else 0) :=
  Int.mul_nonneg (Int.emod_nonneg _ (Int.ne_of_gt pow_pos1)) (by split <;> decide)
section
variable {P : Program} {w : World} {K : Frag} {mg : Str → Option Value} {bs : Heap}
theorem scPot : FnScope ["script", "place", "cell", "own", "small"] ["script", "place"] (defScope sPot) := ⟨rfl, rfl, rfl, by decide +kernel, rfl, by decide +kernel, by decide +kernel⟩
theorem ok_pot {f : Addr} {fd : FuncData} (FP : FD K "_law_pot" sPot f fd) (F : Dx mg) : FnOk P w K mg bs CX0 1 f fd ["script", "place"] (spPot K) := by
  have sc := scPot
  refine FP.ok scPot (fun vs H Q E h => ?_) (fun cdv A outer s H vs Q E hr h => ?_)
  · obtain ⟨a, ns, i, rfl, _⟩ := h
    rfl
  · obtain ⟨a, ns, i, rfl, hS, hl, hi0, hi1, k⟩ := h
    obtain ⟨j, rfl⟩ : ∃ j : Nat, i = (j : Int) := ⟨i.toNat, by omega⟩
    refine ⟨_, pss_cons (ps_set (i := 2) sc.nd rfl (Or.inl rfl) (pe_ifExp (pt_cmpR op_lt (pv 1) (pe_callB call_len_seq (by rfl) F.len boot_len (pa_cons (pv 0) pa_nil)) (nomark _))
          (pe_ix ix_list (pv 0) (pv 1) (fun _ _ => rfl)) (pe_op op_add (pe_op op_mul pe_int (pv 1)) pe_int)))
      (pss_cons (ps_set (i := 3) sc.nd rfl (Or.inl rfl) (pe_op op_mul (pe_op op_mod (pe_callTy call_int1 (by rfl) F.int boot_int (pa_cons (pe_callB call_abs (by rfl) F.abs boot_abs (pa_cons (pv 2) pa_nil)) pa_nil))
            (pe_op op_powW (pe_op op_pow pe_int pe_int) pe_int))
          (pe_callTy call_int1 (by rfl) F.int boot_int (pa_cons (pe_cmpR op_ge (pe_callB call_abs (by rfl) F.abs boot_abs (pa_cons (pv 2) pa_nil)) (pe_op op_pow pe_int pe_int) (nomark _)) pa_nil))))
      (pss_cons (ps_set (i := 4) sc.nd rfl (Or.inl rfl) (pe_op op_mod (pe_callTy call_int1 (by rfl) F.int boot_int (pa_cons (pv 2) pa_nil)) pe_int))
      (pss_one (ps_ret (pe_lst (pa_cons (pv 3) (pa_cons (pe_op op_mod (pe_callTy call_int1 (by rfl) F.int boot_int (pa_cons
          (pe_op op_add (pe_op op_add (pe_op op_mul (pv 4) pe_int) (pe_op op_mul (pe_op op_mul pe_int (pv 1)) (pv 1))) pe_int) pa_nil)) pe_int) (pa_cons pe_int pa_nil)))))))), ?_⟩
    refine rd_seq (rd_set ?_)
    refine ⟨_, rfl, _, rfl, a, _, rfl, .inl hS, _, _, rfl, rfl, _, rfl, ?_⟩
    by_cases c : ((j : Nat) : Int) < ((ns.map V.int).length : Int)
    case' pos =>
      have hlt : j < ns.length := by
        rw [List.length_map] at c
        omega
      refine Eq.mpr (if_pos (decide_eq_true c)) ?_
      refine ⟨_, rfl, _, rfl, a, _, (j : Int), .int ns[j], rfl, rfl, hS, atI_nat (by rw [List.getElem?_map, List.getElem?_eq_getElem hlt]; rfl), ?_⟩
      generalize ns[j] = m
    case' neg =>
      refine Eq.mpr (if_neg (by rw [decide_eq_false c]; exact Bool.false_ne_true)) ?_
      refine ⟨_, rfl, _, _, rfl, rfl, .inl ⟨by decide, by decide⟩, _, _, rfl, rfl, ?_⟩
      generalize 41 * ((j : Nat) : Int) + 23 = m
    all_goals
      dsimp only
      refine rd_seq (rd_set ?_)
      refine ⟨_, rfl, _, rfl, .inl ⟨_, rfl, _, _, rfl, rfl, ⟨by decide, by decide, by decide⟩, _, _, rfl, rfl, ⟨by decide, by decide +kernel⟩, _, _, rfl, rfl, (by exact pow_pos1), _, rfl, _, rfl, _, _, rfl, rfl, ⟨by decide, by decide, by decide⟩, _, _, rfl, rfl,
        .inr ⟨_, rfl, _, _, rfl, rfl, .inr (bit_small _), ?_⟩⟩⟩
      dsimp only
      refine rd_seq (rd_set ?_)
      refine ⟨_, rfl, .inl ⟨_, rfl, _, _, rfl, rfl, (by exact (by decide : (0 : Int) < 2305843009213693951)), ?_⟩⟩
      refine ⟨_, rfl, _, rfl, _, _, rfl, rfl, .inr ⟨by decide, by decide⟩, _, rfl, _, _, rfl, rfl, .inl ⟨by decide, by decide⟩, _, rfl, _, _, rfl, rfl, .inr ⟨by omega, by omega⟩, _, _, rfl, rfl, _, _, rfl, rfl,
        .inl ⟨_, rfl, _, _, rfl, rfl, (by exact (by decide : (0 : Int) < 2305843009213693921)), (by exact (by decide : 3 ≤ sizeLine)), fun p hp => ?_⟩⟩
      refine k _ p (same_new hp) hp ⟨_, _, _, upd_same, own_nn _ _, Int.emod_nonneg _ (by decide), Int.emod_lt_of_pos _ (by decide), Int.le_refl _, Int.le_refl _⟩
theorem scTake : FnScope ["pot", "upto", "digit", "prime", "mixed"] ["pot", "upto"] (defScope sTake) := ⟨rfl, rfl, rfl, by decide +kernel, rfl, by decide +kernel, by decide +kernel⟩
theorem ok_take {f : Addr} {fd : FuncData} (FP : FD K "_law_take" sTake f fd) (F : Dx mg) : FnOk P w K mg bs CX0 1 f fd ["pot", "upto"] spTake := by
  have sc := scTake
  refine FP.ok scTake (fun vs H Q E h => ?_) (fun cdv A outer s H vs Q E hr h => ?_)
  · obtain ⟨p, n, i, rfl, _⟩ := h
    rfl
  · obtain ⟨p, n, t, rfl, hn0, hn1, ht, ⟨own, b, c, hp, ho, hb0, hb1, hc0, hc1⟩, k⟩ := h
    refine ⟨_, pss_cons (ps_if (pt_cmpR op_gt (pe_ix ix_list (pv 0) pe_int (fun _ _ => rfl)) pe_int (nomark _))
        (pss_cons (ps_set (i := 2) sc.nd rfl (Or.inl rfl) (pe_op op_mod (pe_callTy call_int1 (by rfl) F.int boot_int (pa_cons (pe_ix ix_list (pv 0) pe_int (fun _ _ => rfl)) pa_nil)) (pv 1)))
        (pss_cons (ps_asg (pe_op op_fdiv (pe_ix ix_list (pv 0) pe_int (fun _ _ => rfl)) (pv 1)) (pg_sub (pv 0) pe_int set_list))
        (pss_one (ps_ret (pv 2))))) pss_nil)
      (pss_cons (ps_asg (pe_op op_add (pe_ix ix_list (pv 0) pe_int (fun _ _ => rfl)) pe_int) (pg_sub (pv 0) pe_int set_list))
      (pss_cons (ps_set (i := 3) sc.nd rfl (Or.inl rfl) (pe_ix ix_list (pe_lst (pa_cons pe_int (pa_cons pe_int (pa_cons pe_int (pa_cons pe_int (pa_cons pe_int pa_nil))))))
          (pe_op op_mod (pe_callTy call_int1 (by rfl) F.int boot_int (pa_cons (pe_ix ix_list (pv 0) pe_int (fun _ _ => rfl)) pa_nil)) pe_int) (fun _ _ => rfl)))
      (pss_cons (ps_set (i := 4) sc.nd rfl (Or.inl rfl) (pe_op op_mod (pe_callTy call_int1 (by rfl) F.int boot_int (pa_cons (pe_op op_pow (pe_callTy call_int1 (by rfl) F.int boot_int (pa_cons
          (pe_op op_add (pe_op op_add (pe_ix ix_list (pv 0) pe_int (fun _ _ => rfl)) (pe_op op_mul (pe_op op_mul pe_int (pe_ix ix_list (pv 0) pe_int (fun _ _ => rfl))) (pe_ix ix_list (pv 0) pe_int (fun _ _ => rfl)))) pe_int) pa_nil)) pe_int) pa_nil)) (pv 3)))
      (pss_cons (ps_set (i := 4) sc.nd rfl (Or.inl rfl) (pe_op op_mod (pe_callTy call_int1 (by rfl) F.int boot_int (pa_cons
          (pe_op op_mul (pv 4) (pe_op op_add (pe_op op_mod (pe_callTy call_int1 (by rfl) F.int boot_int (pa_cons (pv 4) pa_nil)) pe_int) (pe_op op_mul pe_int (pe_ix ix_list (pv 0) pe_int (fun _ _ => rfl))))) pa_nil)) pe_int))
      (pss_one (ps_ret (pe_op op_mod (pe_callTy call_int1 (by rfl) F.int boot_int (pa_cons (pe_op op_fdiv (pv 4) pe_int) pa_nil)) (pv 1)))))))), ?_⟩
    have hS : SqL K H p [.int own, .int b, .int c] := SqL.of hp
    refine rd_seq (rd_if ?_)
    refine ⟨_, rfl, p, _, 0, .int own, rfl, rfl, hS, rfl, _, _, rfl, rfl, _, rfl, ?_⟩
    by_cases q : 0 < own
    · refine Eq.mpr (if_pos (decide_eq_true q)) ?_
      refine rd_seq (rd_set ?_)
      refine ⟨_, rfl, p, _, 0, .int own, rfl, rfl, hS, rfl, .inl ⟨_, rfl, _, rfl, _, _, rfl, rfl, hn0, ?_⟩⟩
      dsimp only
      refine ⟨_, rfl, p, _, 0, .int own, rfl, rfl, hS, rfl, _, rfl, _, _, rfl, rfl, ⟨hn0, by omega⟩, _, rfl, p, _, 0, 0, rfl, rfl, hp, rfl, ?_⟩
      refine ⟨_, rfl, k _ _ But.upd ⟨own / n, b, c, upd_same, Int.ediv_nonneg ho (by omega), hb0, hb1, hc0, by omega⟩ (Int.emod_nonneg _ (by omega)) (Int.emod_lt_of_pos _ hn0)⟩
    · refine Eq.mpr (if_neg (by rw [decide_eq_false q]; exact Bool.false_ne_true)) ?_
      dsimp only
      refine ⟨_, rfl, p, _, 2, .int c, rfl, rfl, hS, rfl, _, _, rfl, rfl, _, rfl, p, _, 2, 2, rfl, rfl, hp, rfl, ?_⟩
      have hp1 : upd H p (.lst [.int own, .int b, .int (c + 1)]) p = some (.lst [.int own, .int b, .int (c + 1)]) := upd_same
      have k1 : But p H (upd H p (.lst [.int own, .int b, .int (c + 1)])) := But.upd
      dsimp only
      have eL : ([V.int own, V.int b, V.int c] : List V).set 2 (V.int (c + 1)) = [V.int own, V.int b, V.int (c + 1)] := rfl
      rw [eL]
      generalize upd H p (.lst [.int own, .int b, .int (c + 1)]) = H1 at hp1 k1 ⊢
      refine rd_seq (rd_set ?_)
      refine ⟨(by exact (by decide : 5 ≤ sizeLine)), fun l hl => ?_⟩
      have hp2 := same_new (o := .lst primes) hl _ _ hp1
      have k2 := k1.trans (But.of (same_new (o := .lst primes) hl))
      have hl2 : upd H1 l (.lst primes) l = some (.lst primes) := upd_same
      generalize upd H1 l (.lst primes) = H2 at hp2 k2 hl2 ⊢
      obtain ⟨q5, hq5, hq0, hq1⟩ := prime_at (Int.emod_nonneg (c + 1) (by decide : (5 : Int) ≠ 0)) (Int.emod_lt_of_pos (c + 1) (by decide : (0 : Int) < 5))
      have hS2 : SqL K H2 p [.int own, .int b, .int (c + 1)] := SqL.of hp2
      refine ⟨_, rfl, p, _, 2, .int (c + 1), rfl, rfl, hS2, rfl, .inl ⟨_, rfl, _, _, rfl, rfl, (by exact (by decide : (0 : Int) < 5)), l, _, _, _, rfl, rfl, SqL.of hl2, hq5, ?_⟩⟩
      dsimp only
      obtain ⟨sq1, sq2⟩ := sq_small (c := c + 1) (by omega) (by omega)
      refine rd_seq (rd_set ?_)
      refine ⟨_, rfl, p, _, 1, .int b, rfl, rfl, hS2, rfl, _, rfl, p, _, 2, .int (c + 1), rfl, rfl, hS2, rfl, _, _, rfl, rfl, .inl ⟨by decide, by decide⟩, _, rfl, p, _, 2, .int (c + 1), rfl, rfl, hS2, rfl, _, _, rfl, rfl, .inr ⟨by omega, by omega⟩, _, _, rfl, rfl, _, _, rfl, rfl,
        .inl ⟨_, rfl, _, _, rfl, rfl, ⟨by decide, by decide, ?cp⟩, .inl ⟨_, rfl, _, rfl, _, _, rfl, rfl, hq0, ?_⟩⟩⟩
      case cp =>
        generalize 100069 * (c + 1) * (c + 1) = S at sq1 sq2 ⊢
        omega
      generalize (b + 100069 * (c + 1) * (c + 1) + 37) ^ Int.toNat 3 = S
      have hm0 := Int.emod_nonneg S (Int.ne_of_gt hq0)
      have hm1 := Int.emod_lt_of_pos S hq0
      dsimp only
      generalize S % q5 = m at hm0 hm1 ⊢
      refine rd_seq (rd_set ?_)
      refine ⟨_, rfl, _, rfl, .inl ⟨_, rfl, _, _, rfl, rfl, (by exact (by decide : (0 : Int) < 10009)), _, rfl, p, _, 2, .int (c + 1), rfl, rfl, hS2, rfl, _, _, rfl, rfl, .inl ⟨by decide, by decide⟩, _, _, rfl, rfl, _, _, rfl, rfl, .inl ⟨by omega, by omega⟩,
        .inl ⟨_, rfl, _, _, rfl, rfl, (by exact (by decide : (0 : Int) < 2305843009213693907)), ?_⟩⟩⟩
      dsimp only
      refine ⟨_, rfl, _, _, rfl, rfl, ⟨by decide, by decide⟩, .inl ⟨_, rfl, _, rfl, _, _, rfl, rfl, hn0, ?_⟩⟩
      exact k _ _ k2 ⟨own, b, c + 1, hp2, ho, hb0, hb1, by omega, by omega⟩ (Int.emod_nonneg _ (by omega)) (Int.emod_lt_of_pos _ hn0)
theorem But.mut {p a : Addr} {H H' : Hp} {o : HO} (k : But p H H') (h : H a = none) : But p H (L2.upd H' a o) := fun b u n e => by
  rw [upd_ne (ne_of_none e h)]
  exact k b u n e
theorem perm_pop {α : Type} : ∀ (xs : List α) (k : Nat) (y : α), xs[k]? = some y → (y :: xs.eraseIdx k).Perm xs
  | [], _, _, e => by simp at e
  | x :: xs, 0, y, e => by
    simp at e
    subst e
    exact List.Perm.refl _
  | x :: xs, k + 1, y, e => by
    have ih := perm_pop xs k y (by simpa using e)
    exact (List.Perm.swap x y _).trans (ih.cons x)
theorem scOf : FnScope ["pot", "some"] ["pot", "some"] (defScope sOf) := ⟨rfl, rfl, rfl, by decide +kernel, rfl, by decide +kernel, by decide +kernel⟩
theorem ok_of {f fT : Addr} {fd fdT : FuncData} (FP : FD K "_law_of" sOf f fd) (F : Dx mg) (FT : FD K "_law_take" sTake fT fdT) (gT : mg "_law_take" = some (.ref fT)) (bT : Binds K fdT ["pot", "upto"] []) :
    FnOk P w K mg bs CX0 2 f fd ["pot", "some"] (spOf K) := by
  have sc := scOf
  have GT : FnOk P w K mg bs CX0 1 fT fdT ["pot", "upto"] spTake := ok_take FT F
  refine FP.ok scOf (fun vs H Q E h => ?_) (fun cdv A outer s H vs Q E hr h => ?_)
  · obtain ⟨p, l, xs, k, rfl, _⟩ := h
    rfl
  · obtain ⟨p, l, xs, t, rfl, hne, hS, h0, h1, ht, hP, k⟩ := h
    refine ⟨_, pss_one (ps_ret (pe_ix ix_list (pv 1) (pe_call GT hr (by rfl) gT FT.kp bT .nil pass0 (pa_cons (pv 0) (pa_cons (pe_callB call_len_seq (by rfl) F.len boot_len (pa_cons (pv 1) pa_nil)) pa_nil))) (fun _ _ => rfl))), ?_⟩
    refine ⟨_, rfl, _, rfl, _, rfl, l, xs, rfl, .inl hS, p, _, t, rfl, by omega, by omega, ht, hP, fun H' i k1 hP' i0 i1 => ?_⟩
    obtain ⟨j, rfl⟩ : ∃ j : Nat, i = (j : Int) := ⟨i.toNat, by omega⟩
    have hj : j < xs.length := by omega
    refine ⟨l, xs, _, xs[j], rfl, rfl, k1.seq hne hS, atI_nat (List.getElem?_eq_getElem hj), ?_⟩
    exact k _ _ k1 hP' (List.getElem_mem hj)
def spSome (K : Frag) : Sp := fun vs H Q _ => ∃ (p l : Addr) (xs : List V) (m : Nat) (k : Int), vs = [.ref p, .ref l, .int m] ∧ l ≠ p ∧ SqL K H l xs ∧ xs.length ≤ 1000 ∧ m ≤ xs.length ∧
  0 ≤ k ∧ k + m < 1000000 ∧ Pot H p k ∧ ∀ H' q ys rest, But p H H' → H q = none → H' q = some (.lst ys) → (ys ++ rest).Perm xs → ys.length = m → Pot H' p (k + m) → Q (.ref q) H'
theorem scSome : FnScope ["pot", "pool", "many", "left", "found", "lap"] ["pot", "pool", "many"] (defScope sSome) := ⟨rfl, rfl, rfl, by decide +kernel, rfl, by decide +kernel, by decide +kernel⟩
theorem ok_some {f fT : Addr} {fd fdT : FuncData} (FP : FD K "_law_some" sSome f fd) (F : Dx mg) (FT : FD K "_law_take" sTake fT fdT) (gT : mg "_law_take" = some (.ref fT)) (bT : Binds K fdT ["pot", "upto"] []) :
    FnOk P w K mg bs CX0 2 f fd ["pot", "pool", "many"] (spSome K) := by
  have sc := scSome
  have GT : FnOk P w K mg bs CX0 1 fT fdT ["pot", "upto"] spTake := ok_take FT F
  refine FP.ok scSome (fun vs H Q E h => ?_) (fun cdv A outer s H vs Q E hr h => ?_)
  · obtain ⟨p, l, xs, m, k, rfl, _⟩ := h
    rfl
  · obtain ⟨p, l, xs, m, t, rfl, hne, hS, h1, hm, ht0, ht, hP, k⟩ := h
    refine ⟨_, pss_cons (ps_par (i := 3) (j := 4) rfl sc.nd rfl rfl (by decide) rfl rfl (pa_cons (pe_callTy call_list_of (by rfl) F.list boot_list (pa_cons (pv 1) pa_nil)) (pa_cons (pe_lst pa_nil) pa_nil)) rfl)
      (pss_cons (ps_for PassesOwn.never rfl (pi_range1 (by rfl) F.range (pa_cons (pv 2) pa_nil)) (pg_name (i := 5) sc.nd rfl (Or.inl rfl))
        (pss_one (ps_expr (pe_bm PySem.F.plainAttrs_list PySem.F.slot_list_append PySem.F.type_list_append mt_append (pv 4) (pa_cons
          (pe_bm PySem.F.plainAttrs_list PySem.F.slot_list_pop PySem.F.type_list_pop mt_popAt (pv 3) (pa_cons
            (pe_call GT hr (by rfl) gT FT.kp bT .nil pass0 (pa_cons (pv 0) (pa_cons (pe_callB call_len_seq (by rfl) F.len boot_len (pa_cons (pv 3) pa_nil)) pa_nil))) pa_nil)) pa_nil)))))
      (pss_one (ps_ret (pv 4)))), ?_⟩
    refine rd_seq ?_
    refine ⟨_, rfl, l, xs, rfl, .inl hS, fun L hL => ⟨Nat.zero_le _, fun G hG => ⟨_, _, rfl, ?_⟩⟩⟩
    dsimp only
    have nLp : L ≠ p := hP.ne hL
    have sL := same_new (o := .lst xs) hL
    have sG := same_new (o := .lst []) hG
    have hG0 : H G = none := sL.free hG
    have nGp : G ≠ p := hP.ne hG0
    have fL := sG _ _ (upd_same (H := H) (a := L) (o := .lst xs))
    have fG : upd (upd H L (.lst xs)) G (.lst []) G = some (.lst []) := upd_same
    have nLG : L ≠ G := ne_of_none upd_same hG
    have hP1 := (hP.same sL).same sG
    have k1 : But p H (upd (upd H L (.lst xs)) G (.lst [])) := But.of (sL.trans sG)
    generalize upd (upd H L (.lst xs)) G (.lst []) = H1 at fL fG hP1 k1 ⊢
    refine rd_seq ?_
    refine ⟨_, rfl, (m : Int), rfl, by omega, by omega, for_range (lo := 0) (n := ((m : Nat) : Int).toNat) (fun i σ H' => ∃ (v : Option V) (ys rest : List V), σ = [some (.ref p), some (.ref l), some (.int m), some (.ref L), some (.ref G), v] ∧
      But p H H' ∧ H' L = some (.lst rest) ∧ H' G = some (.lst ys) ∧ (ys ++ rest).Perm xs ∧ ys.length = i ∧ Pot H' p (t + i)) ⟨none, [], xs, rfl, k1, fL, fG, List.Perm.refl _, rfl, hP1.mono (by omega)⟩ ?_ ?_⟩
    · rintro i σ H2 hi ⟨v, ys, rest, rfl, k2, eL, eG, pm, ly, hP2⟩
      have hi' : i < m := by omega
      have lr : rest.length = xs.length - i := by
        have := pm.length_eq
        rw [List.length_append] at this
        omega
      refine ⟨_, rfl, .inl ⟨rfl, _, SqL.of eG⟩, _, rfl, .inl ⟨rfl, _, SqL.of eL⟩, _, rfl, _, rfl, L, rest, rfl, .inl (SqL.of eL), p, _, t + i, rfl, by omega, by omega, by omega, hP2, fun H3 j k3 hP3 j0 j1 => ?_⟩
      have hj : j.toNat < rest.length := by omega
      have eL3 := k3 _ _ nLp eL
      have eG3 := k3 _ _ nGp eG
      refine ⟨L, rest, j, j.toNat, rest[j.toNat], rfl, rfl, eL3, by omega, by omega, seqIndex_of j0 (by omega), List.getElem?_eq_getElem hj, ?_⟩
      have eG4 : upd H3 L (.lst (rest.eraseIdx j.toNat)) G = some (.lst ys) := (upd_ne (Ne.symm nLG)).trans eG3
      refine ⟨G, ys, rest[j.toNat], rfl, rfl, eG4, Nat.lt_of_le_of_lt (show ys.length ≤ 1000 by omega) (by decide), ?_⟩
      refine ⟨_, ys ++ [rest[j.toNat]], rest.eraseIdx j.toNat, rfl, ((k2.trans k3).mut hL).mut hG0, (upd_ne nLG).trans upd_same, upd_same, ?_, by rw [List.length_append, List.length_singleton, ly], ?_⟩
      · refine List.Perm.trans ?_ pm
        rw [List.append_assoc, List.singleton_append]
        exact List.Perm.append_left ys (perm_pop rest j.toNat _ (List.getElem?_eq_getElem hj))
      · obtain ⟨o, b, c, e, r1, r2, r3, r4, r5⟩ := hP3
        exact ⟨o, b, c, (upd_ne (Ne.symm nGp)).trans ((upd_ne (Ne.symm nLp)).trans e), r1, r2, r3, r4, by omega⟩
    · rintro σ H2 ⟨v, ys, rest, rfl, k2, eL, eG, pm, ly, hP2⟩
      exact ⟨_, rfl, k _ _ _ _ k2 hG0 eG pm (by omega) (hP2.mono (by omega))⟩
def spCells (K : Frag) : Sp := fun vs H Q _ => ∃ (a : Addr) (ns : List Int) (m : Nat), vs = [.ref a, .int m] ∧ SqL K H a (ns.map V.int) ∧ ns.length ≤ 63 ∧ m ≤ 63 ∧
  ∀ H' q n, Same H H' → H q = none → n ≤ 63 → H' q = some (.lst ((List.range n).map fun i : Nat => V.int (i : Int))) → Q (.ref q) H'
theorem scCells : FnScope ["script", "most"] ["script", "most"] (defScope sCells) := ⟨rfl, rfl, rfl, by decide +kernel, rfl, by decide +kernel, by decide +kernel⟩
theorem ok_cells {f : Addr} {fd : FuncData} (FP : FD K "_law_cells" sCells f fd) (F : Dx mg) : FnOk P w K mg bs CX0 1 f fd ["script", "most"] (spCells K) := by
  have sc := scCells
  refine FP.ok scCells (fun vs H Q E h => ?_) (fun cdv A outer s H vs Q E hr h => ?_)
  · obtain ⟨a, ns, m, rfl, _⟩ := h
    rfl
  · obtain ⟨a, ns, m, rfl, hS, hl, hm, k⟩ := h
    refine ⟨_, pss_one (ps_ret (pe_listRg rfl (by rfl) F.list (prg_1 (by rfl) F.range (pe_callB (call_max2 rfl) (by rfl) F.max (by decide +kernel) (pa_cons pe_int (pa_cons
      (pe_callB (call_min2 rfl) (by rfl) F.min (by decide +kernel) (pa_cons (pv 1) (pa_cons (pe_callB call_len_seq (by rfl) F.len boot_len (pa_cons (pv 0) pa_nil)) pa_nil))) pa_nil)))))), ?_⟩
    refine ⟨_, rfl, _, rfl, a, _, rfl, .inl hS, _, _, rfl, _, _, rfl, _, rfl, ?_⟩
    have hx : ∀ u : Int, 0 ≤ u → u ≤ 63 → (0 : Int) ≤ u ∧ u ≤ 63 := fun u a b => ⟨a, b⟩
    generalize hu : (if (if (((ns.map V.int).length : Nat) : Int) < (m : Int) then (((ns.map V.int).length : Nat) : Int) else (m : Int)) > 1 then (if (((ns.map V.int).length : Nat) : Int) < (m : Int) then (((ns.map V.int).length : Nat) : Int) else (m : Int)) else 1) = u
    have hu2 : 0 ≤ u ∧ u ≤ 63 := by
      rw [List.length_map] at hu
      omega
    refine ⟨.of_le (by omega) (by omega) (by omega) (by omega), fun q hq => k _ q u.toNat (same_new hq) hq (by omega) ?_⟩
    rw [upd_same]
    unfold rgV
    rw [Int.sub_zero]
    simp only [Int.zero_add]
end
end L2.K07

set_option Elab.async false
set_option linter.all false
set_option maxRecDepth 100000
set_option maxHeartbeats 4000000
namespace L2.K07
open PySem PySem.Spec PyProof.Rows L2.Vx
open PySem.W (Frag)
/-! ### a value of any kind -/
def odd1 : List PyData := [.none, .bool true, .bool false, .int 0, .int 1, .int (-1), .int (10 ^ 8), .str "", .str "a", .str "x", .str "fine", .tuple [], .list [], .dict [], .tuple [.int 0], .tuple [.tuple []], .list [.int 0], .tuple [.int 0, .int 0]]
def odd2 : List PyData := [.tuple [.tuple [.int 0, .int 0]], .tuple [.str "a", .str "b"], .tuple [.str "same", .str "a", .str "b"], .tuple [.tuple [.int 0, .bool true]], .tuple [.str "fine"], .tuple [.tuple [.str "fine"]], .str "0", .str "a!"]
section
variable {P : Program} {w : World} {K : Frag} {mg : Str → Option Value} {bs : Heap}
/-- what is away from p -/
def awy (p : Addr) (H : Hp) : Hp := fun a => if a = p then none else H a
theorem awy_le {p : Addr} {H : Hp} : Same (awy p H) H := fun b o e => by
  unfold awy at e
  by_cases h : b = p
  · rw [if_pos h] at e; cases e
  · rw [if_neg h] at e; exact e
theorem awy_but {p : Addr} {H H' : Hp} (k : But p H H') : Same (awy p H) (awy p H') := fun b o e => by
  unfold awy at e ⊢
  by_cases h : b = p
  · rw [if_pos h] at e; cases e
  · rw [if_neg h] at e ⊢; exact k _ _ h e
theorem nw_awy {p : Addr} {H H' : Hp} {o : HO} (h : H p = some o) : Same (nw H H') (awy p H') := fun b u e => by
  have n : b ≠ p := fun z => by rw [z, nw_old h] at e; cases e
  unfold awy
  rw [if_neg n]
  exact nw_le _ _ e
def spOdd (K : Frag) : Sp := fun vs H Q _ => ∃ (p : Addr) (k : Int), vs = [.ref p] ∧ k < 1000000 ∧ Pot H p k ∧ ∀ H' v d, But p H H' → Pot H' p (k + 1) → d ∈ odd1 ++ odd2 → Dd K (awy p H') v d → Q v H'
theorem scOdd : FnScope ["pot", "some"] ["pot"] (defScope sOdd) := ⟨rfl, rfl, rfl, by decide +kernel, rfl, by decide +kernel, by decide +kernel⟩
theorem gd_neg1 : GD K (tUn (rU fun i => .int (-i)) (tC (.int 1))) (.int (-1)) := fun σ H Q q => ⟨1, rfl, q (.int (-1)) H (Same.refl H) (.int _)⟩
theorem gd_op {r : R2} {i j n : Int} (h : ∀ (H : Hp) (Q : VK), Q (.int n) H → r (.int i) (.int j) H Q) : GD K (tOp r (tC (.int i)) (tC (.int j))) (.int n) := fun σ H Q q => h H Q (q (.int n) H (Same.refl H) (.int _))
theorem ddAll_app {H : Hp} : ∀ {xs ys : List V} {ds es : List PyData}, DdAll K H xs ds → DdAll K H ys es → DdAll K H (xs ++ ys) (ds ++ es)
  | _, _, _, _, .nil, h => h
  | _, _, _, _, .cons a t, h => .cons a (ddAll_app t h)
theorem ddAll_mem {H : Hp} {v : V} : ∀ {xs : List V} {ds : List PyData}, DdAll K H xs ds → v ∈ xs → ∃ d, d ∈ ds ∧ Dd K H v d
  | _, _, .nil, h => by cases h
  | _, _, .cons a t, h => by
    rcases List.mem_cons.mp h with rfl | h
    · exact ⟨_, by simp, a⟩
    · obtain ⟨d, h1, h2⟩ := ddAll_mem t h
      exact ⟨d, List.mem_cons_of_mem _ h1, h2⟩
theorem ok_odd {f fT fO : Addr} {fd fdT fdO : FuncData} (FP : FD K "_law_odd" sOdd f fd) (F : Dx mg) (FT : FD K "_law_take" sTake fT fdT) (gT : mg "_law_take" = some (.ref fT)) (bT : Binds K fdT ["pot", "upto"] [])
    (FO : FD K "_law_of" sOf fO fdO) (gO : mg "_law_of" = some (.ref fO)) (bO : Binds K fdO ["pot", "some"] []) : FnOk P w K mg bs CX0 3 f fd ["pot"] (spOdd K) := by
  have sc := scOdd
  have GO : FnOk P w K mg bs CX0 2 fO fdO ["pot", "some"] (spOf K) := ok_of FO F FT gT bT
  refine FP.ok scOdd (fun vs H Q E h => ?_) (fun cdv A outer s H vs Q E hr h => ?_)
  · obtain ⟨p, k, rfl, _⟩ := h
    rfl
  · obtain ⟨p, t, rfl, ht, hP, k⟩ := h
    refine ⟨_, pss_cons (ps_set (i := 1) sc.nd rfl (Or.inl rfl) (pe_lst (pa_cons pe_non (pa_cons pe_bl (pa_cons pe_bl (pa_cons pe_int (pa_cons pe_int (pa_cons (pe_un un_neg pe_int) (pa_cons (pe_op op_pow pe_int pe_int)
          (pa_cons pe_str (pa_cons pe_str (pa_cons pe_str (pa_cons pe_str (pa_cons (pe_tup pa_nil) (pa_cons (pe_lst pa_nil) (pa_cons pe_dnewK (pa_cons (pe_tup (pa_cons pe_int pa_nil)) (pa_cons (pe_tup (pa_cons (pe_tup pa_nil) pa_nil))
          (pa_cons (pe_lst (pa_cons pe_int pa_nil)) (pa_cons (pe_tup (pa_cons pe_int (pa_cons pe_int pa_nil))) pa_nil))))))))))))))))))))
      (pss_cons (ps_set (i := 1) sc.nd rfl (Or.inl rfl) (pe_op op_cat (pv 1) (pe_lst (pa_cons (pe_tup (pa_cons (pe_tup (pa_cons pe_int (pa_cons pe_int pa_nil))) pa_nil)) (pa_cons (pe_tup (pa_cons pe_str (pa_cons pe_str pa_nil)))
          (pa_cons (pe_tup (pa_cons pe_str (pa_cons pe_str (pa_cons pe_str pa_nil)))) (pa_cons (pe_tup (pa_cons (pe_tup (pa_cons pe_int (pa_cons pe_bl pa_nil))) pa_nil)) (pa_cons (pe_tup (pa_cons pe_str pa_nil)) (pa_cons (pe_tup (pa_cons (pe_tup (pa_cons pe_str pa_nil)) pa_nil))
          (pa_cons pe_str (pa_cons pe_str pa_nil)))))))))))
      (pss_one (ps_ret (pe_call GO hr (by rfl) gO FO.kp bO .nil pass0 (pa_cons (pv 0) (pa_cons (pv 1) pa_nil)))))), ?_⟩
    refine rd_seq (rd_set (rd_lst ?_))
    refine (ga_cons (gd_const fun _ => .non) (ga_cons (gd_const fun _ => .bl _) (ga_cons (gd_const fun _ => .bl _) (ga_cons (gd_const fun _ => .int _) (ga_cons (gd_const fun _ => .int _) (ga_cons gd_neg1
      (ga_cons (gd_op fun H Q q => ⟨_, _, rfl, rfl, ⟨by decide, by decide, by decide⟩, q⟩) (ga_cons (gd_const fun _ => .str _) (ga_cons (gd_const fun _ => .str _) (ga_cons (gd_const fun _ => .str _) (ga_cons (gd_const fun _ => .str _)
      (ga_cons (gd_tup ga_nil (by decide)) (ga_cons (gd_lst ga_nil (by decide)) (ga_cons gd_dnew (ga_cons (gd_tup (ga_cons (gd_const fun _ => .int _) ga_nil) (by decide)) (ga_cons (gd_tup (ga_cons (gd_tup ga_nil (by decide)) ga_nil) (by decide))
      (ga_cons (gd_lst (ga_cons (gd_const fun _ => .int _) ga_nil) (by decide)) (ga_cons (gd_tup (ga_cons (gd_const fun _ => .int _) (ga_cons (gd_const fun _ => .int _) ga_nil)) (by decide)) ga_nil)))))))))))))))))
      : GA K _ odd1) _ _ _ fun vs H1 s1 g1 => ?_
    have l1 : vs.length = 18 := ddAll_len g1
    refine ⟨Nat.le_trans (Nat.le_of_eq l1) (by decide), fun a ha => ?_⟩
    have s2 : Same H1 (upd H1 a (.lst vs)) := same_new ha
    have f2 : upd H1 a (.lst vs) a = some (.lst vs) := upd_same
    have g2 := ddAll_keep (nw_up s2) g1
    have sH2 := s1.trans s2
    have ha0 := s1.free ha
    generalize upd H1 a (.lst vs) = H2 at s2 f2 g2 sH2 ⊢
    dsimp only
    refine rd_seq (rd_set ?_)
    refine ⟨_, rfl, rd_lst ?_⟩
    refine (ga_cons (gd_tup (ga_cons (gd_tup (ga_cons (gd_const fun _ => .int _) (ga_cons (gd_const fun _ => .int _) ga_nil)) (by decide)) ga_nil) (by decide))
      (ga_cons (gd_tup (ga_cons (gd_const fun _ => .str _) (ga_cons (gd_const fun _ => .str _) ga_nil)) (by decide))
      (ga_cons (gd_tup (ga_cons (gd_const fun _ => .str _) (ga_cons (gd_const fun _ => .str _) (ga_cons (gd_const fun _ => .str _) ga_nil))) (by decide))
      (ga_cons (gd_tup (ga_cons (gd_tup (ga_cons (gd_const fun _ => .int _) (ga_cons (gd_const fun _ => .bl _) ga_nil)) (by decide)) ga_nil) (by decide))
      (ga_cons (gd_tup (ga_cons (gd_const fun _ => .str _) ga_nil) (by decide))
      (ga_cons (gd_tup (ga_cons (gd_tup (ga_cons (gd_const fun _ => .str _) ga_nil) (by decide)) ga_nil) (by decide))
      (ga_cons (gd_const fun _ => .str _) (ga_cons (gd_const fun _ => .str _) ga_nil))))))) : GA K _ odd2) _ _ _ fun ws H3 s3 g3 => ?_
    have l3 : ws.length = 8 := ddAll_len g3
    refine ⟨Nat.le_trans (Nat.le_of_eq l3) (by decide), fun b hb => ?_⟩
    have s4 : Same H3 (upd H3 b (.lst ws)) := same_new hb
    have f4 : upd H3 b (.lst ws) b = some (.lst ws) := upd_same
    have f5 := s4 _ _ (s3 _ _ f2)
    have g4 := ddAll_keep (nw_up s4) (ddAll_keep (nw_in sH2) g3)
    have g5 := ddAll_keep (nw_up s4) (ddAll_keep (nw_up s3) g2)
    have sH4 := (sH2.trans s3).trans s4
    generalize upd H3 b (.lst ws) = H4 at s4 f4 f5 g4 g5 sH4 ⊢
    refine ⟨a, b, vs, ws, rfl, rfl, f5, f4, by rw [l1, l3]; exact (by decide), fun c hc => ?_⟩
    have s6 : Same H4 (upd H4 c (.lst (vs ++ ws))) := same_new hc
    have f6 : upd H4 c (.lst (vs ++ ws)) c = some (.lst (vs ++ ws)) := upd_same
    have g6 := ddAll_keep (nw_up s6) (ddAll_app g5 g4)
    have sH6 := sH4.trans s6
    have hc0 := sH4.free hc
    generalize upd H4 c (.lst (vs ++ ws)) = H6 at s6 f6 g6 sH6 ⊢
    dsimp only
    obtain ⟨o, hpo⟩ := hP.some
    have nc : c ≠ p := hP.ne hc0
    refine ⟨_, rfl, _, rfl, p, c, _, t, rfl, nc, SqL.of f6, by rw [List.length_append]; omega, by rw [List.length_append]; omega, ht, hP.same sH6, fun H7 v k7 hP7 hv => ?_⟩
    obtain ⟨d, hd, hdv⟩ := ddAll_mem (ddAll_keep (nw_awy hpo) g6) hv
    exact k H7 v d ((But.of sH6).trans k7) hP7 hd (Dd_keep (awy_but k7) hdv)
end
end L2.K07

set_option Elab.async false
set_option linter.all false
set_option maxRecDepth 100000
set_option maxHeartbeats 4000000
namespace L2.K07
open PySem PySem.Spec PyProof.Rows L2.Vx
open PySem.W (Frag)
/-! ### a number in a text -/
def allIn (z g : Str) : Bool := z.cps.toList.all fun c => decide (c ∈ g.cps.toList)
def digitsS : Str := "0123456789"
def numText (n : Nat) : Str := Str.ofString (toString ((n : Nat) : Int))
def valOf (z : Str) : Nat := NumText.digitsVal z.cps.toList
def numIn (z : Str) (lo hi : Int) : Option Int :=
  if (1 ≤ z.length ∧ z.length ≤ 9) ∧ allIn z digitsS = true then
    if numText (valOf z) = z ∧ lo ≤ (valOf z : Int) ∧ (valOf z : Int) ≤ hi then some (valOf z : Int) else none
  else none
def optV : Option Int → V
  | none => .non
  | some n => .int n
theorem allIn_digits {z : Str} : allIn z digitsS = true ↔ NumText.AllDigits z.cps.toList := by
  unfold allIn NumText.AllDigits
  rw [List.all_eq_true]
  have e : digitsS.cps.toList = [48, 49, 50, 51, 52, 53, 54, 55, 56, 57] := by decide +kernel
  rw [e]
  constructor
  · intro h c hc
    have h1 := of_decide_eq_true (h c hc)
    simp at h1
    omega
  · intro h c hc
    have h1 := h c hc
    refine decide_eq_true ?_
    have : c = 48 ∨ c = 49 ∨ c = 50 ∨ c = 51 ∨ c = 52 ∨ c = 53 ∨ c = 54 ∨ c = 55 ∨ c = 56 ∨ c = 57 := by omega
    simpa using this
theorem val_lt : ∀ (l : List Nat), NumText.AllDigits l → NumText.digitsVal l < 10 ^ l.length := by
  intro l
  have h : ∀ (l : List Nat) (a : Nat), NumText.AllDigits l → l.foldl (fun acc c => acc * 10 + (c - 48)) a < (a + 1) * 10 ^ l.length := by
    intro l
    induction l with
    | nil => intro a _; simp
    | cons c r ih =>
      intro a hd
      rw [List.foldl_cons, List.length_cons, Nat.pow_succ]
      have h1 := ih (a * 10 + (c - 48)) hd.tail
      have h2 := hd.head
      have h3 : (a * 10 + (c - 48) + 1) * 10 ^ r.length ≤ ((a + 1) * 10) * 10 ^ r.length := Nat.mul_le_mul_right _ (by omega)
      have h4 : (a + 1) * 10 * 10 ^ r.length = (a + 1) * (10 ^ r.length * 10) := by rw [Nat.mul_assoc, Nat.mul_comm 10]
      omega
  intro hd
  have := h l 0 hd
  simpa [NumText.digitsVal] using this
theorem val_small {z : Str} (h : NumText.AllDigits z.cps.toList) (hl : z.length ≤ 9) : valOf z < 10 ^ 9 :=
  Nat.lt_of_lt_of_le (val_lt _ h) (Nat.pow_le_pow_right (by decide) (by simpa [Str.length] using hl))
theorem small_log {n : Nat} (h : n < 10 ^ 9) : (Int.natAbs ((n : Nat) : Int)).log2 < 1920 := by
  rw [Int.natAbs_natCast]
  by_cases e : n = 0
  · rw [e]; decide
  · exact (Nat.log2_lt e).mpr (Nat.lt_trans h (by decide +kernel))
section
variable {P : Program} {w : World} {K : Frag} {mg : Str → Option Value} {bs : Heap}
def spCons : Sp := fun vs H Q _ => ∃ (z g : Str), vs = [.str z, .str g] ∧ z.length ≤ 900000 ∧ ∀ H', Same H H' → Q (.bl (allIn z g)) H'
theorem scCons : FnScope ["text", "signs", "sign"] ["text", "signs"] (defScope sCons) := ⟨rfl, rfl, rfl, by decide +kernel, rfl, by decide +kernel, by decide +kernel⟩
/-- the list of a walk's tests -/
theorem ok_cons {f : Addr} {fd : FuncData} (FP : FD K "consists_of" sCons f fd) (gA : mg "all" = none) : FnOk P w K mg bs CX0 1 f fd ["text", "signs"] spCons := by
  have sc := scCons
  refine FP.ok scCons (fun vs H Q E h => ?_) (fun cdv A outer s H vs Q E hr h => ?_)
  · obtain ⟨z, g, rfl, _⟩ := h
    rfl
  · obtain ⟨z, g, rfl, hz, k⟩ := h
    refine ⟨_, pss_one (ps_ret (pe_callB (cr_all rfl) (by rfl) gA boot_all (pa_cons
          (pe_lc (own := [("sign", 2)]) (g := gName 2) (by rfl) sc.nd (pi_str (pv 0)) (blkOk_by (N := ["text", "signs", "sign"]) (sc := defScope sCons) (by decide +kernel))
            (fun _ _ _ _ _ => pg_name (i := 2) sc.nd rfl (Or.inl rfl)) (fun _ _ _ _ _ => pts_nil)
            (fun _ _ _ _ _ => pe_cmpR op_in_sign (pv 2) (pv 1) rfl)) pa_nil))), ?_⟩
    refine ⟨_, rfl, z, rfl, fun D hD => lc_it walk_str (fun i H' => Same H H' ∧ H' D = some (.lst (((z.cps.toList.take i).map fun c => decide (c ∈ g.cps.toList)).map V.bl))) ⟨same_new hD, by rw [upd_same]; rfl⟩ (fun _ _ _ _ => trivial) ?_ ?_⟩
    · rintro i v H5 H6 hi ⟨s5, d5⟩ ⟨rfl, c, hc, rfl⟩
      refine ⟨rfl, rd_yes rfl ?_⟩
      refine ⟨_, rfl, _, rfl, c, g, rfl, rfl, _, d5, ?_, s5.mut hD, ?_⟩
      · rw [List.length_map, List.length_map, List.length_take]
        exact Nat.lt_of_le_of_lt (Nat.le_trans (Nat.min_le_right _ _) (by simpa [Str.length] using hz)) (by decide)
      · have hc' : z.cps.toList[i]? = some c := by simpa using hc
        rw [upd_same, List.take_succ, hc', List.map_append, List.map_append]
        rfl
    · rintro H5 ⟨s5, d5⟩
      refine ⟨D, _, rfl, SqL.of d5, ?_⟩
      have e : z.cps.toList.take z.cps.size = z.cps.toList := List.take_of_length_le (by simp)
      rw [e, List.all_map]
      exact k _ s5
def spNum : Sp := fun vs H Q _ => ∃ (z : Str) (lo hi : Int), vs = [.str z, .int lo, .int hi] ∧ z.length ≤ 900000 ∧ ∀ H', Same H H' → Q (optV (numIn z lo hi)) H'
theorem scNum : FnScope ["word", "low", "high", "number"] ["word", "low", "high"] (defScope sNum) := ⟨rfl, rfl, rfl, by decide +kernel, rfl, by decide +kernel, by decide +kernel⟩
structure FxNum (mg : Str → Option Value) : Prop where
  len : mg "len" = none
  int : mg "int" = none
  str : mg "str" = none
  all : mg "all" = none
  most : ∃ t, mg "LONGEST_NUMBER" = some (.int 9 t)
  dig : ∃ t, mg "DIGITS" = some (.str "0123456789" t)
theorem ok_num {f fC : Addr} {fd fdC : FuncData} (FP : FD K "number_in" sNum f fd) (F : FxNum mg) (FC : FD K "consists_of" sCons fC fdC) (gC : mg "consists_of" = some (.ref fC)) (bC : Binds K fdC ["text", "signs"] []) :
    FnOk P w K mg bs CX0 2 f fd ["word", "low", "high"] spNum := by
  have sc := scNum
  have GC : FnOk P w K mg bs CX0 1 fC fdC ["text", "signs"] spCons := ok_cons FC F.all
  obtain ⟨t1, e1⟩ := F.most
  obtain ⟨t2, e2⟩ := F.dig
  refine FP.ok scNum (fun vs H Q E h => ?_) (fun cdv A outer s H vs Q E hr h => ?_)
  · obtain ⟨z, lo, hi, rfl, _⟩ := h
    rfl
  · obtain ⟨z, lo, hi, rfl, hz, k⟩ := h
    have hz2 : z.length ≤ sizeLine := Nat.le_trans hz (by decide)
    refine ⟨_, pss_cons (ps_if (PW.pt (pw_or (pt_not (pt_chain op_le op_le pe_int (pe_callB call_len_str (by rfl) F.len boot_len (pa_cons (pv 0) pa_nil)) (pe_glob (v := .int 9) rfl e1 ⟨_, rfl⟩)))
          (pw_or1 (pt_not (pt_val (pe_call GC hr (by rfl) gC FC.kp bC .nil pass0 (pa_cons (pv 0) (pa_cons (pe_glob (v := .str "0123456789") rfl e2 ⟨_, rfl⟩) pa_nil))))))))
        (pss_one (ps_ret pe_non)) pss_nil)
      (pss_cons (ps_set (i := 3) sc.nd rfl (Or.inl rfl) (pe_callTy call_int_str (by rfl) F.int boot_int (pa_cons (pv 0) pa_nil)))
      (pss_cons (ps_if (PW.pt (pw_or (pt_cmpR op_ne (pe_callTy call_str_int (by rfl) F.str boot_str (pa_cons (pv 3) pa_nil)) (pv 0) (nomark _))
          (pw_or1 (pt_not (pt_chain op_le op_le (pv 1) (pv 3) (pv 2))))))
        (pss_one (ps_ret pe_non)) pss_nil)
      (pss_one (ps_ret (pv 3))))), ?_⟩
    refine rd_seq (rd_if ?_)
    have cut : ¬ ((1 ≤ z.length ∧ z.length ≤ 9) ∧ allIn z digitsS = true) → numIn z lo hi = none := fun q => if_neg q
    have fin : ∀ H', Same H H' → numIn z lo hi = none → Q .non H' := fun H' s e => by
      have q := k H' s
      rw [e] at q
      exact q
    refine ⟨_, rfl, z, rfl, hz2, _, _, rfl, rfl, _, rfl, ?_⟩
    by_cases h1 : 1 ≤ z.length
    · refine Eq.mpr (if_pos (decide_eq_true (by omega))) ?_
      refine ⟨_, _, rfl, rfl, _, rfl, ?_⟩
      by_cases h2 : z.length ≤ 9
      · refine Eq.mpr (if_neg (by rw [decide_eq_true (by omega : ((z.length : Nat) : Int) ≤ 9)]; decide)) ?_
        refine ⟨_, rfl, z, _, rfl, hz, fun H1 s1 => ⟨_, rfl, ?_⟩⟩
        cases hA : allIn z digitsS with
        | false =>
          refine Eq.mpr (if_pos (by show (!allIn z digitsS) = true; rw [hA]; rfl)) ?_
          exact fin H1 s1 (cut fun q => by rw [hA] at q; cases q.2)
        | true =>
          refine Eq.mpr (if_neg (by show ¬ (!allIn z digitsS) = true; rw [hA]; decide)) ?_
          have hd := allIn_digits.mp hA
          have hv := val_small hd h2
          dsimp only [tNext]
          refine rd_seq (rd_set ?_)
          refine ⟨_, rfl, z, ((valOf z : Nat) : Int), rfl, intText_digits hd (fun q => ?_) (by omega), by omega, ?_⟩
          · have := congrArg List.length q
            rw [Array.length_toList, List.length_nil] at this
            have h1' : 1 ≤ z.cps.size := h1
            omega
          have e0 : numIn z lo hi = if numText (valOf z) = z ∧ lo ≤ (valOf z : Int) ∧ (valOf z : Int) ≤ hi then some (valOf z : Int) else none := if_pos ⟨⟨h1, h2⟩, hA⟩
          dsimp only
          refine rd_seq (rd_if ?_)
          refine ⟨_, rfl, ((valOf z : Nat) : Int), rfl, small_log hv, _, rfl, rfl, _, rfl, ?_⟩
          by_cases h3 : numText (valOf z) = z
          · refine Eq.mpr (if_neg (nt (congrArg V.str h3))) ?_
            refine ⟨_, rfl, _, rfl, _, _, rfl, rfl, _, rfl, ?_⟩
            by_cases h4 : lo ≤ ((valOf z : Nat) : Int)
            · refine Eq.mpr (if_pos (decide_eq_true h4)) ?_
              refine ⟨_, rfl, _, _, rfl, rfl, _, rfl, ?_⟩
              by_cases h5 : ((valOf z : Nat) : Int) ≤ hi
              · refine Eq.mpr (if_neg (by rw [decide_eq_true h5]; decide)) ?_
                dsimp only
                refine ⟨_, rfl, ?_⟩
                have q := k H1 s1
                rw [e0, if_pos ⟨h3, h4, h5⟩] at q
                exact q
              · refine Eq.mpr (if_pos (by rw [decide_eq_false h5]; rfl)) ?_
                exact fin H1 s1 (e0.trans (if_neg fun q => h5 q.2.2))
            · refine Eq.mpr (if_neg (by rw [decide_eq_false h4]; decide)) ?_
              exact ⟨_, rfl, fin H1 s1 (e0.trans (if_neg fun q => h4 q.2.1))⟩
          · refine Eq.mpr (if_pos (nf (fun q => h3 (V.str.inj q)))) ?_
            exact fin H1 s1 (e0.trans (if_neg fun q => h3 q.1))
      · refine Eq.mpr (if_pos (by rw [decide_eq_false (by omega : ¬ ((z.length : Nat) : Int) ≤ 9)]; rfl)) ?_
        exact fin H (Same.refl H) (cut fun q => h2 q.1.2)
    · refine Eq.mpr (if_neg (by rw [decide_eq_false (by omega : ¬ (1 : Int) ≤ ((z.length : Nat) : Int))]; decide)) ?_
      exact ⟨_, rfl, fin H (Same.refl H) (cut fun q => h1 q.1.1)⟩
end
end L2.K07

set_option Elab.async false
set_option linter.all false
set_option maxRecDepth 100000
set_option maxHeartbeats 4000000
namespace L2.K07
open PySem PySem.Spec PyProof.Rows L2.Vx
open PySem.W (Frag)
open TL (tl)
/-! ### names, and numbers with a sign -/
def lettersS : Str := "abcdefghijklmnopqrstuvwxyz"
def nameIn (z : Str) : Bool := decide (1 ≤ z.length) && (decide (z.length ≤ 8) && allIn z lettersS)
def sgnIn (z : Str) (most : Int) : Option Int := if Txt.startswith z "-" = true then (numIn (cutS z (some 1) none) 1 most).map (fun n => -n) else numIn z 0 most
theorem cutS_len (z : Str) (lo hi : Option Int) : (cutS z lo hi).length ≤ z.length := by
  unfold cutS
  show (List.toArray _).size ≤ z.cps.size
  rw [List.size_toArray, List.length_take, List.length_drop, Array.length_toList]
  omega
theorem optV_some (n : Int) : optV (some n) = .int n := rfl
section
variable {P : Program} {w : World} {K : Frag} {mg : Str → Option Value} {bs : Heap}
def spSgn : Sp := fun vs H Q _ => ∃ (z : Str) (m : Int), vs = [.str z, .int m] ∧ z.length ≤ 900000 ∧ ∀ H', Same H H' → Q (optV (sgnIn z m)) H'
theorem scSgn : FnScope ["word", "most", "number"] ["word", "most"] (defScope sSgn) := ⟨rfl, rfl, rfl, by decide +kernel, rfl, by decide +kernel, by decide +kernel⟩
theorem ok_sgn {f fN fC : Addr} {fd fdN fdC : FuncData} (FP : FD K "signed_number_in" sSgn f fd) (F : FxNum mg) (FN : FD K "number_in" sNum fN fdN) (gN : mg "number_in" = some (.ref fN)) (bN : Binds K fdN ["word", "low", "high"] [])
    (FC : FD K "consists_of" sCons fC fdC) (gC : mg "consists_of" = some (.ref fC)) (bC : Binds K fdC ["text", "signs"] []) : FnOk P w K mg bs CX0 3 f fd ["word", "most"] spSgn := by
  have sc := scSgn
  have GN : FnOk P w K mg bs CX0 2 fN fdN ["word", "low", "high"] spNum := ok_num FN F FC gC bC
  refine FP.ok scSgn (fun vs H Q E h => ?_) (fun cdv A outer s H vs Q E hr h => ?_)
  · obtain ⟨z, m, rfl, _⟩ := h
    rfl
  · obtain ⟨z, m, rfl, hz, k⟩ := h
    have hz2 : z.length ≤ sizeLine := Nat.le_trans hz (by decide)
    refine ⟨_, pss_cons (ps_if (pt_not (pt_val (pe_m1 PySem.F.slot_str_startswith PySem.F.type_str_startswith mt_startswith (pv 0) pe_str)))
        (pss_one (ps_ret (pe_call GN hr (by rfl) gN FN.kp bN .nil pass0 (pa_cons (pv 0) (pa_cons pe_int (pa_cons (pv 1) pa_nil)))))) pss_nil)
      (pss_cons (ps_set (i := 2) sc.nd rfl (Or.inl rfl) (pe_call GN hr (by rfl) gN FN.kp bN .nil pass0 (pa_cons (pe_slice sl_str (pv 0) (po_some pe_int) po_none) (pa_cons pe_int (pa_cons (pv 1) pa_nil)))))
      (pss_cons (ps_if (pt_cmpR op_isN (pv 2) pe_non (nomark _)) (pss_one (ps_ret pe_non)) pss_nil)
      (pss_one (ps_ret (pe_un un_neg (pv 2)))))), ?_⟩
    refine rd_seq (rd_if ?_)
    refine ⟨_, rfl, ⟨_, rfl⟩, z, "-", rfl, rfl, _, rfl, ?_⟩
    cases hm : Txt.startswith z "-" with
    | false =>
      refine Eq.mpr (if_pos rfl) ?_
      refine ⟨_, rfl, _, rfl, z, 0, m, rfl, hz, fun H1 s1 => ?_⟩
      have q := k H1 s1
      unfold sgnIn at q
      rw [hm] at q
      exact q
    | true =>
      refine Eq.mpr (if_neg (by decide)) ?_
      dsimp only [tNext]
      have e0 : sgnIn z m = (numIn (cutS z (some 1) none) 1 m).map (fun n => -n) := by
        unfold sgnIn
        rw [hm]
        rfl
      refine rd_seq (rd_set ?_)
      refine ⟨_, rfl, _, rfl, z, rfl, hz2, _, rfl, cutS z (some 1) none, 1, m, rfl, Nat.le_trans (cutS_len _ _ _) hz, fun H1 s1 => ?_⟩
      have q := k H1 s1
      rw [e0] at q
      clear e0
      generalize numIn (cutS z (some 1) none) 1 m = r at q
      dsimp only
      refine rd_seq (rd_if ?_)
      cases r with
      | none =>
        refine ⟨_, rfl, rfl, _, rfl, ?_⟩
        refine Eq.mpr (if_pos rfl) ?_
        exact q
      | some n =>
        refine ⟨_, rfl, rfl, _, rfl, ?_⟩
        refine Eq.mpr (if_neg (fun z => by cases of_decide_eq_true z)) ?_
        dsimp only [tNext]
        exact ⟨_, rfl, n, rfl, q⟩
structure FxName (mg : Str → Option Value) : Prop where
  isi : mg "isinstance" = none
  str : mg "str" = none
  len : mg "len" = none
  all : mg "all" = none
  most : ∃ t, mg "LONGEST_NAME" = some (.int 8 t)
  let_ : ∃ t, mg "LETTERS" = some (.str "abcdefghijklmnopqrstuvwxyz" t)
def spName (K : Frag) : Sp := fun vs H Q _ => ∃ v, vs = [v] ∧ ((NoStr K H v ∧ ∀ H', Same H H' → Q (.bl false) H') ∨ ∃ z : Str, v = .str z ∧ z.length ≤ 900000 ∧ ∀ H', Same H H' → Q (.bl (nameIn z)) H')
theorem scName : FnScope ["value"] ["value"] (defScope sIsName) := ⟨rfl, rfl, rfl, by decide +kernel, rfl, by decide +kernel, by decide +kernel⟩
theorem ok_name {f fC : Addr} {fd fdC : FuncData} (FP : FD K "is_name" sIsName f fd) (F : FxName mg) (FC : FD K "consists_of" sCons fC fdC) (gC : mg "consists_of" = some (.ref fC)) (bC : Binds K fdC ["text", "signs"] []) : FnOk P w K mg bs CX0 2 f fd ["value"] (spName K) := by
  have sc := scName
  have GC : FnOk P w K mg bs CX0 1 fC fdC ["text", "signs"] spCons := ok_cons FC F.all
  obtain ⟨t1, e1⟩ := F.most
  obtain ⟨t2, e2⟩ := F.let_
  refine FP.ok scName (fun vs H Q E h => ?_) (fun cdv A outer s H vs Q E hr h => ?_)
  · obtain ⟨v, rfl, _⟩ := h
    rfl
  · obtain ⟨v, rfl, h⟩ := h
    refine ⟨_, pss_one (ps_ret (pe_and (pe_callB call_isi (by rfl) F.isi boot_isinstance (pa_cons (pv 0) (pa_cons (pe_bltn (v := .ty "str") (by rfl) F.str boot_str rfl) pa_nil)))
      (pe_and (pe_chain op_le op_le pe_int (pe_callB call_len_str (by rfl) F.len boot_len (pa_cons (pv 0) pa_nil)) (pe_glob (v := .int 8) rfl e1 ⟨_, rfl⟩))
      (pe_one (pe_call GC hr (by rfl) gC FC.kp bC .nil pass0 (pa_cons (pv 0) (pa_cons (pe_glob (v := .str "abcdefghijklmnopqrstuvwxyz") rfl e2 ⟨_, rfl⟩) pa_nil))))))), ?_⟩
    rcases h with ⟨⟨n, hT, hk⟩, k⟩ | ⟨z, rfl, hz, k⟩
    · refine ⟨_, rfl, v, .ty "str", _, _, false, rfl, .ty "str", hT, kit_ty hk, _, rfl, ?_⟩
      refine Eq.mpr (if_neg (by decide)) ?_
      exact k H (Same.refl H)
    · have hz2 : z.length ≤ sizeLine := Nat.le_trans hz (by decide)
      refine ⟨_, rfl, .str z, .ty "str", .type "str", _, true, rfl, .ty "str", .base (.str z), kit_ty (by decide +kernel), _, rfl, ?_⟩
      refine Eq.mpr (if_pos rfl) ?_
      refine ⟨_, rfl, z, rfl, hz2, _, _, rfl, rfl, _, rfl, ?_⟩
      by_cases h1 : 1 ≤ z.length
      · refine Eq.mpr (if_pos (decide_eq_true (by omega))) ?_
        refine ⟨_, _, rfl, rfl, _, rfl, ?_⟩
        by_cases h2 : z.length ≤ 8
        · refine Eq.mpr (if_pos (decide_eq_true (by omega : ((z.length : Nat) : Int) ≤ 8))) ?_
          refine ⟨_, rfl, z, _, rfl, hz, fun H1 s1 => ?_⟩
          have q := k H1 s1
          unfold nameIn at q
          rw [decide_eq_true h1, decide_eq_true h2] at q
          exact q
        · refine Eq.mpr (if_neg (by rw [decide_eq_false (by omega : ¬ ((z.length : Nat) : Int) ≤ 8)]; decide)) ?_
          have q := k H (Same.refl H)
          unfold nameIn at q
          rw [decide_eq_true h1, decide_eq_false h2] at q
          exact q
      · refine Eq.mpr (if_neg (by rw [decide_eq_false (by omega : ¬ (1 : Int) ≤ ((z.length : Nat) : Int))]; decide)) ?_
        refine ⟨_, rfl, ?_⟩
        refine Eq.mpr (if_neg (by decide)) ?_
        have q := k H (Same.refl H)
        unfold nameIn at q
        rw [decide_eq_false h1] at q
        exact q
end
end L2.K07

set_option Elab.async false
set_option linter.all false
set_option maxRecDepth 100000
set_option maxHeartbeats 4000000
namespace L2.K07
open PySem PySem.Spec PyProof.Rows L2.Vx
open PySem.W (Frag)
/-! ### the words of a plan's lines -/
theorem sp_eq : (" " : Str) = ⟨#[32]⟩ := by decide +kernel
theorem nl_eq : ("\n" : Str) = ⟨#[10]⟩ := by decide +kernel
def handW : List Str → Option Int
  | [a, b] => if a = "hand" then numIn b 0 99 else none
  | _ => none
def handIn (z : Str) : Option Int := handW (Txt.split z " ")
def wallW (ws names : List Str) : Option (Str × Str) :=
  match ws with
  | [a, b, c] => if a = "wall" ∧ b ≠ c ∧ b ∈ names ∧ c ∈ names then some (b, c) else none
  | _ => none
def boundW (ws : List Str) (hand : Int) : Option Int :=
  match ws with
  | [] => some hand
  | [a, b] => if a = "within" then numIn b 0 99 else none
  | _ => none
inductive Aim where
  | at (x y : Int)
  | by (o : Str) (x y : Int)
  | cross (a b : Str)
def aimV : Aim → List V
  | .at x y => [.str "at", .int x, .int y]
  | .by o x y => [.str "by", .str o, .int x, .int y]
  | .cross a b => [.str "cross", .str a, .str b]
def crossW (ws names : List Str) : Option Aim :=
  match ws with
  | [_, b, c] => if b ∈ names ∧ c ∈ names then some (.cross b c) else none
  | _ => none
section
variable {P : Program} {w : World} {K : Frag} {mg : Str → Option Value} {bs : Heap}
def spHand : Sp := fun vs H Q _ => ∃ z : Str, vs = [.str z, .int 99] ∧ z.length ≤ 900000 ∧ ∀ H', Same H H' → Q (optV (handIn z)) H'
theorem scHand : FnScope ["line", "most", "words"] ["line", "most"] (defScope sHand) := ⟨rfl, rfl, rfl, by decide +kernel, rfl, by decide +kernel, by decide +kernel⟩
theorem ok_hand {f fN fC : Addr} {fd fdN fdC : FuncData} (FP : FD K "read_hand" sHand f fd) (F : FxNum mg) (FN : FD K "number_in" sNum fN fdN) (gN : mg "number_in" = some (.ref fN)) (bN : Binds K fdN ["word", "low", "high"] [])
    (FC : FD K "consists_of" sCons fC fdC) (gC : mg "consists_of" = some (.ref fC)) (bC : Binds K fdC ["text", "signs"] []) : FnOk P w K mg bs CX0 3 f fd ["line", "most"] spHand := by
  have sc := scHand
  have GN : FnOk P w K mg bs CX0 2 fN fdN ["word", "low", "high"] spNum := ok_num FN F FC gC bC
  refine FP.ok scHand (fun vs H Q E h => ?_) (fun cdv A outer s H vs Q E hr h => ?_)
  · obtain ⟨z, rfl, _⟩ := h
    rfl
  · obtain ⟨z, rfl, hz, k⟩ := h
    refine ⟨_, pss_cons (ps_set (i := 2) sc.nd rfl (Or.inl rfl) (pe_split (pv 0) pe_str))
      (pss_cons (ps_if (PW.pt (pw_or (pt_cmpR op_ne (pe_callB call_len_seq (by rfl) F.len boot_len (pa_cons (pv 2) pa_nil)) pe_int (nomark _))
          (pw_or1 (pt_cmpR op_ne (pe_ix ix_list (pv 2) pe_int (fun _ _ => rfl)) pe_str (nomark _)))))
        (pss_one (ps_ret pe_non)) pss_nil)
      (pss_one (ps_ret (pe_call GN hr (by rfl) gN FN.kp bN .nil pass0 (pa_cons (pe_ix ix_list (pv 2) pe_int (fun _ _ => rfl)) (pa_cons pe_int (pa_cons (pv 1) pa_nil))))))), ?_⟩
    refine rd_seq (rd_set ?_)
    have hz2 : z.length + 2 ≤ sizeLine := Nat.le_trans (by omega : z.length + 2 ≤ 1000000) (by decide)
    refine ⟨_, rfl, ⟨_, rfl⟩, z, _, rfl, rfl, rfl, hz2, fun p hp => ?_⟩
    have s1 : Same H (upd H p (.lst ((Txt.split z " ").map V.str))) := same_new hp
    have f1 : upd H p (.lst ((Txt.split z " ").map V.str)) p = some (.lst ((Txt.split z " ").map V.str)) := upd_same
    generalize upd H p (.lst ((Txt.split z " ").map V.str)) = H1 at s1 f1 ⊢
    have part : ∀ x ∈ Txt.split z " ", x.length ≤ z.length := fun x hx => split_part (s := 32) (by decide) (by rw [← sp_eq]; exact hx)
    have k1 : ∀ H', Same H1 H' → Q (optV (handW (Txt.split z " "))) H' := fun H' s => k H' (s1.trans s)
    generalize Txt.split z " " = W at f1 part k1
    dsimp only
    refine rd_seq (rd_if ?_)
    refine ⟨_, rfl, p, _, rfl, .inl (SqL.of f1), rfl, _, rfl, ?_⟩
    rcases W with _ | ⟨a, _ | ⟨b, _ | ⟨c, r⟩⟩⟩
    · exact Eq.mpr (if_pos rfl) (k1 H1 (Same.refl _))
    · exact Eq.mpr (if_pos rfl) (k1 H1 (Same.refl _))
    · refine Eq.mpr (if_neg (nt (by rfl))) ?_
      refine ⟨_, rfl, p, _, 0, .str a, rfl, rfl, SqL.of f1, rfl, rfl, _, rfl, ?_⟩
      by_cases h1 : a = "hand"
      · refine Eq.mpr (if_neg (nt (by rw [h1]))) ?_
        dsimp only [tNext]
        refine ⟨_, rfl, p, _, 1, .str b, rfl, rfl, SqL.of f1, rfl, _, rfl, b, 0, 99, rfl, Nat.le_trans (part b (by simp)) hz, fun H2 s2 => ?_⟩
        have q := k1 H2 s2
        rw [show handW [a, b] = numIn b 0 99 from if_pos h1] at q
        exact q
      · refine Eq.mpr (if_pos (nf (fun q => h1 (V.str.inj q)))) ?_
        have q := k1 H1 (Same.refl _)
        rw [show handW [a, b] = none from if_neg h1] at q
        exact q
    · refine Eq.mpr (if_pos (nf (fun q => ?_))) (k1 H1 (Same.refl _))
      have h := V.int.inj q
      simp only [List.length_map, List.length_cons] at h
      omega
def spWall (K : Frag) : Sp := fun vs H Q _ => ∃ (a b : Addr) (ws ns : List Str), vs = [.ref a, .ref b] ∧ SqL K H a (ws.map V.str) ∧ SqL K H b (ns.map V.str) ∧ (wallW ws ns = none → Q .non H) ∧
  ∀ x y, wallW ws ns = some (x, y) → ∀ p, H p = none → Q (.ref p) (upd H p (.tup [.str x, .str y]))
theorem scWall : FnScope ["words", "names"] ["words", "names"] (defScope sWall) := ⟨rfl, rfl, rfl, by decide +kernel, rfl, by decide +kernel, by decide +kernel⟩
theorem ok_wall {f : Addr} {fd : FuncData} (FP : FD K "wall_in" sWall f fd) (gL : mg "len" = none) : FnOk P w K mg bs CX0 1 f fd ["words", "names"] (spWall K) := by
  have sc := scWall
  refine FP.ok scWall (fun vs H Q E h => ?_) (fun cdv A outer s H vs Q E hr h => ?_)
  · obtain ⟨a, b, ws, ns, rfl, _⟩ := h
    rfl
  · obtain ⟨a, b, ws, ns, rfl, ha, hb, kn, ks⟩ := h
    refine ⟨_, pss_cons (ps_if (PW.pt (pw_or (pt_cmpR op_ne (pe_callB call_len_seq (by rfl) gL boot_len (pa_cons (pv 0) pa_nil)) pe_int (nomark _))
          (pw_or (pt_cmpR op_ne (pe_ix ix_list (pv 0) pe_int (fun _ _ => rfl)) pe_str (nomark _))
          (pw_or1 (pt_cmpR op_eq (pe_ix ix_list (pv 0) pe_int (fun _ _ => rfl)) (pe_ix ix_list (pv 0) pe_int (fun _ _ => rfl)) (nomark _))))))
        (pss_one (ps_ret pe_non)) pss_nil)
      (pss_cons (ps_if (PW.pt (pw_or (pt_cmpR op_notIn_seq (pe_ix ix_list (pv 0) pe_int (fun _ _ => rfl)) (pv 1) rfl)
          (pw_or1 (pt_cmpR op_notIn_seq (pe_ix ix_list (pv 0) pe_int (fun _ _ => rfl)) (pv 1) rfl))))
        (pss_one (ps_ret pe_non)) pss_nil)
      (pss_one (ps_ret (pe_tup (pa_cons (pe_ix ix_list (pv 0) pe_int (fun _ _ => rfl)) (pa_cons (pe_ix ix_list (pv 0) pe_int (fun _ _ => rfl)) pa_nil)))))), ?_⟩
    refine rd_seq (rd_if ?_)
    refine ⟨_, rfl, a, _, rfl, .inl ha, rfl, _, rfl, ?_⟩
    have big : ∀ n : Nat, n ≠ 3 → (!decide (V.int ((n : Nat) : Int) = V.int 3)) = true := fun n hn => nf (fun q => by have h := V.int.inj q; omega)
    rcases ws with _ | ⟨x, _ | ⟨y, _ | ⟨z, _ | ⟨u, r⟩⟩⟩⟩
    · exact Eq.mpr (if_pos rfl) (kn rfl)
    · exact Eq.mpr (if_pos rfl) (kn rfl)
    · exact Eq.mpr (if_pos rfl) (kn rfl)
    · refine Eq.mpr (if_neg (nt (by rfl))) ?_
      refine ⟨_, rfl, a, _, 0, .str x, rfl, rfl, ha, rfl, rfl, _, rfl, ?_⟩
      by_cases h1 : x = "wall"
      · refine Eq.mpr (if_neg (nt (by rw [h1]))) ?_
        refine ⟨_, rfl, a, _, 1, .str y, rfl, rfl, ha, rfl, _, rfl, a, _, 2, .str z, rfl, rfl, ha, rfl, rfl, _, rfl, ?_⟩
        by_cases h2 : y = z
        · refine Eq.mpr (if_pos (decide_eq_true (congrArg V.str h2))) ?_
          exact kn (if_neg fun q => q.2.1 h2)
        · refine Eq.mpr (if_neg (fun q => h2 (V.str.inj (of_decide_eq_true q)))) ?_
          dsimp only [tNext]
          refine rd_seq (rd_if ?_)
          refine ⟨_, rfl, a, _, 1, .str y, rfl, rfl, ha, rfl, _, rfl, b, _, rfl, .inl hb, rfl, flat_strs _, _, rfl, ?_⟩
          rw [if_pos rfl, inV_str]
          by_cases h3 : y ∈ ns
          · refine Eq.mpr (if_neg (nt h3)) ?_
            refine ⟨_, rfl, a, _, 2, .str z, rfl, rfl, ha, rfl, _, rfl, b, _, rfl, .inl hb, rfl, flat_strs _, _, rfl, ?_⟩
            rw [if_pos rfl, inV_str]
            by_cases h4 : z ∈ ns
            · refine Eq.mpr (if_neg (nt h4)) ?_
              dsimp only [tNext]
              refine ⟨_, rfl, a, _, 1, .str y, rfl, rfl, ha, rfl, _, rfl, a, _, 2, .str z, rfl, rfl, ha, rfl, (by exact (by decide : 2 ≤ sizeLine)), fun p hp => ?_⟩
              exact ks y z (if_pos ⟨h1, h2, h3, h4⟩) p hp
            · refine Eq.mpr (if_pos (nf h4)) ?_
              exact kn (if_neg fun q => h4 q.2.2.2)
          · refine Eq.mpr (if_pos (nf h3)) ?_
            exact kn (if_neg fun q => h3 q.2.2.1)
      · refine Eq.mpr (if_pos (nf (fun q => h1 (V.str.inj q)))) ?_
        exact kn (if_neg fun q => h1 q.1)
    · exact Eq.mpr (if_pos (big _ (by simp only [List.length_map, List.length_cons]; omega))) (kn rfl)
end
end L2.K07

set_option Elab.async false
set_option linter.all false
set_option maxRecDepth 100000
set_option maxHeartbeats 4000000
namespace L2.K07
open PySem PySem.Spec PyProof.Rows L2.Vx
open PySem.W (Frag)
/-! ### what a point's line is aimed at, and its bound -/
def atOf : Option Int → Option Int → Option Aim
  | some x, some y => some (.at x y)
  | _, _ => none
def byOf (o : Str) : Option Int → Option Int → Option Aim
  | some x, some y => some (.by o x y)
  | _, _ => none
def aimW (ws names : List Str) : Option Aim :=
  match ws with
  | [a, b, c] => if a = "cross" then crossW ws names else if a = "at" then atOf (sgnIn b 999) (sgnIn c 999) else none
  | [a, o, b, c] => if a = "cross" then none else if a = "by" ∧ o ∈ names then byOf o (sgnIn b 999) (sgnIn c 999) else none
  | _ => none
theorem big3 (n m : Nat) (h : n ≠ m) : (!decide (V.int ((n : Nat) : Int) = V.int (m : Nat))) = true := nf (fun q => by have h := V.int.inj q; omega)
theorem at0 (x : V) (r : List V) : atI (x :: r) 0 = some x := by
  unfold atI ixN
  simp
theorem at1 (x y : V) (r : List V) : atI (x :: y :: r) 1 = some y := by
  unfold atI ixN
  rw [if_pos (by decide), if_pos (by simp only [List.length_cons]; omega)]
  rfl
theorem inN {xs : List (Option Int)} : inV .non (xs.map optV) = decide (none ∈ xs) := by
  unfold inV
  rw [Bool.eq_iff_iff, List.any_eq_true, decide_eq_true_iff]
  constructor
  · rintro ⟨v, hv, e⟩
    obtain ⟨y, hy, rfl⟩ := List.mem_map.mp hv
    cases y with
    | none => exact hy
    | some n => exact absurd e (by simp [optV, eqV])
  · intro h
    exact ⟨.non, List.mem_map.mpr ⟨none, h, rfl⟩, by simp [eqV]⟩
theorem flatN (xs : List (Option Int)) : (xs.map optV).all flatV = true := by
  rw [List.all_eq_true]
  intro v hv
  obtain ⟨y, _, rfl⟩ := List.mem_map.mp hv
  cases y <;> rfl
section
variable {P : Program} {w : World} {K : Frag} {mg : Str → Option Value} {bs : Heap}
def spCross (K : Frag) : Sp := fun vs H Q _ => ∃ (a b : Addr) (ws ns : List Str), vs = [.ref a, .ref b] ∧ SqL K H a (ws.map V.str) ∧ SqL K H b (ns.map V.str) ∧ (crossW ws ns = none → Q .non H) ∧
  ∀ m, crossW ws ns = some m → ∀ p, H p = none → Q (.ref p) (upd H p (.tup (aimV m)))
theorem scCross : FnScope ["words", "names"] ["words", "names"] (defScope sCross) := ⟨rfl, rfl, rfl, by decide +kernel, rfl, by decide +kernel, by decide +kernel⟩
theorem ok_cross {f : Addr} {fd : FuncData} (FP : FD K "cross_in" sCross f fd) (gL : mg "len" = none) : FnOk P w K mg bs CX0 1 f fd ["words", "names"] (spCross K) := by
  have sc := scCross
  refine FP.ok scCross (fun vs H Q E h => ?_) (fun cdv A outer s H vs Q E hr h => ?_)
  · obtain ⟨a, b, ws, ns, rfl, _⟩ := h
    rfl
  · obtain ⟨a, b, ws, ns, rfl, ha, hb, kn, ks⟩ := h
    refine ⟨_, pss_cons (ps_if (PW.pt (pw_or (pt_cmpR op_ne (pe_callB call_len_seq (by rfl) gL boot_len (pa_cons (pv 0) pa_nil)) pe_int (nomark _))
          (pw_or (pt_cmpR op_notIn_seq (pe_ix ix_list (pv 0) pe_int (fun _ _ => rfl)) (pv 1) rfl)
          (pw_or1 (pt_cmpR op_notIn_seq (pe_ix ix_list (pv 0) pe_int (fun _ _ => rfl)) (pv 1) rfl)))))
        (pss_one (ps_ret pe_non)) pss_nil)
      (pss_one (ps_ret (pe_tup (pa_cons pe_str (pa_cons (pe_ix ix_list (pv 0) pe_int (fun _ _ => rfl)) (pa_cons (pe_ix ix_list (pv 0) pe_int (fun _ _ => rfl)) pa_nil)))))), ?_⟩
    refine rd_seq (rd_if ?_)
    refine ⟨_, rfl, a, _, rfl, .inl ha, rfl, _, rfl, ?_⟩
    rcases ws with _ | ⟨x, _ | ⟨y, _ | ⟨z, _ | ⟨u, r⟩⟩⟩⟩
    · exact Eq.mpr (if_pos rfl) (kn rfl)
    · exact Eq.mpr (if_pos rfl) (kn rfl)
    · exact Eq.mpr (if_pos rfl) (kn rfl)
    · refine Eq.mpr (if_neg (nt (by rfl))) ?_
      refine ⟨_, rfl, a, _, 1, .str y, rfl, rfl, ha, rfl, _, rfl, b, _, rfl, .inl hb, rfl, flat_strs _, _, rfl, ?_⟩
      rw [if_pos rfl, inV_str]
      by_cases h3 : y ∈ ns
      · refine Eq.mpr (if_neg (nt h3)) ?_
        refine ⟨_, rfl, a, _, 2, .str z, rfl, rfl, ha, rfl, _, rfl, b, _, rfl, .inl hb, rfl, flat_strs _, _, rfl, ?_⟩
        rw [if_pos rfl, inV_str]
        by_cases h4 : z ∈ ns
        · refine Eq.mpr (if_neg (nt h4)) ?_
          dsimp only [tNext]
          refine ⟨_, rfl, a, _, 1, .str y, rfl, rfl, ha, rfl, _, rfl, a, _, 2, .str z, rfl, rfl, ha, rfl, (by exact (by decide : 3 ≤ sizeLine)), fun p hp => ?_⟩
          exact ks _ (if_pos ⟨h3, h4⟩) p hp
        · refine Eq.mpr (if_pos (nf h4)) ?_
          exact kn (if_neg fun q => h4 q.2)
      · refine Eq.mpr (if_pos (nf h3)) ?_
        exact kn (if_neg fun q => h3 q.1)
    · exact Eq.mpr (if_pos (big3 _ 3 (by simp only [List.length_map, List.length_cons]; omega))) (kn rfl)
def spBound (K : Frag) : Sp := fun vs H Q _ => ∃ (a : Addr) (ws : List Str) (n : Int), vs = [.ref a, .int n] ∧ SqL K H a (ws.map V.str) ∧ (∀ x ∈ ws, x.length ≤ 900000) ∧ ∀ H', Same H H' → Q (optV (boundW ws n)) H'
theorem scBound : FnScope ["words", "hand"] ["words", "hand"] (defScope sBound) := ⟨rfl, rfl, rfl, by decide +kernel, rfl, by decide +kernel, by decide +kernel⟩
theorem ok_bound {f fN fC : Addr} {fd fdN fdC : FuncData} (FP : FD K "bound_in" sBound f fd) (F : FxNum mg) (gB : ∃ t, mg "GREATEST_BOUND" = some (.int 99 t)) (FN : FD K "number_in" sNum fN fdN) (gN : mg "number_in" = some (.ref fN)) (bN : Binds K fdN ["word", "low", "high"] [])
    (FC : FD K "consists_of" sCons fC fdC) (gC : mg "consists_of" = some (.ref fC)) (bC : Binds K fdC ["text", "signs"] []) : FnOk P w K mg bs CX0 3 f fd ["words", "hand"] (spBound K) := by
  have sc := scBound
  have GN : FnOk P w K mg bs CX0 2 fN fdN ["word", "low", "high"] spNum := ok_num FN F FC gC bC
  obtain ⟨t1, e1⟩ := gB
  refine FP.ok scBound (fun vs H Q E h => ?_) (fun cdv A outer s H vs Q E hr h => ?_)
  · obtain ⟨a, ws, n, rfl, _⟩ := h
    rfl
  · obtain ⟨a, ws, n, rfl, ha, hz, k⟩ := h
    refine ⟨_, pss_cons (ps_if (pt_not (pt_truth (pv 0) (fun _ => rfl))) (pss_one (ps_ret (pv 1))) pss_nil)
      (pss_cons (ps_if (PW.pt (pw_or (pt_cmpR op_ne (pe_callB call_len_seq (by rfl) F.len boot_len (pa_cons (pv 0) pa_nil)) pe_int (nomark _))
          (pw_or1 (pt_cmpR op_ne (pe_ix ix_list (pv 0) pe_int (fun _ _ => rfl)) pe_str (nomark _)))))
        (pss_one (ps_ret pe_non)) pss_nil)
      (pss_one (ps_ret (pe_call GN hr (by rfl) gN FN.kp bN .nil pass0 (pa_cons (pe_ix ix_list (pv 0) pe_int (fun _ _ => rfl)) (pa_cons pe_int (pa_cons (pe_glob (v := .int 99) rfl e1 ⟨_, rfl⟩) pa_nil))))))), ?_⟩
    refine rd_seq (rd_if ?_)
    refine ⟨_, rfl, _, .inl ⟨_, ha, rfl⟩, ?_⟩
    rcases ws with _ | ⟨x, _ | ⟨y, _ | ⟨z, r⟩⟩⟩
    · refine Eq.mpr (if_pos rfl) ?_
      exact ⟨_, rfl, k H (Same.refl H)⟩
    · refine Eq.mpr (if_neg Bool.false_ne_true) ?_
      dsimp only [tNext]
      refine rd_seq (rd_if ?_)
      refine ⟨_, rfl, a, _, rfl, .inl ha, rfl, _, rfl, ?_⟩
      exact Eq.mpr (if_pos rfl) (k H (Same.refl H))
    · refine Eq.mpr (if_neg Bool.false_ne_true) ?_
      dsimp only [tNext]
      refine rd_seq (rd_if ?_)
      refine ⟨_, rfl, a, _, rfl, .inl ha, rfl, _, rfl, ?_⟩
      refine Eq.mpr (if_neg (nt (by rfl))) ?_
      refine ⟨_, rfl, a, _, 0, .str x, rfl, rfl, ha, rfl, rfl, _, rfl, ?_⟩
      by_cases h1 : x = "within"
      · refine Eq.mpr (if_neg (nt (by rw [h1]))) ?_
        dsimp only [tNext]
        refine ⟨_, rfl, a, _, 1, .str y, rfl, rfl, ha, rfl, y, 0, 99, rfl, hz y (by simp), fun H2 s2 => ?_⟩
        have q := k H2 s2
        rw [show boundW [x, y] n = numIn y 0 99 from if_pos h1] at q
        exact q
      · refine Eq.mpr (if_pos (nf (fun q => h1 (V.str.inj q)))) ?_
        have q := k H (Same.refl H)
        rw [show boundW [x, y] n = none from if_neg h1] at q
        exact q
    · refine Eq.mpr (if_neg Bool.false_ne_true) ?_
      dsimp only [tNext]
      refine rd_seq (rd_if ?_)
      refine ⟨_, rfl, a, _, rfl, .inl ha, rfl, _, rfl, ?_⟩
      exact Eq.mpr (if_pos (big3 _ 2 (by simp only [List.length_map, List.length_cons]; omega))) (k H (Same.refl H))
theorem cut_last2 (ws : List Str) : cutV (ws.map V.str) (some (-2)) none = (ws.drop (ws.length - 2)).map V.str := by
  unfold cutV HT.sIx
  rw [List.length_map]
  dsimp only
  rw [if_pos (by decide), show ((-2 : Int) + (ws.length : Int)).toNat = ws.length - 2 by omega, List.map_drop]
  exact List.take_of_length_le (by rw [List.length_drop, List.length_map]; omega)
def spAim (K : Frag) : Sp := fun vs H Q _ => ∃ (a b : Addr) (ws ns : List Str), vs = [.ref a, .ref b] ∧ SqL K H a (ws.map V.str) ∧ SqL K H b (ns.map V.str) ∧ ws ≠ [] ∧ (∀ x ∈ ws, x.length ≤ 900000) ∧
  (aimW ws ns = none → ∀ H', Same H H' → Q .non H') ∧ ∀ m, aimW ws ns = some m → ∀ H' p, Same H H' → H p = none → H' p = some (.tup (aimV m)) → Q (.ref p) H'
theorem scAim : FnScope ["words", "names", "numbers", "word"] ["words", "names"] (defScope sAim) := ⟨rfl, rfl, rfl, by decide +kernel, rfl, by decide +kernel, by decide +kernel⟩
theorem ok_aim {f fX fS fN fC : Addr} {fd fdX fdS fdN fdC : FuncData} (FP : FD K "aim_in" sAim f fd) (F : FxNum mg) (gF : ∃ t, mg "FARTHEST" = some (.int 999 t))
    (FX : FD K "cross_in" sCross fX fdX) (gX : mg "cross_in" = some (.ref fX)) (bX : Binds K fdX ["words", "names"] [])
    (FS : FD K "signed_number_in" sSgn fS fdS) (gS : mg "signed_number_in" = some (.ref fS)) (bS : Binds K fdS ["word", "most"] [])
    (FN : FD K "number_in" sNum fN fdN) (gN : mg "number_in" = some (.ref fN)) (bN : Binds K fdN ["word", "low", "high"] [])
    (FC : FD K "consists_of" sCons fC fdC) (gC : mg "consists_of" = some (.ref fC)) (bC : Binds K fdC ["text", "signs"] []) : FnOk P w K mg bs CX0 4 f fd ["words", "names"] (spAim K) := by
  have sc := scAim
  have GX : FnOk P w K mg bs CX0 1 fX fdX ["words", "names"] (spCross K) := ok_cross FX F.len
  have GS : FnOk P w K mg bs CX0 3 fS fdS ["word", "most"] spSgn := ok_sgn FS F FN gN bN FC gC bC
  obtain ⟨t1, e1⟩ := gF
  refine FP.ok scAim (fun vs H Q E h => ?_) (fun cdv A outer s H vs Q E hr h => ?_)
  · obtain ⟨a, b, ws, ns, rfl, _⟩ := h
    rfl
  · obtain ⟨a, b, ws, ns, rfl, ha, hb, hne, hz, kn, ks⟩ := h
    have hr1 : Room 1 (A.deeper (envOfC "aim_in" (defScope sAim) s.heap.objs.size f cdv)) := hr.mono (by decide)
    refine ⟨_, pss_cons (ps_if (pt_cmpR op_eq (pe_ix ix_list (pv 0) pe_int (fun _ _ => rfl)) pe_str (nomark _)) (pss_one (ps_ret (pe_call GX hr1 (by rfl) gX FX.kp bX .nil pass0 (pa_cons (pv 0) (pa_cons (pv 1) pa_nil))))) pss_nil)
      (pss_cons (ps_setLc (i := 2) (own := [("word", 3)]) (g := gName 3) (by rfl) sc.nd rfl rfl (sw_true rfl rfl rfl (by decide +kernel)) (pi_list (pe_slice sl_list (pv 0) (po_some (pe_un un_neg pe_int)) po_none)) (blkOk_by (N := ["words", "names", "numbers", "word"]) (sc := defScope sAim) (by decide +kernel))
          (fun _ _ _ _ _ => pg_name (i := 3) sc.nd rfl (Or.inl rfl)) (fun _ _ _ _ _ => pts_nil)
          (fun _ _ _ _ _ => pe_call GS hr (by rfl) gS FS.kp bS .nil pass0 (pa_cons (pv 3) (pa_cons (pe_glob (v := .int 999) rfl e1 ⟨_, rfl⟩) pa_nil))))
      (pss_cons (ps_if (pt_cmpR op_in_seq pe_non (pv 2) rfl) (pss_one (ps_ret pe_non)) pss_nil)
      (Evl.pss_cut (ps_if (PW.pt (pw_and (pt_cmpR op_eq (pe_ix ix_list (pv 0) pe_int (fun _ _ => rfl)) pe_str (nomark _)) (pw_and1 (pt_cmpR op_eq (pe_callB call_len_seq (by rfl) F.len boot_len (pa_cons (pv 0) pa_nil)) pe_int (nomark _)))))
          (pss_one (ps_ret (pe_tup (pa_cons pe_str (pa_cons (pe_ix ix_list (pv 2) pe_int (fun _ _ => rfl)) (pa_cons (pe_ix ix_list (pv 2) pe_int (fun _ _ => rfl)) pa_nil)))))) pss_nil)
      (Evl.pss_cut (ps_if (PW.pt (pw_and (pt_cmpR op_eq (pe_ix ix_list (pv 0) pe_int (fun _ _ => rfl)) pe_str (nomark _)) (pw_and (pt_cmpR op_eq (pe_callB call_len_seq (by rfl) F.len boot_len (pa_cons (pv 0) pa_nil)) pe_int (nomark _))
            (pw_and1 (pt_cmpR op_in_seq (pe_ix ix_list (pv 0) pe_int (fun _ _ => rfl)) (pv 1) rfl)))))
          (pss_one (ps_ret (pe_tup (pa_cons pe_str (pa_cons (pe_ix ix_list (pv 0) pe_int (fun _ _ => rfl)) (pa_cons (pe_ix ix_list (pv 2) pe_int (fun _ _ => rfl)) (pa_cons (pe_ix ix_list (pv 2) pe_int (fun _ _ => rfl)) pa_nil))))))) pss_nil)
      (pss_one (ps_ret pe_non)))))), ?_⟩
    obtain ⟨w0, wr, rfl⟩ : ∃ x r, ws = x :: r := by
      cases ws with
      | nil => exact absurd rfl hne
      | cons x r => exact ⟨x, r, rfl⟩
    refine rd_seq (rd_if ?_)
    refine ⟨_, rfl, a, _, 0, .str w0, rfl, rfl, ha, at0 _ _, rfl, _, rfl, ?_⟩
    by_cases hc : w0 = "cross"
    · refine Eq.mpr (if_pos (decide_eq_true (congrArg V.str hc))) ?_
      have hx : aimW (w0 :: wr) ns = crossW (w0 :: wr) ns := by
        rcases wr with _ | ⟨x, _ | ⟨y, _ | ⟨z, _ | ⟨u, r⟩⟩⟩⟩
        · rfl
        · rfl
        · exact if_pos hc
        · exact if_pos hc
        · rfl
      refine ⟨_, rfl, _, rfl, a, b, _, ns, rfl, ha, hb, fun hn => kn (hx.trans hn) H (Same.refl H), fun m hm p hp => ks m (hx.trans hm) _ p (same_new hp) hp upd_same⟩
    · refine Eq.mpr (if_neg (fun q => hc (V.str.inj (of_decide_eq_true q)))) ?_
      dsimp only [tNext]
      refine rd_seq (rd_set ?_)
      refine ⟨_, rfl, 2, rfl, _, rfl, a, _, rfl, ha, fun L hL => ?_⟩
      rw [cut_last2]
      have sL : Same H (upd H L (.lst (((w0 :: wr).drop ((w0 :: wr).length - 2)).map V.str))) := same_new hL
      have fL : upd H L (.lst (((w0 :: wr).drop ((w0 :: wr).length - 2)).map V.str)) L = some (.lst (((w0 :: wr).drop ((w0 :: wr).length - 2)).map V.str)) := upd_same
      generalize upd H L (.lst (((w0 :: wr).drop ((w0 :: wr).length - 2)).map V.str)) = H1 at sL fL ⊢
      have hzl : ∀ x ∈ (w0 :: wr).drop ((w0 :: wr).length - 2), x.length ≤ 900000 := fun x hx => hz x (List.mem_of_mem_drop hx)
      have hl2 : ((w0 :: wr).drop ((w0 :: wr).length - 2)).length ≤ 2 := by rw [List.length_drop]; omega
      generalize eT : (w0 :: wr).drop ((w0 :: wr).length - 2) = tw at fL hzl hl2 ⊢
      refine ⟨L, rfl, ⟨_, SqL.of fL⟩, fun E1 hE => lc_it (walk_list (K := K) (a := L) (xs := tw.map V.str)) (fun j H' => Same H1 H' ∧ H' E1 = some (.lst (((tw.take j).map fun x => sgnIn x 999).map optV))) ⟨same_new hE, upd_same⟩ (fun _ _ _ u => SqL.of (u.1 _ _ fL)) ?_ ?_⟩
      · rintro j v H5 H6 hj ⟨s5, d5⟩ ⟨rfl, hv⟩
        have hj' : j < tw.length := by simpa using hj
        rw [List.getElem?_map, List.getElem?_eq_getElem hj'] at hv
        cases hv
        refine ⟨rfl, rd_yes rfl ?_⟩
        refine ⟨_, rfl, tw[j], 999, rfl, hzl _ (List.getElem_mem hj'), fun H7 s7 => ⟨_, s7 _ _ d5, ?_, (s5.trans s7).mut hE, ?_⟩⟩
        · rw [List.length_map, List.length_map, List.length_take]
          exact Nat.lt_of_le_of_lt (by omega : min j tw.length ≤ 100) (by decide)
        · rw [upd_same, List.take_succ, List.getElem?_eq_getElem hj', List.map_append, List.map_append]
          rfl
      · rintro H5 ⟨s5, d5⟩
        rw [List.length_map, List.take_length] at d5
        have sH := sL.trans s5
        have ha5 := sH.seq ha
        have hb5 := sH.seq hb
        dsimp only
        refine rd_seq (rd_if ?_)
        refine ⟨_, rfl, E1, _, rfl, .inl (SqL.of d5), rfl, flatN _, _, rfl, ?_⟩
        rw [if_neg Bool.false_ne_true, inN]
        have e3 : ∀ x y : Str, w0 = "at" → wr = [x, y] → aimW (w0 :: wr) ns = atOf (sgnIn x 999) (sgnIn y 999) := fun x y h1 h2 => by
          subst h2
          exact (if_neg hc).trans (if_pos h1)
        have e4 : ∀ o x y : Str, w0 = "by" → o ∈ ns → wr = [o, x, y] → aimW (w0 :: wr) ns = byOf o (sgnIn x 999) (sgnIn y 999) := fun o x y h1 h3 h2 => by
          subst h2
          exact (if_neg hc).trans (if_pos ⟨h1, h3⟩)
        have hlen : ∀ n : Nat, n ≠ (w0 :: wr).length → ¬ decide (V.int (((w0 :: wr).map V.str).length : Nat) = V.int (n : Nat)) = true := fun n hn q => hn (by
          have h := V.int.inj (of_decide_eq_true q)
          rw [List.length_map] at h
          omega)
        -- no number, or other words: none
        have bad : aimW (w0 :: wr) ns = none → Q .non H5 := fun e => kn e H5 sH
        by_cases hN : none ∈ tw.map fun x => sgnIn x 999
        · refine Eq.mpr (if_pos (decide_eq_true hN)) ?_
          refine bad ?_
          rcases wr with _ | ⟨x, _ | ⟨y, _ | ⟨z, _ | ⟨u, r⟩⟩⟩⟩
          · rfl
          · rfl
          · have e : tw = [x, y] := eT.symm
            rw [e] at hN
            have e5 : atOf (sgnIn x 999) (sgnIn y 999) = none := by
              simp only [List.map_cons, List.map_nil, List.mem_cons, List.not_mem_nil, or_false] at hN
              rcases hN with h | h
              · rw [← h]; rfl
              · rw [← h]; cases sgnIn x 999 <;> rfl
            refine (if_neg hc).trans ?_
            rw [e5]
            exact ite_self ..
          · have e : tw = [y, z] := eT.symm
            rw [e] at hN
            have e5 : byOf x (sgnIn y 999) (sgnIn z 999) = none := by
              simp only [List.map_cons, List.map_nil, List.mem_cons, List.not_mem_nil, or_false] at hN
              rcases hN with h | h
              · rw [← h]; rfl
              · rw [← h]; cases sgnIn y 999 <;> rfl
            refine (if_neg hc).trans ?_
            rw [e5]
            exact ite_self ..
          · rfl
        · refine Eq.mpr (if_neg (fun q => hN (of_decide_eq_true q))) ?_
          dsimp only [tNext]
          refine ⟨fun σ' H' => σ' = [some (.ref a), some (.ref b), some (.ref E1), none] ∧ H' = H5 ∧ ¬ (w0 = "at" ∧ (w0 :: wr).length = 3), rd_if ?_, ?_⟩
          · refine ⟨_, rfl, a, _, 0, .str w0, rfl, rfl, ha5, at0 _ _, rfl, _, rfl, ?_⟩
            by_cases hA : w0 = "at"
            · refine Eq.mpr (if_pos (decide_eq_true (congrArg V.str hA))) ?_
              refine ⟨_, rfl, a, _, rfl, .inl ha5, rfl, _, rfl, ?_⟩
              by_cases h3 : 3 = (w0 :: wr).length
              · obtain ⟨x, y, rfl⟩ : ∃ x y, wr = [x, y] := by
                  rcases wr with _ | ⟨x, _ | ⟨y, _ | ⟨z, r⟩⟩⟩
                  · cases h3
                  · cases h3
                  · exact ⟨_, _, rfl⟩
                  · simp only [List.length_cons] at h3; omega
                have e : tw = [x, y] := eT.symm
                subst e
                refine Eq.mpr (if_pos (decide_eq_true rfl)) ?_
                have ea := e3 x y hA rfl
                cases hx : sgnIn x 999 with
                | none => exact absurd (by rw [List.map_cons, hx]; exact List.mem_cons_self ..) hN
                | some nx =>
                cases hy : sgnIn y 999 with
                | none => exact absurd (by rw [List.map_cons, List.map_cons, hy]; exact List.mem_cons_of_mem _ (List.mem_cons_self ..)) hN
                | some ny =>
                rw [hx, hy] at ea
                have d5' : H5 E1 = some (.lst [.int nx, .int ny]) := d5.trans (by show some (HO.lst [optV (sgnIn x 999), optV (sgnIn y 999)]) = _; rw [hx, hy]; rfl)
                refine ⟨_, rfl, E1, _, 0, .int nx, rfl, rfl, SqL.of d5', rfl, _, rfl, E1, _, 1, .int ny, rfl, rfl, SqL.of d5', rfl, (by exact (by decide : 3 ≤ sizeLine)), fun p hp => ?_⟩
                exact ks _ ea _ p (sH.trans (same_new hp)) (sH.free hp) upd_same
              · refine Eq.mpr (if_neg (hlen 3 h3)) ?_
                exact ⟨rfl, rfl, fun q => h3 q.2.symm⟩
            · refine Eq.mpr (if_neg (fun q => hA (V.str.inj (of_decide_eq_true q)))) ?_
              exact ⟨rfl, rfl, fun q => hA q.1⟩
          · rintro σ' H' ⟨rfl, rfl, hnA⟩
            refine ⟨fun σ' H2 => H2 = H' ∧ ¬ (w0 = "by" ∧ (w0 :: wr).length = 4 ∧ ∃ o x y, wr = [o, x, y] ∧ o ∈ ns), rd_if ?_, ?_⟩
            · refine ⟨_, rfl, a, _, 0, .str w0, rfl, rfl, ha5, at0 _ _, rfl, _, rfl, ?_⟩
              by_cases hB : w0 = "by"
              · refine Eq.mpr (if_pos (decide_eq_true (congrArg V.str hB))) ?_
                refine ⟨_, rfl, a, _, rfl, .inl ha5, rfl, _, rfl, ?_⟩
                by_cases h4 : 4 = (w0 :: wr).length
                · obtain ⟨o, x, y, rfl⟩ : ∃ o x y, wr = [o, x, y] := by
                    rcases wr with _ | ⟨x, _ | ⟨y, _ | ⟨z, _ | ⟨u, r⟩⟩⟩⟩
                    · cases h4
                    · cases h4
                    · cases h4
                    · exact ⟨_, _, _, rfl⟩
                    · simp only [List.length_cons] at h4; omega
                  have e : tw = [x, y] := eT.symm
                  subst e
                  refine Eq.mpr (if_pos (decide_eq_true rfl)) ?_
                  refine ⟨_, rfl, a, _, 1, .str o, rfl, rfl, ha5, rfl, _, rfl, b, _, rfl, .inl hb5, rfl, flat_strs _, _, rfl, ?_⟩
                  rw [if_neg Bool.false_ne_true, inV_str]
                  by_cases ho : o ∈ ns
                  · refine Eq.mpr (if_pos (decide_eq_true ho)) ?_
                    have ea := e4 o x y hB ho rfl
                    cases hx : sgnIn x 999 with
                    | none => exact absurd (by rw [List.map_cons, hx]; exact List.mem_cons_self ..) hN
                    | some nx =>
                    cases hy : sgnIn y 999 with
                    | none => exact absurd (by rw [List.map_cons, List.map_cons, hy]; exact List.mem_cons_of_mem _ (List.mem_cons_self ..)) hN
                    | some ny =>
                    rw [hx, hy] at ea
                    have d5' : H' E1 = some (.lst [.int nx, .int ny]) := d5.trans (by show some (HO.lst [optV (sgnIn x 999), optV (sgnIn y 999)]) = _; rw [hx, hy]; rfl)
                    refine ⟨_, rfl, a, _, 1, .str o, rfl, rfl, ha5, rfl, _, rfl, E1, _, 0, .int nx, rfl, rfl, SqL.of d5', rfl, _, rfl, E1, _, 1, .int ny, rfl, rfl, SqL.of d5', rfl, (by exact (by decide : 4 ≤ sizeLine)), fun p hp => ?_⟩
                    exact ks _ ea _ p (sH.trans (same_new hp)) (sH.free hp) upd_same
                  · refine Eq.mpr (if_neg (fun q => ho (of_decide_eq_true q))) ?_
                    refine ⟨rfl, fun q => ?_⟩
                    obtain ⟨_, _, o2, x2, y2, e2, h2⟩ := q
                    cases e2
                    exact ho h2
                · refine Eq.mpr (if_neg (hlen 4 h4)) ?_
                  exact ⟨rfl, fun q => h4 q.2.1.symm⟩
              · refine Eq.mpr (if_neg (fun q => hB (V.str.inj (of_decide_eq_true q)))) ?_
                exact ⟨rfl, fun q => hB q.1⟩
            · rintro σ' H2 ⟨rfl, hnB⟩
              refine bad ?_
              rcases wr with _ | ⟨x, _ | ⟨y, _ | ⟨z, _ | ⟨u, r⟩⟩⟩⟩
              · rfl
              · rfl
              · exact (if_neg hc).trans (if_neg fun q => hnA ⟨q, rfl⟩)
              · exact (if_neg hc).trans (if_neg fun q => hnB ⟨q.1, rfl, _, _, _, rfl, q.2⟩)
              · rfl
end
end L2.K07

set_option Elab.async false
set_option linter.all false
set_option maxRecDepth 100000
set_option maxHeartbeats 4000000
namespace L2.K07
open PySem PySem.Spec PyProof.Rows L2.Vx
open PySem.W (Frag)
/-! ### a point's line -/
def aimWords : List Str := ["at", "by", "cross"]
def manyOf (z : Str) : Nat := if z = "by" then 6 else 5
def pointW (ws names : List Str) (hand : Int) : Option (Str × Aim × Int) :=
  match ws with
  | p :: n :: k :: r => if p = "point" ∧ k ∈ aimWords then
      match aimW (((p :: n :: k :: r).drop 2).take (manyOf k - 2)) names, boundW ((p :: n :: k :: r).drop (manyOf k)) hand with
      | some m, some b => if nameIn n = true ∧ n ∉ names then some (n, m, b) else none
      | _, _ => none
    else none
  | _ => none
theorem cut_mid (ws : List Str) {m : Nat} (hm : 2 ≤ m) (hl : 2 ≤ ws.length) : cutV (ws.map V.str) (some 2) (some (m : Nat)) = ((ws.drop 2).take (m - 2)).map V.str := by
  unfold cutV HT.sIx
  rw [List.length_map]
  dsimp only
  rw [if_neg (by omega), if_neg (by decide), show min (2 : Int).toNat ws.length = 2 by show min 2 ws.length = 2; omega, Int.toNat_natCast, List.map_take, List.map_drop]
  have e : min m ws.length - 2 = min (m - 2) (ws.length - 2) := by omega
  rw [e]
  have hd : ((ws.map V.str).drop 2).length = ws.length - 2 := by rw [List.length_drop, List.length_map]
  by_cases h : m - 2 ≤ ws.length - 2
  · rw [Nat.min_eq_left h]
  · rw [Nat.min_eq_right (by omega), List.take_of_length_le (by omega), List.take_of_length_le (by omega)]
theorem cut_from (ws : List Str) (m : Nat) : cutV (ws.map V.str) (some (m : Nat)) none = (ws.drop m).map V.str := by
  unfold cutV HT.sIx
  rw [List.length_map]
  dsimp only
  rw [if_neg (by omega), Int.toNat_natCast, List.map_drop]
  have e : (ws.map V.str).drop (min m ws.length) = (ws.map V.str).drop m := by
    by_cases h : m ≤ ws.length
    · rw [Nat.min_eq_left h]
    · rw [Nat.min_eq_right (by omega), List.drop_of_length_le (by rw [List.length_map]; omega), List.drop_of_length_le (by rw [List.length_map]; omega)]
  rw [e]
  exact List.take_of_length_le (by rw [List.length_drop, List.length_map]; omega)
theorem at2 (x y z : V) (r : List V) : atI (x :: y :: z :: r) 2 = some z := by
  unfold atI ixN
  rw [if_pos (by decide), if_pos (by simp only [List.length_cons]; omega)]
  rfl
section
variable {P : Program} {w : World} {K : Frag} {mg : Str → Option Value} {bs : Heap}
def FxWords (K : Frag) (w : World) (mg : Str → Option Value) : Prop := ∃ (d : Addr) (es : Array DictEntry) (n : Nat), mg "WORDS" = some (.ref d) ∧ KDict K w d es n ∧
  ∀ z : Str, ∃ r, PySem.W.nsIn K d z = some r ∧ (z ∈ aimWords → ∃ t, r = some (.int (manyOf z : Nat) t)) ∧ (z ∉ aimWords → r = none)
def spPoint (K : Frag) : Sp := fun vs H Q _ => ∃ (a b : Addr) (ws ns : List Str) (hand : Int), vs = [.ref a, .ref b, .int hand] ∧ SqL K H a (ws.map V.str) ∧ SqL K H b (ns.map V.str) ∧ (∀ x ∈ ws, x.length ≤ 900000) ∧
  (pointW ws ns hand = none → ∀ H', Same H H' → Q .non H') ∧ ∀ n m c, pointW ws ns hand = some (n, m, c) → ∀ H' q p, Same H H' → H p = none → H q = none → H' p = some (.tup (aimV m)) → H' q = some (.tup [.str n, .ref p, .int c]) → Q (.ref q) H'
theorem scPoint : FnScope ["words", "names", "hand", "many", "aim", "bound"] ["words", "names", "hand"] (defScope sPoint) := ⟨rfl, rfl, rfl, by decide +kernel, rfl, by decide +kernel, by decide +kernel⟩
theorem ok_point {f fA fB fM fX fS fN fC : Addr} {fd fdA fdB fdM fdX fdS fdN fdC : FuncData} (FP : FD K "point_in" sPoint f fd) (F : FxNum mg) (FNm : FxName mg) (FW : FxWords K w mg) (gF : ∃ t, mg "FARTHEST" = some (.int 999 t)) (gB0 : ∃ t, mg "GREATEST_BOUND" = some (.int 99 t))
    (FA : FD K "aim_in" sAim fA fdA) (gA : mg "aim_in" = some (.ref fA)) (bA : Binds K fdA ["words", "names"] [])
    (FB : FD K "bound_in" sBound fB fdB) (gB : mg "bound_in" = some (.ref fB)) (bB : Binds K fdB ["words", "hand"] [])
    (FM : FD K "is_name" sIsName fM fdM) (gM : mg "is_name" = some (.ref fM)) (bM : Binds K fdM ["value"] [])
    (FX : FD K "cross_in" sCross fX fdX) (gX : mg "cross_in" = some (.ref fX)) (bX : Binds K fdX ["words", "names"] [])
    (FS : FD K "signed_number_in" sSgn fS fdS) (gS : mg "signed_number_in" = some (.ref fS)) (bS : Binds K fdS ["word", "most"] [])
    (FN : FD K "number_in" sNum fN fdN) (gN : mg "number_in" = some (.ref fN)) (bN : Binds K fdN ["word", "low", "high"] [])
    (FC : FD K "consists_of" sCons fC fdC) (gC : mg "consists_of" = some (.ref fC)) (bC : Binds K fdC ["text", "signs"] []) : FnOk P w K mg bs CX0 5 f fd ["words", "names", "hand"] (spPoint K) := by
  have sc := scPoint
  have GA : FnOk P w K mg bs CX0 4 fA fdA ["words", "names"] (spAim K) := ok_aim FA F gF FX gX bX FS gS bS FN gN bN FC gC bC
  have GB : FnOk P w K mg bs CX0 3 fB fdB ["words", "hand"] (spBound K) := ok_bound FB F gB0 FN gN bN FC gC bC
  have GM : FnOk P w K mg bs CX0 2 fM fdM ["value"] (spName K) := ok_name FM FNm FC gC bC
  obtain ⟨d, es, n0, gD, KD, look⟩ := FW
  refine FP.ok scPoint (fun vs H Q E h => ?_) (fun cdv A outer s H vs Q E hr h => ?_)
  · obtain ⟨a, b, ws, ns, hand, rfl, _⟩ := h
    rfl
  · obtain ⟨a, b, ws, ns, hand, rfl, ha, hb, hz, kn, ks⟩ := h
    have hr3 : Room 3 (A.deeper (envOfC "point_in" (defScope sPoint) s.heap.objs.size f cdv)) := hr.mono (by decide)
    have hr2 : Room 2 (A.deeper (envOfC "point_in" (defScope sPoint) s.heap.objs.size f cdv)) := hr.mono (by decide)
    refine ⟨_, pss_cons (ps_if (PW.pt (pw_or (pt_cmpR op_lt (pe_callB call_len_seq (by rfl) F.len boot_len (pa_cons (pv 0) pa_nil)) pe_int (nomark _))
          (pw_or (pt_cmpR op_ne (pe_ix ix_list (pv 0) pe_int (fun _ _ => rfl)) pe_str (nomark _))
          (pw_or1 (pt_cmpR (op_notIn_kd KD) (pe_ix ix_list (pv 0) pe_int (fun _ _ => rfl)) (pe_glob (v := .ref d) rfl gD rfl) rfl)))))
        (pss_one (ps_ret pe_non)) pss_nil)
      (pss_cons (ps_set (i := 3) sc.nd rfl (Or.inl rfl) (pe_ix ix_kdict (pe_glob (v := .ref d) rfl gD rfl) (pe_ix ix_list (pv 0) pe_int (fun _ _ => rfl)) (fun _ _ => rfl)))
      (Evl.pss_cut (ps_set (i := 4) sc.nd rfl (Or.inl rfl) (pe_call GA hr (by rfl) gA FA.kp bA .nil pass0 (pa_cons (pe_slice sl_list (pv 0) (po_some pe_int) (po_some (pv 3))) (pa_cons (pv 1) pa_nil))))
      (pss_cons (ps_set (i := 5) sc.nd rfl (Or.inl rfl) (pe_call GB hr3 (by rfl) gB FB.kp bB .nil pass0 (pa_cons (pe_slice sl_list (pv 0) (po_some (pv 3)) po_none) (pa_cons (pv 2) pa_nil))))
      (pss_cons (ps_if (PW.pt (pw_or (pt_not (pt_val (pe_call GM hr2 (by rfl) gM FM.kp bM .nil pass0 (pa_cons (pe_ix ix_list (pv 0) pe_int (fun _ _ => rfl)) pa_nil))))
            (pw_or (pt_cmpR op_in_seq (pe_ix ix_list (pv 0) pe_int (fun _ _ => rfl)) (pv 1) rfl)
            (pw_or (pt_cmpR op_isN (pv 4) pe_non (nomark _)) (pw_or1 (pt_cmpR op_isN (pv 5) pe_non (nomark _)))))))
          (pss_one (ps_ret pe_non)) pss_nil)
      (pss_one (ps_ret (pe_tup (pa_cons (pe_ix ix_list (pv 0) pe_int (fun _ _ => rfl)) (pa_cons (pv 4) (pa_cons (pv 5) pa_nil)))))))))), ?_⟩
    refine rd_seq (rd_if ?_)
    refine ⟨_, rfl, a, _, rfl, .inl ha, _, _, rfl, rfl, _, rfl, ?_⟩
    rcases ws with _ | ⟨p0, _ | ⟨n, _ | ⟨kw, r⟩⟩⟩
    · exact Eq.mpr (if_pos rfl) (kn rfl H (Same.refl H))
    · exact Eq.mpr (if_pos rfl) (kn rfl H (Same.refl H))
    · exact Eq.mpr (if_pos rfl) (kn rfl H (Same.refl H))
    refine Eq.mpr (if_neg (fun q => by have h := of_decide_eq_true q; simp only [List.length_map, List.length_cons] at h; omega)) ?_
    refine ⟨_, rfl, a, _, 0, .str p0, rfl, rfl, ha, at0 _ _, rfl, _, rfl, ?_⟩
    by_cases h1 : p0 = "point"
    case neg =>
      refine Eq.mpr (if_pos (nf (fun q => h1 (V.str.inj q)))) ?_
      exact kn (if_neg fun q => h1 q.1) H (Same.refl H)
    refine Eq.mpr (if_neg (nt (by rw [h1]))) ?_
    obtain ⟨rr, hr1, hr4, hr5⟩ := look kw
    refine ⟨_, rfl, a, _, 2, .str kw, rfl, rfl, ha, at2 _ _ _ _, kw, rr, rfl, rfl, hr1, _, rfl, ?_⟩
    by_cases h2 : kw ∈ aimWords
    case neg =>
      rw [hr5 h2]
      refine Eq.mpr (if_pos rfl) ?_
      exact kn (if_neg fun q => h2 q.2) H (Same.refl H)
    obtain ⟨tk, etk⟩ := hr4 h2
    subst etk
    refine Eq.mpr (if_neg Bool.false_ne_true) ?_
    dsimp only [tNext]
    refine rd_seq (rd_set ?_)
    refine ⟨_, rfl, a, _, 2, .str kw, rfl, rfl, ha, at2 _ _ _ _, ?_⟩
    refine ⟨d, kw, .int (manyOf kw : Nat), rfl, rfl, ⟨es, n0, _, KD.at_, KD.lit, hr1, ⟨_, rfl⟩⟩, ?_⟩
    clear hr1 hr4 hr5
    have hm2 : 5 ≤ manyOf kw ∧ manyOf kw ≤ 6 := by unfold manyOf; split <;> omega
    have epw : pointW (p0 :: n :: kw :: r) ns hand = match aimW (((p0 :: n :: kw :: r).drop 2).take (manyOf kw - 2)) ns, boundW ((p0 :: n :: kw :: r).drop (manyOf kw)) hand with
      | some m, some b => if nameIn n = true ∧ n ∉ ns then some (n, m, b) else none
      | _, _ => none := if_pos ⟨h1, h2⟩
    have hne : ((p0 :: n :: kw :: r).drop 2).take (manyOf kw - 2) ≠ [] := by
      intro q
      have := congrArg List.length q
      rw [List.length_take, List.length_drop] at this
      simp only [List.length_cons, List.length_nil] at this
      omega
    generalize manyOf kw = many at hm2 epw hne ⊢
    dsimp only
    refine ⟨fun σ' H' => ∃ va : V, σ' = [some (.ref a), some (.ref b), some (.int hand), some (.int (many : Nat)), some va, none] ∧ Same H H' ∧
      ((va = .non ∧ aimW (((p0 :: n :: kw :: r).drop 2).take (many - 2)) ns = none) ∨ ∃ m q, va = .ref q ∧ H q = none ∧ H' q = some (.tup (aimV m)) ∧ aimW (((p0 :: n :: kw :: r).drop 2).take (many - 2)) ns = some m), rd_set ?_, ?_⟩
    · refine ⟨_, rfl, _, rfl, _, rfl, _, rfl, a, _, rfl, ha, fun L hL => ?_⟩
      rw [cut_mid _ (by omega) (by simp only [List.length_cons]; omega)]
      have sL := same_new (o := .lst ((((p0 :: n :: kw :: r).drop 2).take (many - 2)).map V.str)) hL
      refine ⟨_, rfl, L, b, _, ns, rfl, SqL.of upd_same, sL.seq hb, hne, fun x hx => hz x (List.mem_of_mem_drop (List.mem_of_mem_take hx)), fun hn H' s' => ?_, fun m hm H' q s' hq hq' => ?_⟩
      · exact ⟨.non, rfl, sL.trans s', .inl ⟨rfl, hn⟩⟩
      · exact ⟨.ref q, rfl, sL.trans s', .inr ⟨m, q, rfl, sL.free hq, hq', hm⟩⟩
    · rintro σ' H1 ⟨va, rfl, s1, hva⟩
      have ha1 := s1.seq ha
      have hb1 := s1.seq hb
      refine rd_seq (rd_set ?_)
      refine ⟨_, rfl, _, rfl, _, rfl, a, _, rfl, ha1, fun L hL => ?_⟩
      rw [cut_from]
      have sL := same_new (o := .lst (((p0 :: n :: kw :: r).drop many).map V.str)) hL
      refine ⟨_, rfl, L, _, hand, rfl, SqL.of upd_same, fun x hx => hz x (List.mem_of_mem_drop hx), fun H2 s2 => ?_⟩
      have s12 := sL.trans s2
      have sH := s1.trans s12
      have ha2 := s12.seq ha1
      have hb2 := s12.seq hb1
      generalize boundW ((p0 :: n :: kw :: r).drop many) hand = bo at epw ⊢
      dsimp only
      refine rd_seq (rd_if ?_)
      refine ⟨_, rfl, a, _, 1, .str n, rfl, rfl, ha2, at1 _ _ _, .str n, rfl, .inr ⟨n, rfl, hz n (by simp), fun H3 s3 => ⟨_, rfl, ?_⟩⟩⟩
      have s23 := sH.trans s3
      have ha3 := s3.seq ha2
      have hb3 := s3.seq hb2
      have bad : ∀ H', Same H3 H' → pointW (p0 :: n :: kw :: r) ns hand = none → Q .non H' := fun H' s' e => kn e H' (s23.trans s')
      cases hnm : nameIn n with
      | false =>
        refine Eq.mpr (if_pos rfl) ?_
        refine bad H3 (Same.refl _) (epw.trans ?_)
        rw [hnm]
        cases aimW (((p0 :: n :: kw :: r).drop 2).take (many - 2)) ns <;> cases bo <;> first | rfl | exact if_neg (fun q => by cases q.1)
      | true =>
        refine Eq.mpr (if_neg (by decide)) ?_
        refine ⟨_, rfl, a, _, 1, .str n, rfl, rfl, ha3, at1 _ _ _, _, rfl, b, _, rfl, .inl hb3, rfl, flat_strs _, _, rfl, ?_⟩
        rw [if_neg Bool.false_ne_true, inV_str]
        by_cases hin : n ∈ ns
        · refine Eq.mpr (if_pos (decide_eq_true hin)) ?_
          refine bad H3 (Same.refl _) (epw.trans ?_)
          cases aimW (((p0 :: n :: kw :: r).drop 2).take (many - 2)) ns <;> cases bo <;> first | rfl | exact if_neg (fun q => q.2 hin)
        · refine Eq.mpr (if_neg (fun q => hin (of_decide_eq_true q))) ?_
          rcases hva with ⟨rfl, ea⟩ | ⟨m, q, rfl, hq0, hq1, ea⟩
          · refine ⟨_, rfl, rfl, _, rfl, ?_⟩
            refine Eq.mpr (if_pos rfl) ?_
            refine bad H3 (Same.refl _) (epw.trans ?_)
            rw [ea]
          · refine ⟨_, rfl, rfl, _, rfl, ?_⟩
            refine Eq.mpr (if_neg (fun z => by cases of_decide_eq_true z)) ?_
            cases bo with
            | none =>
              refine ⟨_, rfl, rfl, _, rfl, ?_⟩
              refine Eq.mpr (if_pos rfl) ?_
              refine bad H3 (Same.refl _) (epw.trans ?_)
              rw [ea]
            | some c =>
              refine ⟨_, rfl, rfl, _, rfl, ?_⟩
              refine Eq.mpr (if_neg (fun z => by cases of_decide_eq_true z)) ?_
              dsimp only [tNext]
              refine ⟨_, rfl, a, _, 1, .str n, rfl, rfl, ha3, at1 _ _ _, _, rfl, _, rfl, (by exact (by decide : 3 ≤ sizeLine)), fun u hu => ?_⟩
              have hq3 := s3 _ _ (s12 _ _ hq1)
              refine ks n m c (epw.trans ?_) _ u q (s23.trans (same_new hu)) hq0 (s23.free hu) ((upd_ne (fun z => by rw [z, hu] at hq3; cases hq3)).trans hq3) upd_same
              rw [ea, hnm]
              exact if_pos ⟨rfl, hin⟩
end
end L2.K07

set_option Elab.async false
set_option linter.all false
set_option maxRecDepth 100000
set_option maxHeartbeats 4000000
namespace L2.K07
open PySem PySem.Spec PyProof.Rows L2.Vx
open PySem.W (Frag)
/-! ### the lines of a plan -/
structure Clk where
  name : Str
  aim : Aim
  bound : Int
  walls : List (Str × Str)
def clicksIn : List Str → Nat → Int → List Clk → List (Str × Str) → Nat ⊕ (List Clk × List (Str × Str))
  | [], _, _, cs, wl => .inr (cs, wl)
  | z :: r, n, hand, cs, wl =>
    match wallW (Txt.split z " ") (cs.map Clk.name), pointW (Txt.split z " ") (cs.map Clk.name) hand with
    | some x, pt => if wl.length < 4 then clicksIn r (n + 1) hand cs (wl ++ [x]) else match pt with
      | some (nm, m, b) => if cs.length < 6 then clicksIn r (n + 1) hand (cs ++ [⟨nm, m, b, wl⟩]) wl else .inl n
      | none => .inl n
    | none, some (nm, m, b) => if cs.length < 6 then clicksIn r (n + 1) hand (cs ++ [⟨nm, m, b, wl⟩]) wl else .inl n
    | none, none => .inl n
def WsAt (H : Hp) (ps : List Addr) (wl : List (Str × Str)) : Prop := ps.length = wl.length ∧ ∀ (i : Nat) (p : Addr) (x : Str × Str), ps[i]? = some p → wl[i]? = some x → H p = some (.tup [.str x.1, .str x.2])
def ClkAt (H : Hp) (p : Addr) (c : Clk) : Prop := ∃ (q t : Addr) (qs : List Addr), H p = some (.tup [.str c.name, .ref q, .int c.bound, .ref t]) ∧ H q = some (.tup (aimV c.aim)) ∧ H t = some (.tup (qs.map V.ref)) ∧ WsAt H qs c.walls
def CsAt (H : Hp) (ps : List Addr) (cs : List Clk) : Prop := ps.length = cs.length ∧ ∀ (i : Nat) (p : Addr) (c : Clk), ps[i]? = some p → cs[i]? = some c → ClkAt H p c
theorem snoc_at {α : Type} {F : Addr → α → Prop} {ps : List Addr} {rs : List α} {p : Addr} {r : α} (h : ps.length = rs.length ∧ ∀ (i : Nat) (p : Addr) (r : α), ps[i]? = some p → rs[i]? = some r → F p r) (e : F p r) :
    (ps ++ [p]).length = (rs ++ [r]).length ∧ ∀ (i : Nat) (q : Addr) (u : α), (ps ++ [p])[i]? = some q → (rs ++ [r])[i]? = some u → F q u := by
  refine ⟨by rw [List.length_append, List.length_append, h.1]; rfl, fun i q u a b => ?_⟩
  by_cases hi : i < ps.length
  · rw [List.getElem?_append_left hi] at a
    rw [List.getElem?_append_left (by rw [← h.1]; exact hi)] at b
    exact h.2 i q u a b
  · rw [List.getElem?_append_right (by omega)] at a
    rw [List.getElem?_append_right (by rw [← h.1]; omega), ← h.1] at b
    cases hk : i - ps.length with
    | zero =>
      rw [hk] at a b
      cases a
      cases b
      exact e
    | succ n =>
      rw [hk] at a
      simp at a
theorem WsAt.map {H H' : Hp} {ps : List Addr} {wl : List (Str × Str)} (h : WsAt H ps wl) (k : ∀ p vs, H p = some (.tup vs) → H' p = some (.tup vs)) : WsAt H' ps wl := ⟨h.1, fun i p x a b => k _ _ (h.2 i p x a b)⟩
theorem ClkAt.map {H H' : Hp} {p : Addr} {c : Clk} (h : ClkAt H p c) (k : ∀ p vs, H p = some (.tup vs) → H' p = some (.tup vs)) : ClkAt H' p c := by
  obtain ⟨q, t, qs, h1, h2, h3, h4⟩ := h
  exact ⟨q, t, qs, k _ _ h1, k _ _ h2, k _ _ h3, h4.map k⟩
theorem CsAt.map {H H' : Hp} {ps : List Addr} {cs : List Clk} (h : CsAt H ps cs) (k : ∀ p vs, H p = some (.tup vs) → H' p = some (.tup vs)) : CsAt H' ps cs := ⟨h.1, fun i p x a b => (h.2 i p x a b).map k⟩
theorem tup_same {H H' : Hp} (s : Same H H') : ∀ p vs, H p = some (.tup vs) → H' p = some (.tup vs) := fun _ _ e => s _ _ e
theorem tup_upd {H : Hp} {L : Addr} {xs ys : List V} (e : H L = some (.lst xs)) : ∀ p vs, H p = some (.tup vs) → upd H L (.lst ys) p = some (.tup vs) := fun p vs q => (upd_ne (fun z => by rw [z, e] at q; cases q)).trans q
theorem ck_wall {z : Str} {r : List Str} {n : Nat} {hand : Int} {cs : List Clk} {wl : List (Str × Str)} {x : Str × Str} (h : wallW (Txt.split z " ") (cs.map Clk.name) = some x) (hw : wl.length < 4) :
    clicksIn (z :: r) n hand cs wl = clicksIn r (n + 1) hand cs (wl ++ [x]) := by
  conv => lhs; unfold clicksIn
  rw [h]
  exact if_pos hw
theorem ck_pt {z : Str} {r : List Str} {n : Nat} {hand : Int} {cs : List Clk} {wl : List (Str × Str)} {nm : Str} {m : Aim} {b : Int} (h : wallW (Txt.split z " ") (cs.map Clk.name) = none ∨ ¬ wl.length < 4)
    (hp : pointW (Txt.split z " ") (cs.map Clk.name) hand = some (nm, m, b)) (hc : cs.length < 6) : clicksIn (z :: r) n hand cs wl = clicksIn r (n + 1) hand (cs ++ [⟨nm, m, b, wl⟩]) wl := by
  conv => lhs; unfold clicksIn
  rw [hp]
  cases hx : wallW (Txt.split z " ") (cs.map Clk.name) with
  | none => exact if_pos hc
  | some x =>
    rcases h with h | h
    · rw [hx] at h; cases h
    · exact (if_neg h).trans (if_pos hc)
theorem ck_bad {z : Str} {r : List Str} {n : Nat} {hand : Int} {cs : List Clk} {wl : List (Str × Str)} (h : wallW (Txt.split z " ") (cs.map Clk.name) = none ∨ ¬ wl.length < 4)
    (hp : pointW (Txt.split z " ") (cs.map Clk.name) hand = none ∨ ¬ cs.length < 6) : clicksIn (z :: r) n hand cs wl = .inl n := by
  conv => lhs; unfold clicksIn
  cases hx : wallW (Txt.split z " ") (cs.map Clk.name) with
  | none =>
    cases hq : pointW (Txt.split z " ") (cs.map Clk.name) hand with
    | none => rfl
    | some q =>
      rcases hp with hp | hp
      · rw [hq] at hp; cases hp
      · exact if_neg hp
  | some x =>
    rcases h with h | h
    · rw [hx] at h; cases h
    · refine (if_neg h).trans ?_
      cases hq : pointW (Txt.split z " ") (cs.map Clk.name) hand with
      | none => rfl
      | some q =>
        rcases hp with hp | hp
        · rw [hq] at hp; cases hp
        · exact if_neg hp
theorem two_test {K : Frag} {σ : St} {H : Hp} {F : Bool → Hp → Prop} {i j : Nat} {v : V} {L : Addr} {xs : List V} {n : Int} (hi : σ[i]? = some (some v)) (hj : σ[j]? = some (some (.ref L))) (hL : SqL K H L xs) (h : F (!decide (v = .non) && decide ((xs.length : Int) < n)) H) :
    (tAnd (tTest (tOp (fun x y H Q => y = V.non ∧ Q (.bl (!decide (x = .non))) H) (tVar i) (tC .non))) (tTest (tOp (rI0 fun i j => .bl (decide (i < j)))
      (tCB (fun xs H Q => ∃ p ys, xs = [V.ref p] ∧ (SqL K H p ys ∨ SqT K H p ys) ∧ Q (.int ys.length) H) (tCons (tVar j) tNil)) (tC (.int n))))) σ H F := by
  refine ⟨_, hi, rfl, _, rfl, ?_⟩
  by_cases hv : v = .non
  · rw [decide_eq_true hv] at h ⊢
    exact Eq.mpr (if_neg (by decide)) h
  · rw [decide_eq_false hv] at h ⊢
    refine Eq.mpr (if_pos rfl) ?_
    exact ⟨_, hj, L, xs, rfl, .inl hL, _, _, rfl, rfl, _, rfl, h⟩
section
variable {P : Program} {w : World} {K : Frag} {mg : Str → Option Value} {bs : Heap}
def spClicks (K : Frag) (C : Addr) : Sp := fun vs H Q E => ∃ (a : Addr) (zs : List Str) (first : Nat) (hand : Int), vs = [.ref a, .int first, .int hand] ∧ SqL K H a (zs.map V.str) ∧ zs.length ≤ 900000 ∧ (∀ z ∈ zs, z.length ≤ 900000) ∧ first ≤ 10 ∧
  (∀ n, clicksIn zs first hand [] [] = .inl n → ∀ H' d, Same H H' → H' d = some (xv (.int (n : Nat))) → E (.ref C) (some d) H') ∧
  ∀ cs wl, clicksIn zs first hand [] [] = .inr (cs, wl) → ∀ H' T L1 L2 ps qs, Same H H' → H T = none → H' T = some (.tup [.ref L1, .ref L2]) → H' L1 = some (.lst (ps.map V.ref)) → H' L2 = some (.lst (qs.map V.ref)) → CsAt H' ps cs → WsAt H' qs wl → cs.length ≤ 6 → Q (.ref T) H'
theorem scClicks : FnScope ["lines", "first", "hand", "clicks", "walls", "number", "line", "words", "names", "wall", "point", "click"] ["lines", "first", "hand"] (defScope sClicks) := ⟨rfl, rfl, rfl, by decide +kernel, rfl, by decide +kernel, by decide +kernel⟩
structure FxPlan (K : Frag) (w : World) (mg : Str → Option Value) : Prop where
  num : FxNum mg
  name : FxName mg
  words : FxWords K w mg
  far : ∃ t, mg "FARTHEST" = some (.int 999 t)
  most : ∃ t, mg "GREATEST_BOUND" = some (.int 99 t)
  pts : ∃ t, mg "MOST_POINTS" = some (.int 6 t)
  wls : ∃ t, mg "MOST_WALLS" = some (.int 4 t)
  enu : mg "enumerate" = none
  tup : mg "tuple" = none
theorem ok_clicks {f fP fW fA fB fM fX fS fN fC C fI : Addr} {fd fdP fdW fdA fdB fdM fdX fdS fdN fdC : FuncData} (FP : FD K "read_clicks" sClicks f fd) (F : FxPlan K w mg) (T : ErrT K C fI) (gBad : mg "BadPlan" = some (.ref C))
    (FPt : FD K "point_in" sPoint fP fdP) (gP : mg "point_in" = some (.ref fP)) (bP : Binds K fdP ["words", "names", "hand"] [])
    (FWl : FD K "wall_in" sWall fW fdW) (gW : mg "wall_in" = some (.ref fW)) (bW : Binds K fdW ["words", "names"] [])
    (FA : FD K "aim_in" sAim fA fdA) (gA : mg "aim_in" = some (.ref fA)) (bA : Binds K fdA ["words", "names"] [])
    (FB : FD K "bound_in" sBound fB fdB) (gB : mg "bound_in" = some (.ref fB)) (bB : Binds K fdB ["words", "hand"] [])
    (FM : FD K "is_name" sIsName fM fdM) (gM : mg "is_name" = some (.ref fM)) (bM : Binds K fdM ["value"] [])
    (FX : FD K "cross_in" sCross fX fdX) (gX : mg "cross_in" = some (.ref fX)) (bX : Binds K fdX ["words", "names"] [])
    (FS : FD K "signed_number_in" sSgn fS fdS) (gS : mg "signed_number_in" = some (.ref fS)) (bS : Binds K fdS ["word", "most"] [])
    (FN : FD K "number_in" sNum fN fdN) (gN : mg "number_in" = some (.ref fN)) (bN : Binds K fdN ["word", "low", "high"] [])
    (FC : FD K "consists_of" sCons fC fdC) (gC : mg "consists_of" = some (.ref fC)) (bC : Binds K fdC ["text", "signs"] []) : FnOk P w K mg bs (L2.CX P w) 6 f fd ["lines", "first", "hand"] (spClicks K C) := by
  have sc := scClicks
  have GP : FnOk P w K mg bs CX0 5 fP fdP ["words", "names", "hand"] (spPoint K) := ok_point FPt F.num F.name F.words F.far F.most FA gA bA FB gB bB FM gM bM FX gX bX FS gS bS FN gN bN FC gC bC
  have GW : FnOk P w K mg bs CX0 1 fW fdW ["words", "names"] (spWall K) := ok_wall FWl F.num.len
  obtain ⟨t6, e6⟩ := F.pts
  obtain ⟨t4, e4⟩ := F.wls
  refine FP.okX scClicks (fun vs H Q E h => ?_) (fun cdv A outer s H vs Q E hr h => ?_)
  · obtain ⟨a, zs, n, hand, rfl, _⟩ := h
    rfl
  · obtain ⟨a, zs, first, hand, rfl, hS, hl, hz, hf, ke, kq⟩ := h
    have hr1 : Room 1 (A.deeper (envOfC "read_clicks" (defScope sClicks) s.heap.objs.size f cdv)) := hr.mono (by decide)
    refine ⟨_, pss_cons (ps_set (i := 3) sc.nd rfl (Or.inl rfl) (pe_lst pa_nil))
      (pss_cons (ps_set (i := 4) sc.nd rfl (Or.inl rfl) (pe_lst pa_nil))
      (pss_cons (ps_for (passes_of rfl) rfl (pi_enumF (by rfl) F.enu (pa_cons (pv 0) (pa_cons (pv 1) pa_nil))) (pg_tup rfl (pgs_cons (pg_name (i := 5) sc.nd rfl (Or.inl rfl)) (pgs_cons (pg_name (i := 6) sc.nd rfl (Or.inl rfl)) pgs_nil)))
        (pss_cons (ps_set (i := 7) sc.nd rfl (Or.inl rfl) (pe_split (pv 6) pe_str))
        (pss_cons (ps_setLc (i := 8) (own := [("click", 11)]) (g := gName 11) (by rfl) sc.nd rfl rfl (sw_true rfl rfl rfl (by decide +kernel)) (pi_list (pv 3)) (blkOk_by (N := ["lines", "first", "hand", "clicks", "walls", "number", "line", "words", "names", "wall", "point", "click"]) (sc := defScope sClicks) (by decide +kernel))
            (fun _ _ _ _ _ => pg_name (i := 11) sc.nd rfl (Or.inl rfl)) (fun _ _ _ _ _ => pts_nil)
            (fun _ _ _ _ _ => pe_ix (r := rIxT K) ix_tup (pv 11) pe_int (fun _ _ => rfl)))
        (Evl.pss_cut (ps_set (i := 9) sc.nd rfl (Or.inl rfl) (pe_call GW hr1 (by rfl) gW FWl.kp bW .nil pass0 (pa_cons (pv 7) (pa_cons (pv 8) pa_nil))))
        (Evl.pss_cut (ps_set (i := 10) sc.nd rfl (Or.inl rfl) (pe_call GP hr (by rfl) gP FPt.kp bP .nil pass0 (pa_cons (pv 7) (pa_cons (pv 8) (pa_cons (pv 2) pa_nil)))))
        (pss_one (ps_if (PW.pt (pw_and (pt_cmpR op_notN (pv 9) pe_non (nomark _)) (pw_and1 (pt_cmpR op_lt (pe_callB call_len_seq (by rfl) F.num.len boot_len (pa_cons (pv 4) pa_nil)) (pe_glob (v := .int 4) rfl e4 ⟨_, rfl⟩) (nomark _)))))
          (pss_one (ps_expr (pe_bm PySem.F.plainAttrs_list PySem.F.slot_list_append PySem.F.type_list_append mt_append (pv 4) (pa_cons (pv 9) pa_nil))))
          (pss_one (ps_if (PW.pt (pw_and (pt_cmpR op_notN (pv 10) pe_non (nomark _)) (pw_and1 (pt_cmpR op_lt (pe_callB call_len_seq (by rfl) F.num.len boot_len (pa_cons (pv 3) pa_nil)) (pe_glob (v := .int 6) rfl e6 ⟨_, rfl⟩) (nomark _)))))
            (pss_one (ps_expr (pe_bm PySem.F.plainAttrs_list PySem.F.slot_list_append PySem.F.type_list_append mt_append (pv 3) (pa_cons (pe_op op_catT (pv 10) (pe_tup (pa_cons (pe_callTy call_tuple_of (by rfl) F.tup boot_tuple (pa_cons (pv 4) pa_nil)) pa_nil))) pa_nil))))
            (pss_one (ps_err rfl T gBad hr (takes_of rfl rfl rfl rfl) (pa_cons (pv 5) pa_nil))))))))))))
      (pss_one (ps_ret (pe_tup (pa_cons (pv 3) (pa_cons (pv 4) pa_nil))))))), ?_⟩
    refine rd_seq (rd_set ?_)
    refine ⟨Nat.zero_le _, fun L1 hL1 => ?_⟩
    have s1 : Same H (upd H L1 (.lst [])) := same_new hL1
    have f1 : upd H L1 (.lst []) L1 = some (.lst []) := upd_same
    generalize upd H L1 (.lst []) = H1 at s1 f1 ⊢
    dsimp only
    refine rd_seq (rd_set ?_)
    refine ⟨Nat.zero_le _, fun L2 hL2 => ?_⟩
    have n12 : L1 ≠ L2 := ne_of_none f1 hL2
    have s2 : Same H1 (upd H1 L2 (.lst [])) := same_new hL2
    have f2 : upd H1 L2 (.lst []) L2 = some (.lst []) := upd_same
    have f12 := s2 _ _ f1
    have hL20 : H L2 = none := s1.free hL2
    have s12 := s1.trans s2
    generalize upd H1 L2 (.lst []) = H2 at s2 f2 f12 s12 ⊢
    dsimp only
    refine rd_seq ?_
    refine ⟨_, rfl, _, rfl, a, _, _, rfl, s12.seq hS, by omega, by omega, for_it (walk_enumF (K := K) (xs := zs.map V.str)) (fun i σ H' => ∃ (v5 v6 v7 v8 v9 v10 : Option V) (ps qs : List Addr) (cs : List Clk) (wl : List (Str × Str)),
      σ = [some (.ref a), some (.int first), some (.int hand), some (.ref L1), some (.ref L2), v5, v6, v7, v8, v9, v10, none] ∧ Same H H' ∧ H' L1 = some (.lst (ps.map V.ref)) ∧ H' L2 = some (.lst (qs.map V.ref)) ∧ CsAt H' ps cs ∧ WsAt H' qs wl ∧
        clicksIn (zs.drop i) (first + i) hand cs wl = clicksIn zs first hand [] [] ∧ cs.length ≤ 6 ∧ wl.length ≤ 4)
      ⟨none, none, none, none, none, none, [], [], [], [], rfl, s12, f12, f2, ⟨rfl, fun i p c e => by simp at e⟩, ⟨rfl, fun i p c e => by simp at e⟩, rfl, by simp, by simp⟩ (fun i σ H' _ p => ?_) ?_ ?_⟩
    · obtain ⟨_, _, _, _, _, _, _, _, _, _, _, u, _⟩ := p
      exact u.seq hS
    · rintro i x σ H3 H4 hi ⟨v5, v6, v7, v8, v9, v10, ps, qs, cs, wl, rfl, sH, eL1, eL2, hcs, hwl, eq, lc, lw⟩ ⟨T0, x1, y1, rfl, hT, rfl, hx1, hy1⟩
      cases hx1
      have hi' : i < zs.length := by simpa using hi
      have hy2 : y1 = .str zs[i] := by
        dsimp only at hy1
        rw [List.getElem?_map, List.getElem?_eq_getElem hi'] at hy1
        exact (Option.some.inj hy1).symm
      subst hy2
      have hdrop : zs.drop i = zs[i] :: zs.drop (i + 1) := List.drop_eq_getElem_cons hi'
      have hzi : zs[i].length ≤ 900000 := hz _ (List.getElem_mem hi')
      generalize zs[i] = z at hdrop hzi ⊢
      rw [hdrop] at eq
      refine ⟨T0, _, rfl, SqT.of upd_same, rfl, _, _, rfl, _, _, rfl, rfl, ?_⟩
      have s3 : Same H3 (upd H3 T0 (.tup [.int (first + (i : Nat)), .str z])) := same_new hT
      generalize upd H3 T0 (.tup [.int (first + (i : Nat)), .str z]) = H4 at s3 ⊢
      dsimp only
      refine rd_seq (rd_set ?_)
      have hz2 : z.length + 2 ≤ sizeLine := Nat.le_trans (by omega : z.length + 2 ≤ 1000000) (by decide)
      refine ⟨_, rfl, ⟨_, rfl⟩, z, _, rfl, rfl, rfl, hz2, fun p7 hp7 => ?_⟩
      have s5 : Same H4 (upd H4 p7 (.lst ((Txt.split z " ").map V.str))) := same_new hp7
      have f7 : upd H4 p7 (.lst ((Txt.split z " ").map V.str)) p7 = some (.lst ((Txt.split z " ").map V.str)) := upd_same
      have part : ∀ x ∈ Txt.split z " ", x.length ≤ 900000 := fun x hx => Nat.le_trans (split_part (s := 32) (by decide) (by rw [← sp_eq]; exact hx)) hzi
      generalize upd H4 p7 (.lst ((Txt.split z " ").map V.str)) = H5 at s5 f7 ⊢
      have s35 := s3.trans s5
      have eL15 := s35 _ _ eL1
      have hcs5 := hcs.map (tup_same s35)
      dsimp only
      refine rd_seq (rd_set ?_)
      refine ⟨_, rfl, L1, rfl, ⟨_, SqL.of eL15⟩, fun D hD => lc_it (walk_list (K := K) (a := L1) (xs := ps.map V.ref)) (fun j H' => Same H5 H' ∧ H' D = some (.lst (((cs.take j).map Clk.name).map V.str))) ⟨same_new hD, upd_same⟩ (fun _ _ _ u => SqL.of (u.1 _ _ eL15)) ?_ ?_⟩
      · rintro j v H6 H7 hj ⟨s6, d6⟩ ⟨rfl, hv⟩
        have hj' : j < ps.length := by simpa using hj
        have hj2 : j < cs.length := by rw [← hcs.1]; exact hj'
        rw [List.getElem?_map, List.getElem?_eq_getElem hj'] at hv
        cases hv
        obtain ⟨q0, t0, qs0, k1, _⟩ := (hcs5.map (tup_same s6)).2 j _ _ (List.getElem?_eq_getElem hj') (List.getElem?_eq_getElem hj2)
        refine ⟨rfl, rd_yes rfl ?_⟩
        refine ⟨_, rfl, _, _, 0, .str cs[j].name, rfl, rfl, SqT.of k1, rfl, _, d6, ?_, s6.mut hD, ?_⟩
        · rw [List.length_map, List.length_map, List.length_take]
          exact Nat.lt_of_le_of_lt (by omega : min j cs.length ≤ 100) (by decide)
        · rw [upd_same, List.take_succ, List.getElem?_eq_getElem hj2, List.map_append, List.map_append]
          rfl
      · rintro H6 ⟨s6, d6⟩
        rw [List.length_map, hcs.1, List.take_length] at d6
        have f76 := s6 _ _ f7
        have s36 := s35.trans s6
        dsimp only
        -- the wall
        refine ⟨fun σ' H' => ∃ vw : V, σ' = [some (.ref a), some (.int first), some (.int hand), some (.ref L1), some (.ref L2), some (.int (first + (i : Nat))), some (.str z), some (.ref p7), some (.ref D), some vw, v10, none] ∧ Same H6 H' ∧
          ((vw = .non ∧ wallW (Txt.split z " ") (cs.map Clk.name) = none) ∨ ∃ x q, vw = .ref q ∧ H' q = some (.tup [.str x.1, .str x.2]) ∧ wallW (Txt.split z " ") (cs.map Clk.name) = some x), rd_set ?_, ?_⟩
        · refine ⟨_, rfl, _, rfl, p7, D, _, _, rfl, SqL.of f76, SqL.of d6, fun e => ⟨.non, rfl, Same.refl _, .inl ⟨rfl, e⟩⟩, fun x y e q hq => ⟨.ref q, rfl, same_new hq, .inr ⟨(x, y), q, rfl, upd_same, e⟩⟩⟩
        · rintro σ' H7 ⟨vw, rfl, s7, hvw⟩
          -- the point
          refine ⟨fun σ' H' => ∃ vp : V, σ' = [some (.ref a), some (.int first), some (.int hand), some (.ref L1), some (.ref L2), some (.int (first + (i : Nat))), some (.str z), some (.ref p7), some (.ref D), some vw, some vp, none] ∧ Same H7 H' ∧
            ((vp = .non ∧ pointW (Txt.split z " ") (cs.map Clk.name) hand = none) ∨ ∃ n m c q u, vp = .ref u ∧ H' q = some (.tup (aimV m)) ∧ H' u = some (.tup [.str n, .ref q, .int c]) ∧ pointW (Txt.split z " ") (cs.map Clk.name) hand = some (n, m, c)), rd_set ?_, ?_⟩
          · refine ⟨_, rfl, _, rfl, _, rfl, p7, D, _, _, hand, rfl, SqL.of (s7 _ _ f76), SqL.of (s7 _ _ d6), part, fun e H' s' => ⟨.non, rfl, s', .inl ⟨rfl, e⟩⟩, fun n m c e H' u q s' _ _ h1 h2 => ⟨.ref u, rfl, s', .inr ⟨n, m, c, q, u, rfl, h1, h2, e⟩⟩⟩
          · rintro σ' H8 ⟨vp, rfl, s8, hvp⟩
            have s38 := (s36.trans s7).trans s8
            have sH8 := sH.trans s38
            have g1 := s38 _ _ eL1
            have g2 := s38 _ _ eL2
            have hcs8 := hcs.map (tup_same s38)
            have hwl8 := hwl.map (tup_same s38)
            have lps := hcs.1
            have lqs := hwl.1
            have hL1z : H L1 = none := hL1
            refine rd_if ?_
            refine two_test (K := K) rfl rfl (SqL.of g2) ?_
            rw [List.length_map, lqs]
            have nw : ∀ v : V, (!decide (v = V.non)) = false ↔ v = .non := fun v => by
              by_cases h : v = .non
              · rw [decide_eq_true h]; simp [h]
              · rw [decide_eq_false h]; simp [h]
            by_cases hT1 : (!decide (vw = V.non) && decide ((wl.length : Int) < 4)) = true
            · rw [hT1]
              refine Eq.mpr (if_pos rfl) ?_
              obtain ⟨c1, c2⟩ := Bool.and_eq_true_iff.mp hT1
              have hw4 : wl.length < 4 := by have := of_decide_eq_true c2; omega
              rcases hvw with ⟨rfl, _⟩ | ⟨x, q, rfl, hq, ew⟩
              · rw [decide_eq_true rfl] at c1; cases c1
              · have hq8 := s8 _ _ hq
                refine ⟨_, rfl, .inl ⟨rfl, _, SqL.of g2⟩, _, rfl, L2, _, _, rfl, rfl, g2, Nat.lt_of_le_of_lt (by rw [List.length_map, lqs]; omega : (qs.map V.ref).length ≤ 100) (by decide), ?_⟩
                refine ⟨_, _, _, _, _, _, ps, qs ++ [q], cs, wl ++ [x], rfl, sH8.mut hL20, (upd_ne n12).trans g1, by rw [upd_same, List.map_append]; rfl, hcs8.map (tup_upd g2), snoc_at (hwl8.map (tup_upd g2)) (tup_upd g2 _ _ hq8), ?_, lc, by rw [List.length_append]; show wl.length + 1 ≤ 4; omega⟩
                rw [← eq, ck_wall ew hw4, Nat.add_assoc]
            · have hT1' : (!decide (vw = V.non) && decide ((wl.length : Int) < 4)) = false := by simpa using hT1
              rw [hT1']
              refine Eq.mpr (if_neg Bool.false_ne_true) ?_
              have hno : wallW (Txt.split z " ") (cs.map Clk.name) = none ∨ ¬ wl.length < 4 := by
                rcases hvw with ⟨_, e⟩ | ⟨x, q, rfl, _, _⟩
                · exact .inl e
                · refine .inr fun h => hT1 ?_
                  rw [decide_eq_false (by simp), decide_eq_true (by omega)]
                  rfl
              refine rd_if ?_
              refine two_test (K := K) rfl rfl (SqL.of g1) ?_
              rw [List.length_map, lps]
              by_cases hT2 : (!decide (vp = V.non) && decide ((cs.length : Int) < 6)) = true
              · rw [hT2]
                refine Eq.mpr (if_pos rfl) ?_
                obtain ⟨c1, c2⟩ := Bool.and_eq_true_iff.mp hT2
                have hc6 : cs.length < 6 := by have := of_decide_eq_true c2; omega
                rcases hvp with ⟨rfl, _⟩ | ⟨n, m, c, q, u, rfl, hq, hu, ep⟩
                · rw [decide_eq_true rfl] at c1; cases c1
                · refine ⟨_, rfl, .inl ⟨rfl, _, SqL.of g1⟩, _, rfl, _, rfl, L2, _, rfl, .inl ⟨SqL.of g2, fun t1 ht1 => ?_⟩⟩
                  have sa := same_new (o := .tup (qs.map V.ref)) ht1
                  refine ⟨(by exact (by decide : 1 ≤ sizeLine)), fun t2 ht2 => ?_⟩
                  have sb := same_new (o := .tup [.ref t1]) ht2
                  have sab := sa.trans sb
                  have ft1 := sb _ _ (upd_same (H := H8) (a := t1) (o := .tup (qs.map V.ref)))
                  have ft2 : upd (upd H8 t1 (.tup (qs.map V.ref))) t2 (.tup [.ref t1]) t2 = some (.tup [.ref t1]) := upd_same
                  generalize upd (upd H8 t1 (.tup (qs.map V.ref))) t2 (.tup [.ref t1]) = H9 at sb sab ft1 ft2 ⊢
                  refine ⟨u, t2, _, _, rfl, rfl, SqT.of (sab _ _ hu), SqT.of ft2, (fun q => by cases q), (by exact (by decide : 4 ≤ sizeLine)), fun q => (by cases q), fun _ t3 ht3 => ?_⟩
                  have sc3 : Same H9 (upd H9 t3 (.tup ([.str n, .ref q, .int c] ++ [.ref t1]))) := same_new ht3
                  have ft3 : upd H9 t3 (.tup ([.str n, .ref q, .int c] ++ [.ref t1])) t3 = some (.tup [.str n, .ref q, .int c, .ref t1]) := upd_same
                  have ft1' := sc3 _ _ ft1
                  have sabc := sab.trans sc3
                  refine ⟨L1, _, _, rfl, rfl, sabc _ _ g1, Nat.lt_of_le_of_lt (by rw [List.length_map, lps]; omega : (ps.map V.ref).length ≤ 100) (by decide), ?_⟩
                  have k1 := sabc _ _ g1
                  have k2 := sabc _ _ g2
                  have sHA := sH8.trans sabc
                  have hcsA := (hcs8.map (tup_same sabc)).map (tup_upd (ys := (ps ++ [t3]).map V.ref) k1)
                  have hwlA := (hwl8.map (tup_same sabc)).map (tup_upd (ys := (ps ++ [t3]).map V.ref) k1)
                  have hqA := tup_upd (ys := (ps ++ [t3]).map V.ref) k1 _ _ (sabc _ _ hq)
                  have ft3A := tup_upd (ys := (ps ++ [t3]).map V.ref) k1 _ _ ft3
                  have ft1A := tup_upd (ys := (ps ++ [t3]).map V.ref) k1 _ _ ft1'
                  have em : ps.map V.ref ++ [V.ref t3] = (ps ++ [t3]).map V.ref := by rw [List.map_append]; rfl
                  rw [em]
                  refine ⟨_, _, _, _, _, _, ps ++ [t3], qs, cs ++ [⟨n, m, c, wl⟩], wl, rfl, sHA.mut hL1z, upd_same, (upd_ne (Ne.symm n12)).trans k2, snoc_at hcsA ⟨q, t1, qs, ft3A, hqA, ft1A, hwlA⟩, hwlA, ?_, by rw [List.length_append]; show cs.length + 1 ≤ 6; omega, lw⟩
                  rw [← eq, ck_pt hno ep hc6, Nat.add_assoc]
              · have hT2' : (!decide (vp = V.non) && decide ((cs.length : Int) < 6)) = false := by simpa using hT2
                rw [hT2']
                refine Eq.mpr (if_neg Bool.false_ne_true) ?_
                have hno2 : pointW (Txt.split z " ") (cs.map Clk.name) hand = none ∨ ¬ cs.length < 6 := by
                  rcases hvp with ⟨_, e⟩ | ⟨n, m, c, q, u, rfl, _, _, _⟩
                  · exact .inl e
                  · refine .inr fun h => hT2 ?_
                    rw [decide_eq_false (by simp), decide_eq_true (by omega)]
                    rfl
                refine ⟨_, rfl, _, rfl, fun d hd => ?_⟩
                have e9 : clicksIn zs first hand [] [] = .inl (first + i) := by
                  rw [← eq]
                  exact ck_bad hno hno2
                have e8 : ((first : Nat) : Int) + ((i : Nat) : Int) = ((first + i : Nat) : Int) := by omega
                exact ke (first + i) e9 _ d (sH8.trans (same_new hd)) (by rw [upd_same, e8])
    · rintro σ H3 ⟨v5, v6, v7, v8, v9, v10, ps, qs, cs, wl, rfl, sH, eL1, eL2, hcs, hwl, eq, lc, lw⟩
      rw [List.length_map, List.drop_length] at eq
      refine ⟨_, rfl, _, rfl, (by exact (by decide : 2 ≤ sizeLine)), fun T1 hT1 => ?_⟩
      have sT := same_new (o := .tup [.ref L1, .ref L2]) hT1
      exact kq cs wl eq.symm _ T1 L1 L2 ps qs (sH.trans sT) (sH.free hT1) upd_same (sT _ _ eL1) (sT _ _ eL2) (hcs.map (tup_same sT)) (hwl.map (tup_same sT)) lc
end
end L2.K07

set_option Elab.async false
set_option linter.all false
set_option maxRecDepth 100000
set_option maxHeartbeats 4000000
namespace L2.K07
open PySem PySem.Spec PyProof.Rows L2.Vx
open PySem.W (Frag)
/-! ### a plan, made of its text -/
abbrev PlanR := Int × List Clk × List (Str × Str)
def planW : List Str → Nat ⊕ PlanR
  | [] => .inl 1
  | l :: r => match handIn l with
    | none => .inl 1
    | some h => match clicksIn r 2 h [] [] with
      | .inl n => .inl n
      | .inr ([], _) => .inl (r.length + 2)
      | .inr (c :: cs, wl) => .inr (h, c :: cs, wl)
def planIn (z : Str) : Nat ⊕ PlanR := planW (Txt.split z "\n")
theorem planW0 {l : Str} {r : List Str} (h : handIn l = none) : planW (l :: r) = .inl 1 := by simp [planW, h]
theorem planW1 {l : Str} {r : List Str} {h : Int} {n : Nat} (e : handIn l = some h) (c : clicksIn r 2 h [] [] = .inl n) : planW (l :: r) = .inl n := by simp [planW, e, c]
theorem planW2 {l : Str} {r : List Str} {h : Int} {wl : List (Str × Str)} (e : handIn l = some h) (c : clicksIn r 2 h [] [] = .inr ([], wl)) : planW (l :: r) = .inl (r.length + 2) := by simp [planW, e, c]
theorem planW3 {l : Str} {r : List Str} {h : Int} {c : Clk} {cs : List Clk} {wl : List (Str × Str)} (e : handIn l = some h) (k : clicksIn r 2 h [] [] = .inr (c :: cs, wl)) : planW (l :: r) = .inr (h, c :: cs, wl) := by simp [planW, e, k]
theorem putF_len (f : Str) (y : V) : ∀ fs : List (Str × V), (putF f y fs).length ≤ fs.length + 1 := by
  intro fs
  induction fs with
  | nil => simp [putF]
  | cons a r ih =>
    unfold putF
    split
    · simp
    · simp only [List.length_cons]
      omega
/-- the plan's own fields -/
def planF (z : Str) (h : Int) (pt wt ct : Addr) : List (Str × V) := putF "clicks" (.ref ct) (putF "walls" (.ref wt) (putF "points" (.ref pt) (putF "hand" (.int h) (putF "text" (.str z) []))))
theorem CsAt.but {x : Addr} {H H' : Hp} {ps : List Addr} {cs : List Clk} {o : HO} (h : CsAt H ps cs) (b : ∀ a u, a ≠ x → H a = some u → H' a = some u) (e : H x = some o) (n : ∀ vs, o ≠ .tup vs) : CsAt H' ps cs :=
  h.map fun p vs q => b _ _ (fun z => by rw [z, e] at q; exact n vs (Option.some.inj q)) q
section
variable {P : Program} {w : World} {K : Frag} {mg : Str → Option Value} {bs : Heap}
def spPInit (K : Frag) (B C : Addr) : Sp := fun vs H Q E => ∃ (x dx : Addr) (v : V), vs = [.ref x, v] ∧ H x = some (.ins B dx []) ∧
  ((NoStr K H v ∧ ∀ H' d, Same H H' → H' d = some (xv (.int 0)) → E (.ref C) (some d) H') ∨
   ∃ z : Str, v = .str z ∧ z.length ≤ 800000 ∧
    (∀ n, planIn z = .inl n → ∀ H' d, Same H H' → H' d = some (xv (.int (n : Nat))) → E (.ref C) (some d) H') ∧
    ∀ h cs wl, planIn z = .inr (h, cs, wl) → ∀ H' pt wt ct ps qs, But x H H' → H' x = some (.ins B dx (planF z h pt wt ct)) → H' pt = some (.tup ((cs.map Clk.name).map V.str)) → H' wt = some (.tup (qs.map V.ref)) → H' ct = some (.tup (ps.map V.ref)) →
      CsAt H' ps cs → WsAt H' qs wl → Q .non H')
theorem scPInit : FnScope ["self", "text", "lines", "hand", "clicks", "walls", "click"] ["self", "text"] (defScope sPlan) := ⟨rfl, rfl, rfl, by decide +kernel, rfl, by decide +kernel, by decide +kernel⟩
structure FxPInit (K : Frag) (mg : Str → Option Value) (B : Addr) : Prop where
  cls : Cls K B
  nT : NoAttr K B "text"
  nH : NoAttr K B "hand"
  nP : NoAttr K B "points"
  nW : NoAttr K B "walls"
  nC : NoAttr K B "clicks"
theorem ok_pinit {f fR fH fP fW fA fB fM fX fS fN fC B C fI : Addr} {fd fdR fdH fdP fdW fdA fdB fdM fdX fdS fdN fdC : FuncData} (FP : Fun K "__init__" "Plan.__init__" sPlan f fd) (FI : FxPInit K mg B) (F : FxPlan K w mg) (T : ErrT K C fI) (gBad : mg "BadPlan" = some (.ref C))
    (FR : FD K "read_clicks" sClicks fR fdR) (gR : mg "read_clicks" = some (.ref fR)) (bR : Binds K fdR ["lines", "first", "hand"] [])
    (FH : FD K "read_hand" sHand fH fdH) (gH : mg "read_hand" = some (.ref fH)) (bH : Binds K fdH ["line", "most"] [])
    (FPt : FD K "point_in" sPoint fP fdP) (gP : mg "point_in" = some (.ref fP)) (bP : Binds K fdP ["words", "names", "hand"] [])
    (FWl : FD K "wall_in" sWall fW fdW) (gW : mg "wall_in" = some (.ref fW)) (bW : Binds K fdW ["words", "names"] [])
    (FA : FD K "aim_in" sAim fA fdA) (gA : mg "aim_in" = some (.ref fA)) (bA : Binds K fdA ["words", "names"] [])
    (FB : FD K "bound_in" sBound fB fdB) (gB : mg "bound_in" = some (.ref fB)) (bB : Binds K fdB ["words", "hand"] [])
    (FM : FD K "is_name" sIsName fM fdM) (gM : mg "is_name" = some (.ref fM)) (bM : Binds K fdM ["value"] [])
    (FX : FD K "cross_in" sCross fX fdX) (gX : mg "cross_in" = some (.ref fX)) (bX : Binds K fdX ["words", "names"] [])
    (FS : FD K "signed_number_in" sSgn fS fdS) (gS : mg "signed_number_in" = some (.ref fS)) (bS : Binds K fdS ["word", "most"] [])
    (FN : FD K "number_in" sNum fN fdN) (gN : mg "number_in" = some (.ref fN)) (bN : Binds K fdN ["word", "low", "high"] [])
    (FC : FD K "consists_of" sCons fC fdC) (gC : mg "consists_of" = some (.ref fC)) (bC : Binds K fdC ["text", "signs"] []) : FnOk P w K mg bs (L2.CX P w) 7 f fd ["self", "text"] (spPInit K B C) := by
  have sc := scPInit
  have GR : FnOk P w K mg bs (L2.CX P w) 6 fR fdR ["lines", "first", "hand"] (spClicks K C) := ok_clicks FR F T gBad FPt gP bP FWl gW bW FA gA bA FB gB bB FM gM bM FX gX bX FS gS bS FN gN bN FC gC bC
  have GH : FnOk P w K mg bs CX0 3 fH fdH ["line", "most"] spHand := ok_hand FH F.num FN gN bN FC gC bC
  obtain ⟨t9, e9⟩ := F.most
  refine FP.okX scPInit (fun vs H Q E h => ?_) (fun cdv A outer s H vs Q E hr h => ?_)
  · obtain ⟨x, dx, v, rfl, _⟩ := h
    rfl
  · obtain ⟨x, dx, v, rfl, hx, h⟩ := h
    have hr3 : Room 3 (A.deeper (envOfC "Plan.__init__" (defScope sPlan) s.heap.objs.size f cdv)) := hr.mono (by decide)
    refine ⟨_, pss_cons (ps_if (pt_not (pt_val (pe_callB call_isi (by rfl) F.name.isi boot_isinstance (pa_cons (pv 1) (pa_cons (pe_bltn (v := .ty "str") (by rfl) F.num.str boot_str rfl) pa_nil)))))
        (pss_one (ps_err rfl T gBad hr (takes_of rfl rfl rfl rfl) (pa_cons pe_int pa_nil))) pss_nil)
      (pss_cons (ps_set (i := 2) sc.nd rfl (Or.inl rfl) (pe_split (pv 1) pe_str))
      (pss_cons (ps_set (i := 3) sc.nd rfl (Or.inl rfl) (pe_call GH hr3 (by rfl) gH FH.kp bH .nil pass0 (pa_cons (pe_ix ix_list (pv 2) pe_int (fun _ _ => rfl)) (pa_cons (pe_glob (v := .int 99) rfl e9 ⟨_, rfl⟩) pa_nil))))
      (pss_cons (ps_if (pt_cmpR op_isN (pv 3) pe_non (nomark _)) (pss_one (ps_err rfl T gBad hr (takes_of rfl rfl rfl rfl) (pa_cons pe_int pa_nil))) pss_nil)
      (pss_cons (ps_asg (pe_callS GR hr (by rfl) gR FR.kp bR (fun σ => passAt (takes_of rfl rfl rfl rfl) σ) (pa_cons (pe_slice sl_list (pv 2) (po_some pe_int) po_none) (pa_cons pe_int (pa_cons (pv 3) pa_nil))))
          (pg_tup rfl (pgs_cons (pg_name (i := 4) sc.nd rfl (Or.inl rfl)) (pgs_cons (pg_name (i := 5) sc.nd rfl (Or.inl rfl)) pgs_nil))))
      (pss_cons (ps_if (pt_not (pt_truth (pv 4) (fun _ => rfl))) (pss_one (ps_err rfl T gBad hr (takes_of rfl rfl rfl rfl) (pa_cons (pe_op op_add (pe_callB call_len_seq (by rfl) F.num.len boot_len (pa_cons (pv 2) pa_nil)) pe_int) pa_nil))) pss_nil)
      (pss_cons (ps_fld (pv 0) (pv 1) rfl)
      (pss_cons (ps_fld (pv 0) (pv 3) rfl)
      (pss_cons (ps_fld (pv 0) (pe_callTy call_tuple_of (by rfl) F.tup boot_tuple (pa_cons (pe_lc (own := [("click", 6)]) (g := gName 6) (by rfl) sc.nd (pi_list (pv 4)) (blkOk_by (N := ["self", "text", "lines", "hand", "clicks", "walls", "click"]) (sc := defScope sPlan) (by decide +kernel))
            (fun _ _ _ _ _ => pg_name (i := 6) sc.nd rfl (Or.inl rfl)) (fun _ _ _ _ _ => pts_nil)
            (fun _ _ _ _ _ => pe_ix (r := rIxT K) ix_tup (pv 6) pe_int (fun _ _ => rfl))) pa_nil)) rfl)
      (pss_cons (ps_fld (pv 0) (pe_callTy call_tuple_of (by rfl) F.tup boot_tuple (pa_cons (pv 5) pa_nil)) rfl)
      (pss_one (ps_fld (pv 0) (pe_callTy call_tuple_of (by rfl) F.tup boot_tuple (pa_cons (pv 4) pa_nil)) rfl))))))))))), ?_⟩
    refine rd_seq (rd_if ?_)
    rcases h with ⟨⟨n, hT, hk⟩, ke⟩ | ⟨z, rfl, hz, ke, kq⟩
    · refine ⟨_, rfl, v, .ty "str", _, _, false, rfl, .ty "str", hT, kit_ty hk, _, rfl, ?_⟩
      refine Eq.mpr (if_pos rfl) ?_
      exact ⟨_, rfl, fun d hd => ke _ d (same_new hd) upd_same⟩
    · refine ⟨_, rfl, .str z, .ty "str", .type "str", _, true, rfl, .ty "str", .base (.str z), kit_ty (by decide +kernel), _, rfl, ?_⟩
      refine Eq.mpr (if_neg (by decide)) ?_
      dsimp only [tNext]
      refine rd_seq (rd_set ?_)
      have hz2 : z.length + 2 ≤ sizeLine := Nat.le_trans (by omega : z.length + 2 ≤ 1000000) (by decide)
      refine ⟨_, rfl, ⟨_, rfl⟩, z, _, rfl, rfl, rfl, hz2, fun p hp => ?_⟩
      have s1 : Same H (upd H p (.lst ((Txt.split z "\n").map V.str))) := same_new hp
      have f1 : upd H p (.lst ((Txt.split z "\n").map V.str)) p = some (.lst ((Txt.split z "\n").map V.str)) := upd_same
      generalize upd H p (.lst ((Txt.split z "\n").map V.str)) = H1 at s1 f1 ⊢
      dsimp only
      have part : ∀ y ∈ Txt.split z "\n", y.length ≤ z.length := fun y hy => split_part (s := 10) (by decide) (by rw [← nl_eq]; exact hy)
      have cnt : (Txt.split z "\n").length ≤ z.length + 1 := by
        have := split_len z (s := 10) (by decide)
        rw [← nl_eq] at this
        exact this
      have hne : Txt.split z "\n" ≠ [] := by
        have := split_ne z (s := 10) (by decide)
        rw [← nl_eq] at this
        exact this
      have e0 : planIn z = planW (Txt.split z "\n") := rfl
      generalize Txt.split z "\n" = W at f1 part cnt hne e0
      cases W with
      | nil => exact absurd rfl hne
      | cons l r =>
      refine rd_seq (rd_set ?_)
      refine ⟨_, rfl, p, _, 0, .str l, rfl, rfl, SqL.of f1, at0 _ _, l, rfl, Nat.le_trans (part l (by simp)) (by omega), fun H2 s2 => ?_⟩
      dsimp only
      refine rd_seq (rd_if ?_)
      refine ⟨_, rfl, rfl, _, rfl, ?_⟩
      cases ha : handIn l with
      | none =>
        refine Eq.mpr (if_pos rfl) ?_
        refine ⟨_, rfl, fun d hd => ke 1 (e0.trans (planW0 ha)) _ d ((s1.trans s2).trans (same_new hd)) upd_same⟩
      | some h =>
        refine Eq.mpr (if_neg (fun z => by cases of_decide_eq_true z)) ?_
        dsimp only [tNext]
        refine rd_seq ?_
        have f2 := s2 _ _ f1
        refine ⟨_, rfl, _, rfl, p, _, rfl, SqL.of f2, fun p2 hp2 => ?_⟩
        have ec : cutV ((l :: r).map V.str) (some 1) none = r.map V.str := by
          show ((((l :: r).map V.str).drop 1).take (((l :: r).map V.str).length - 1)) = r.map V.str
          rw [List.map_cons, List.drop_succ_cons, List.drop_zero, List.length_cons, Nat.add_sub_cancel, List.take_length]
        rw [ec]
        have s3 : Same H2 (upd H2 p2 (.lst (r.map V.str))) := same_new hp2
        have f3 : upd H2 p2 (.lst (r.map V.str)) p2 = some (.lst (r.map V.str)) := upd_same
        generalize upd H2 p2 (.lst (r.map V.str)) = H3 at s3 f3 ⊢
        refine ⟨_, rfl, p2, r, 2, h, rfl, SqL.of f3, ?_, fun y hy => Nat.le_trans (part y (List.mem_cons_of_mem _ hy)) (by omega), by omega, fun n hn H' d s d' => ?_, fun cs wl hn H4 TT L1 L2 ps qs s4 hTT fT e1 e2 hcs hwl lc6 => ?_⟩
        · have := cnt
          rw [List.length_cons] at this
          omega
        · exact ke n (e0.trans (planW1 ha hn)) H' d (((s1.trans s2).trans s3).trans s) d'
        · refine ⟨TT, _, rfl, SqT.of fT, rfl, _, _, rfl, _, _, rfl, rfl, ?_⟩
          dsimp only
          have f4 := s4 _ _ (s3 _ _ f2)
          refine rd_seq (rd_if ?_)
          refine ⟨_, rfl, _, .inl ⟨_, SqL.of e1, rfl⟩, ?_⟩
          have sA := ((s1.trans s2).trans s3).trans s4
          cases cs with
          | nil =>
            have hps : ps = [] := List.length_eq_zero_iff.mp hcs.1
            subst hps
            refine Eq.mpr (if_pos rfl) ?_
            refine ⟨_, rfl, p, _, rfl, .inl (SqL.of f4), _, _, rfl, rfl, _, rfl, fun d hd => ke (r.length + 2) (e0.trans (planW2 ha hn)) _ d (sA.trans (same_new hd)) ?_⟩
            rw [upd_same]
            show some (xv (V.int ((((l :: r).map V.str).length : Int) + 1))) = _
            have e8 : (((l :: r).map V.str).length : Int) + 1 = ((r.length + 2 : Nat) : Int) := by rw [List.length_map, List.length_cons]; omega
            rw [e8]
          | cons c0 cs =>
            cases ps with
            | nil => exact absurd hcs.1 (by simp)
            | cons p0 ps =>
            refine Eq.mpr (if_neg (by simp)) ?_
            dsimp only [tNext]
            have hx4 := sA _ _ hx
            have eB : planIn z = .inr (h, c0 :: cs, wl) := e0.trans (planW3 ha hn)
            have nL1 : L1 ≠ x := fun e => by rw [e, hx4] at e1; cases e1
            have nL2 : L2 ≠ x := fun e => by rw [e, hx4] at e2; cases e2
            generalize c0 :: cs = cc at hcs eB lc6 ⊢
            generalize p0 :: ps = pp at hcs e1 ⊢
            refine rd_seq ?_
            refine ⟨_, rfl, _, rfl, x, B, dx, [], rfl, hx4, FI.cls, FI.nT, by simp, ?_⟩
            dsimp only
            refine rd_seq ?_
            refine ⟨_, rfl, _, rfl, x, B, dx, _, rfl, upd_same, FI.cls, FI.nH, Nat.lt_of_le_of_lt (putF_len _ _ _) (by simp), ?_⟩
            dsimp only
            rw [show optV (some h) = V.int h from rfl]
            have fx5 : upd (upd H4 x (.ins B dx (putF "text" (.str z) []))) x (.ins B dx (putF "hand" (.int h) (putF "text" (.str z) []))) x = some (.ins B dx (putF "hand" (.int h) (putF "text" (.str z) []))) := upd_same
            have k5 : But x H4 (upd (upd H4 x (.ins B dx (putF "text" (.str z) []))) x (.ins B dx (putF "hand" (.int h) (putF "text" (.str z) [])))) := But.upd.trans But.upd
            generalize upd (upd H4 x (.ins B dx (putF "text" (.str z) []))) x (.ins B dx (putF "hand" (.int h) (putF "text" (.str z) []))) = H5 at fx5 k5 ⊢
            have e15 := k5 _ _ nL1 e1
            have e25 := k5 _ _ nL2 e2
            have hcs5 : CsAt H5 pp cc := hcs.but k5 hx4 (fun _ q => by cases q)
            have hwl5 : WsAt H5 qs wl := hwl.map fun p vs q => k5 _ _ (fun z => by rw [z, hx4] at q; cases q) q
            refine rd_seq ?_
            refine ⟨_, rfl, L1, rfl, ⟨_, SqL.of e15⟩, fun D hD => lc_it (walk_list (K := K) (a := L1) (xs := pp.map V.ref)) (fun j H' => Same H5 H' ∧ H' D = some (.lst (((cc.take j).map Clk.name).map V.str))) ⟨same_new hD, upd_same⟩ (fun _ _ _ u => SqL.of (u.1 _ _ e15)) ?_ ?_⟩
            · rintro j v H6 H7 hj ⟨s6, d6⟩ ⟨rfl, hv⟩
              have hj' : j < pp.length := by simpa using hj
              have hj2 : j < cc.length := by rw [← hcs.1]; exact hj'
              rw [List.getElem?_map, List.getElem?_eq_getElem hj'] at hv
              cases hv
              obtain ⟨q0, t0, qs0, k1, _⟩ := (hcs5.map (tup_same s6)).2 j _ _ (List.getElem?_eq_getElem hj') (List.getElem?_eq_getElem hj2)
              refine ⟨rfl, rd_yes rfl ?_⟩
              refine ⟨_, rfl, _, _, 0, .str cc[j].name, rfl, rfl, SqT.of k1, rfl, _, d6, ?_, s6.mut hD, ?_⟩
              · rw [List.length_map, List.length_map, List.length_take]
                exact Nat.lt_of_le_of_lt (by omega : min j cc.length ≤ 6) (by decide)
              · rw [upd_same, List.take_succ, List.getElem?_eq_getElem hj2, List.map_append, List.map_append]
                rfl
            · rintro H6 ⟨s6, d6⟩
              rw [List.length_map, hcs.1, List.take_length] at d6
              refine ⟨D, _, rfl, .inl ⟨SqL.of d6, fun pt hpt => ?_⟩⟩
              have sp := same_new (o := .tup ((cc.map Clk.name).map V.str)) hpt
              have fpt : upd H6 pt (.tup ((cc.map Clk.name).map V.str)) pt = some (.tup ((cc.map Clk.name).map V.str)) := upd_same
              have s56 := s6.trans sp
              generalize upd H6 pt (.tup ((cc.map Clk.name).map V.str)) = H7 at sp fpt s56 ⊢
              have fx7 := s56 _ _ fx5
              have nptx : pt ≠ x := fun e => by rw [e, fx7] at fpt; cases fpt
              refine ⟨_, rfl, x, B, dx, _, rfl, fx7, FI.cls, FI.nP, Nat.lt_of_le_of_lt (putF_len _ _ _) (Nat.lt_of_le_of_lt (Nat.add_le_add_right (putF_len _ _ _) 1) (by simp)), ?_⟩
              dsimp only
              have fx8 : upd H7 x (.ins B dx (putF "points" (.ref pt) (putF "hand" (.int h) (putF "text" (.str z) [])))) x = some (.ins B dx (putF "points" (.ref pt) (putF "hand" (.int h) (putF "text" (.str z) [])))) := upd_same
              have k8 : But x H7 (upd H7 x (.ins B dx (putF "points" (.ref pt) (putF "hand" (.int h) (putF "text" (.str z) []))))) := But.upd
              generalize upd H7 x (.ins B dx (putF "points" (.ref pt) (putF "hand" (.int h) (putF "text" (.str z) [])))) = H8 at fx8 k8 ⊢
              have e28 := k8 _ _ nL2 (s56 _ _ e25)
              have e18 := k8 _ _ nL1 (s56 _ _ e15)
              have fpt8 := k8 _ _ nptx fpt
              have hcs8 : CsAt H8 pp cc := (hcs5.map (tup_same s56)).but k8 fx7 (fun _ q => by cases q)
              have hwl8 : WsAt H8 qs wl := (hwl5.map (tup_same s56)).map fun p vs q => k8 _ _ (fun z => by rw [z, fx7] at q; cases q) q
              have kA : But x H H8 := ((But.of sA).trans k5).trans ((But.of s56).trans k8)
              clear fx5 k5 e15 e25 hcs5 hwl5 fpt fx7 k8 s56 s6 d6 sp
              refine rd_seq ?_
              refine ⟨_, rfl, L2, _, rfl, .inl ⟨SqL.of e28, fun wt hwt => ?_⟩⟩
              have sw := same_new (o := .tup (qs.map V.ref)) hwt
              have fwt : upd H8 wt (.tup (qs.map V.ref)) wt = some (.tup (qs.map V.ref)) := upd_same
              generalize upd H8 wt (.tup (qs.map V.ref)) = H9 at sw fwt ⊢
              have fx9 := sw _ _ fx8
              have nwtx : wt ≠ x := fun e => by rw [e, fx9] at fwt; cases fwt
              have b3 : ∀ (A : V) (f g : Str) (y u : V), (putF f y (putF g u (putF "text" A []))).length ≤ 3 := fun A f g y u => Nat.le_trans (putF_len _ _ _) (Nat.add_le_add_right (Nat.le_trans (putF_len _ _ _) (Nat.add_le_add_right (Nat.le_trans (putF_len _ _ _) (by simp)) 1)) 1)
              refine ⟨_, rfl, x, B, dx, _, rfl, fx9, FI.cls, FI.nW, Nat.lt_of_le_of_lt (b3 _ _ _ _ _) (by decide), ?_⟩
              dsimp only
              have fxa : upd H9 x (.ins B dx (putF "walls" (.ref wt) (putF "points" (.ref pt) (putF "hand" (.int h) (putF "text" (.str z) []))))) x = some (.ins B dx (putF "walls" (.ref wt) (putF "points" (.ref pt) (putF "hand" (.int h) (putF "text" (.str z) []))))) := upd_same
              have ka : But x H9 (upd H9 x (.ins B dx (putF "walls" (.ref wt) (putF "points" (.ref pt) (putF "hand" (.int h) (putF "text" (.str z) [])))))) := But.upd
              generalize upd H9 x (.ins B dx (putF "walls" (.ref wt) (putF "points" (.ref pt) (putF "hand" (.int h) (putF "text" (.str z) []))))) = Ha at fxa ka ⊢
              have e1a := ka _ _ nL1 (sw _ _ e18)
              have fpta := ka _ _ nptx (sw _ _ fpt8)
              have fwta := ka _ _ nwtx fwt
              have hcsa : CsAt Ha pp cc := (hcs8.map (tup_same sw)).but ka fx9 (fun _ q => by cases q)
              have hwla : WsAt Ha qs wl := (hwl8.map (tup_same sw)).map fun p vs q => ka _ _ (fun z => by rw [z, fx9] at q; cases q) q
              have kB : But x H Ha := kA.trans ((But.of sw).trans ka)
              refine ⟨_, rfl, L1, _, rfl, .inl ⟨SqL.of e1a, fun ct hct => ?_⟩⟩
              have sc3 := same_new (o := .tup (pp.map V.ref)) hct
              have fct : upd Ha ct (.tup (pp.map V.ref)) ct = some (.tup (pp.map V.ref)) := upd_same
              generalize upd Ha ct (.tup (pp.map V.ref)) = Hb at sc3 fct ⊢
              have fxb := sc3 _ _ fxa
              have nctx : ct ≠ x := fun e => by rw [e, fxb] at fct; cases fct
              refine ⟨_, rfl, x, B, dx, _, rfl, fxb, FI.cls, FI.nC, Nat.lt_of_le_of_lt (putF_len _ _ _) (Nat.lt_of_le_of_lt (Nat.add_le_add_right (b3 _ _ _ _ _) 1) (by decide)), ?_⟩
              have kc : But x Hb (upd Hb x (.ins B dx (planF z h pt wt ct))) := But.upd
              refine kq h cc wl eB _ pt wt ct pp qs (kB.trans ((But.of sc3).trans kc)) upd_same ((upd_ne nptx).trans (sc3 _ _ fpta)) ((upd_ne nwtx).trans (sc3 _ _ fwta)) ((upd_ne nctx).trans fct) ?_ ?_
              · exact (hcsa.map (tup_same sc3)).but kc fxb (fun _ q => by cases q)
              · exact (hwla.map (tup_same sc3)).map fun p vs q => kc _ _ (fun z => by rw [z, fxb] at q; cases q) q
end
end L2.K07

set_option Elab.async false
set_option linter.all false
set_option maxRecDepth 100000
set_option maxHeartbeats 4000000
namespace L2.K07
open PySem PySem.Spec PyProof.Rows L2.Vx
open PySem.W (Frag)
/-! ### whether a value is an integer; a plan's own operators -/
/-- a value of a kind that is told -/
def AnyI (K : Frag) (H : Hp) (v : V) : Prop := (∃ i, v = .int i) ∨ (∃ b, v = .bl b) ∨ ∃ n : String, TyX K H v (.type n) ∧ kitB n "int" = some false
def intOf : V → Option Int
  | .int i => some i
  | _ => none
theorem anyI_of {K : Frag} {H : Hp} {v : V} {d : PyData} (h : Dd K H v d) : AnyI K H v := by
  cases h with
  | non => exact .inr (.inr ⟨_, .base .non, by decide +kernel⟩)
  | bl b => exact .inr (.inl ⟨b, rfl⟩)
  | int i => exact .inl ⟨i, rfl⟩
  | str x => exact .inr (.inr ⟨_, .base (.str x), by decide +kernel⟩)
  | lst h t => exact .inr (.inr ⟨_, tyX_list h, by decide +kernel⟩)
  | tup h t => exact .inr (.inr ⟨_, tyX_tup h, by decide +kernel⟩)
  | dct h t => exact .inr (.inr ⟨_, .base (.dK h), by decide +kernel⟩)
/-- a value that is asked for: a text, or data that are none -/
def AskV (K : Frag) (H : Hp) (v : V) : Prop := (∃ u : Str, v = .str u) ∨ (∃ d, Dp K H v d ∧ SeqAt.shaped d = true ∧ isS d = false) ∨ ∃ b kvs, v = .ref b ∧ H b = some (.dK kvs)
def wordOf : V → Option Str
  | .str u => some u
  | _ => none
theorem dp_ref {K : Frag} {H : Hp} {v : V} {d : PyData} (h : Dp K H v d) (hs : isS d = false) : wordOf v = none := by
  cases h <;> first | rfl | cases hs
theorem eqv_str {d : PyData} (hs : isS d = false) (x : Str) : PyData.eqv d (.str x) = false := by
  cases d <;> first | rfl | cases hs
def PlanAt (B : Addr) (H : Hp) (a : Addr) (z : Str) (h : Int) (cs : List Clk) (wl : List (Str × Str)) : Prop := ∃ (dx pt wt ct : Addr) (ps qs : List Addr), H a = some (.ins B dx (planF z h pt wt ct)) ∧ H pt = some (.tup ((cs.map Clk.name).map V.str)) ∧
  H wt = some (.tup (qs.map V.ref)) ∧ H ct = some (.tup (ps.map V.ref)) ∧ CsAt H ps cs ∧ WsAt H qs wl
theorem PlanAt.same {B : Addr} {H H' : Hp} {a : Addr} {z : Str} {h : Int} {cs : List Clk} {wl : List (Str × Str)} (p : PlanAt B H a z h cs wl) (s : Same H H') : PlanAt B H' a z h cs wl := by
  obtain ⟨dx, pt, wt, ct, ps, qs, h1, h2, h3, h4, h5, h6⟩ := p
  exact ⟨dx, pt, wt, ct, ps, qs, s _ _ h1, s _ _ h2, s _ _ h3, s _ _ h4, h5.map (tup_same s), h6.map (tup_same s)⟩
theorem planF_text (z : Str) (h : Int) (pt wt ct : Addr) : (planF z h pt wt ct).lookup ("text" : Str) = some (.str z) := by
  unfold planF
  rw [lookup_putF, if_neg (by decide), lookup_putF, if_neg (by decide), lookup_putF, if_neg (by decide), lookup_putF, if_neg (by decide), lookup_putF, if_pos rfl]
theorem planF_hand (z : Str) (h : Int) (pt wt ct : Addr) : (planF z h pt wt ct).lookup ("hand" : Str) = some (.int h) := by
  unfold planF
  rw [lookup_putF, if_neg (by decide), lookup_putF, if_neg (by decide), lookup_putF, if_neg (by decide), lookup_putF, if_pos rfl]
theorem planF_points (z : Str) (h : Int) (pt wt ct : Addr) : (planF z h pt wt ct).lookup ("points" : Str) = some (.ref pt) := by
  unfold planF
  rw [lookup_putF, if_neg (by decide), lookup_putF, if_neg (by decide), lookup_putF, if_pos rfl]
theorem planF_walls (z : Str) (h : Int) (pt wt ct : Addr) : (planF z h pt wt ct).lookup ("walls" : Str) = some (.ref wt) := by
  unfold planF
  rw [lookup_putF, if_neg (by decide), lookup_putF, if_pos rfl]
theorem planF_clicks (z : Str) (h : Int) (pt wt ct : Addr) : (planF z h pt wt ct).lookup ("clicks" : Str) = some (.ref ct) := by
  unfold planF
  rw [lookup_putF, if_pos rfl]
theorem len_app (a b : Str) : (a ++ b).length = a.length + b.length := by
  rw [TL.len_tl, TL.tl_append, List.length_append, ← TL.len_tl, ← TL.len_tl]
theorem num_len {n : Int} (h0 : 0 ≤ n) (h7 : n ≤ 99) : (Str.ofString (toString n)).length ≤ 2 := by
  obtain ⟨m, rfl⟩ : ∃ m : Nat, n = (m : Int) := ⟨n.toNat, by omega⟩
  rw [TL.len_tl, TL.tl_num]
  exact TL.numL_len (by decide) (by omega)
theorem small99 {n : Int} (h0 : 0 ≤ n) (h7 : n ≤ 99) : n.natAbs.log2 < 1920 := by
  obtain ⟨m, rfl⟩ : ∃ m : Nat, n = (m : Int) := ⟨n.toNat, by omega⟩
  exact small_log (by omega)
/-- the text with another first line -/
def handText (z : Str) (n : Int) : Str := Txt.join "\n" (((Str.empty ++ "hand ") ++ Str.ofString (toString n)) :: (Txt.split z "\n").drop 1)
section
variable {P : Program} {w : World} {K : Frag} {mg : Str → Option Value} {bs : Heap}
theorem passN {X : Cx} : Passes (L2.CX P w) X (fun _ _ _ => False) := fun _ _ _ _ _ _ _ h => by
  obtain ⟨_, _, _, _, _, _, _, _, _, _, _, _, f⟩ := h
  exact f.elim
/-- Plan(z), z a plan's text -/
theorem rd_plan {B C : Addr} {H : Hp} {z : Str} {h : Int} {cs : List Clk} {wl : List (Str × Str)} {R : Addr → Hp → Prop} (hz : z.length ≤ 800000) (hp : planIn z = .inr (h, cs, wl)) (key : ∀ y H', H y = none → Same H H' → PlanAt B H' y z h cs wl → R y H') :
    ∀ x dx, H x = none → H dx = none → dx ≠ x → spPInit K B C [.ref x, .str z] (upd (upd H dx (.own x)) x (.ins B dx [])) (fun v H2 => v = .non ∧ R x H2) (fun _ _ _ => False) := by
  intro x dx hx hdx ndx
  have sx1 : Same H (upd H dx (.own x)) := same_new hdx
  have hx1 : upd H dx (.own x) x = none := (upd_ne (Ne.symm ndx)).trans hx
  have sx2 : Same (upd H dx (.own x)) (upd (upd H dx (.own x)) x (.ins B dx [])) := same_new hx1
  have fx : upd (upd H dx (.own x)) x (.ins B dx []) x = some (.ins B dx []) := upd_same
  have s4 : Same H (upd (upd H dx (.own x)) x (.ins B dx [])) := sx1.trans sx2
  generalize upd (upd H dx (.own x)) x (.ins B dx []) = H4 at fx s4 ⊢
  refine ⟨x, dx, _, rfl, fx, .inr ⟨_, rfl, hz, fun n hm => (by rw [hp] at hm; cases hm), fun h' cs' wl' hm H5 pt wt ct ps qs kx hx5 h2 h3 h4 h5 h6 => ?_⟩⟩
  rw [hp] at hm
  cases hm
  exact ⟨rfl, key x H5 hx (fun b o e => kx b o (fun z => by rw [z, hx] at e; cases e) (s4 _ _ e)) ⟨dx, pt, wt, ct, ps, qs, hx5, h2, h3, h4, h5, h6⟩⟩
structure FxPMk (K : Frag) (mg : Str → Option Value) (B fB : Addr) : Prop where
  init : FxPInit K mg B
  mkP : Mk K B fB
  gP : mg "Plan" = some (.ref B)
/-- the click of this name -/
def findC (v : V) : List Clk → Option Clk
  | [] => none
  | c :: cs => if wordOf v = some c.name then some c else findC v cs
def spPGet (K : Frag) (B C : Addr) : Sp := fun vs H Q E => ∃ (a : Addr) (v : V) (z : Str) (h : Int) (cs : List Clk) (wl : List (Str × Str)), vs = [.ref a, v] ∧ PlanAt B H a z h cs wl ∧ AskV K H v ∧ (∀ c ∈ cs, SeqAt.shaped (.str c.name) = true) ∧
  (∀ c, findC v cs = some c → ∀ H' q T, Same H H' → H T = none → H' q = some (.tup (aimV c.aim)) → H' T = some (.tup [.ref q, .int c.bound]) → Q (.ref T) H') ∧ (findC v cs = none → ∀ H' d, Same H H' → H' d = some (xv v) → E (.ref C) (some d) H')
theorem scPGet : FnScope ["self", "name", "known", "aim", "bound", "_"] ["self", "name"] (defScope sPGet) := ⟨rfl, rfl, rfl, by decide +kernel, rfl, by decide +kernel, by decide +kernel⟩
theorem ok_pget {f B C fI : Addr} {fd : FuncData} (FP : Fun K "__getitem__" "Plan.__getitem__" sPGet f fd) (FB : FxPInit K mg B) (T : ErrT K C fI) (gC : mg "NoPoint" = some (.ref C)) : FnOk P w K mg bs (L2.CX P w) 2 f fd ["self", "name"] (spPGet K B C) := by
  have sc := scPGet
  refine FP.okX scPGet (fun vs H Q E h => ?_) (fun cdv A outer s H vs Q E hr h => ?_)
  · obtain ⟨a, v, z, h, cs, wl, rfl, _⟩ := h
    rfl
  · obtain ⟨a, v, z, h, cs, wl, rfl, ⟨dx, pt, wt, ct, ps, qs, ha, _, _, hct, hcs, _⟩, hv, hsh, kf, kn⟩ := h
    refine ⟨_, pss_cons (ps_for (passes_of rfl) rfl (pi_tup (pe_fld (pv 0) rfl)) (pg_tup rfl (pgs_cons (pg_name (i := 2) sc.nd rfl (Or.inl rfl)) (pgs_cons (pg_name (i := 3) sc.nd rfl (Or.inl rfl)) (pgs_cons (pg_name (i := 4) sc.nd rfl (Or.inl rfl)) (pgs_cons (pg_name (i := 5) sc.nd rfl (Or.inl rfl)) pgs_nil)))))
        (pss_one (ps_if (pt_cmpR (op_eq.or ((op_eqD hr.units).or (op_eqDictStr (Nat.lt_of_le_of_lt (Nat.le_add_right _ 64) hr.units)))) (pv 1) (pv 2) (nomark _)) (pss_one (ps_ret (pe_tup (pa_cons (pv 3) (pa_cons (pv 4) pa_nil))))) pss_nil)))
      (pss_one (ps_err rfl T gC hr (takes_of rfl rfl rfl rfl) (pa_cons (pv 1) pa_nil))), ?_⟩
    refine rd_seq ?_
    refine ⟨_, rfl, a, B, dx, _, .ref ct, rfl, ha, FB.cls, FB.nC, planF_clicks _ _ _ _ _, ct, rfl, ⟨_, SqT.of hct⟩, for_it (walk_tup (K := K) (a := ct) (xs := ps.map V.ref)) (fun i σ H' => ∃ v2 v3 v4 v5 : Option V, σ = [some (.ref a), some v, v2, v3, v4, v5] ∧ H' = H ∧ findC v (cs.drop i) = findC v cs) ⟨none, none, none, none, rfl, rfl, rfl⟩ (fun i σ H' _ u => ?_) ?_ ?_⟩
    · obtain ⟨_, _, _, _, _, rfl, _⟩ := u
      exact SqT.of hct
    · rintro i x σ H4 H5 hi ⟨v2, v3, v4, v5, rfl, eH, ef⟩ ⟨rfl, hx⟩
      subst eH
      have hi' : i < ps.length := by simpa using hi
      have hi2 : i < cs.length := by rw [← hcs.1]; exact hi'
      rw [List.getElem?_map, List.getElem?_eq_getElem hi'] at hx
      cases hx
      obtain ⟨q, tw, qs0, k1, k2, k3, _⟩ := hcs.2 i _ _ (List.getElem?_eq_getElem hi') (List.getElem?_eq_getElem hi2)
      have hdrop : cs.drop i = cs[i] :: cs.drop (i + 1) := List.drop_eq_getElem_cons hi2
      rw [hdrop] at ef
      have hsr := hsh cs[i] (List.getElem_mem hi2)
      generalize cs[i] = c at k1 k2 hdrop ef hsr
      refine ⟨_, _, rfl, SqT.of k1, rfl, _, _, rfl, _, _, rfl, _, _, rfl, _, _, rfl, rfl, ?_⟩
      refine rd_if ?_
      refine ⟨_, rfl, _, rfl, ?_⟩
      rcases hv with ⟨u, rfl⟩ | ⟨d, hd, hs, hS⟩ | ⟨b, kvs, rfl, hb⟩
      · refine .inl ⟨rfl, _, rfl, ?_⟩
        by_cases hu : u = c.name
        · refine Eq.mpr (if_pos (decide_eq_true (congrArg V.str hu))) ?_
          have e : findC (.str u) cs = some c := by
            rw [← ef]
            exact if_pos (congrArg some hu)
          refine ⟨_, rfl, _, rfl, (by exact (by decide : 2 ≤ sizeLine)), fun T1 hT1 => ?_⟩
          exact kf c e _ q T1 (same_new hT1) hT1 ((upd_ne (fun z => by rw [z, hT1] at k2; cases k2)).trans k2) upd_same
        · refine Eq.mpr (if_neg (fun q => hu (V.str.inj (of_decide_eq_true q)))) ?_
          refine ⟨_, _, _, _, rfl, rfl, ?_⟩
          rw [← ef]
          exact (if_neg (fun q => hu (Option.some.inj q))).symm
      · have hw : wordOf v = none := dp_ref hd hS
        refine .inr (.inl ⟨d, .str c.name, hd, .str _, hs, hsr, _, rfl, ?_⟩)
        refine Eq.mpr (if_neg (by rw [eqv_str hS]; decide)) ?_
        refine ⟨_, _, _, _, rfl, rfl, ?_⟩
        rw [← ef]
        exact (if_neg (fun q => by rw [hw] at q; cases q)).symm
      · refine .inr (.inr ⟨b, kvs, c.name, rfl, rfl, hb, _, rfl, ?_⟩)
        refine Eq.mpr (if_neg (by decide)) ?_
        refine ⟨_, _, _, _, rfl, rfl, ?_⟩
        rw [← ef]
        exact (if_neg (fun q => by cases q)).symm
    · rintro σ H4 ⟨v2, v3, v4, v5, rfl, rfl, ef⟩
      rw [List.length_map, hcs.1, List.drop_length] at ef
      exact ⟨_, rfl, _, rfl, fun d hd => kn ef.symm _ d (same_new hd) upd_same⟩
end
end L2.K07

set_option Elab.async false
set_option linter.all false
set_option maxRecDepth 100000
set_option maxHeartbeats 4000000
namespace L2.K07
open PySem PySem.Spec PyProof.Rows L2.Vx
open PySem.W (Frag)
/-! ### plans beside one another -/
section
variable {P : Program} {w : World} {K : Frag} {mg : Str → Option Value} {bs : Heap}
structure FxIsiP (K : Frag) (mg : Str → Option Value) (B : Addr) : Prop where
  ha : PySem.W.findIn K (.ref B) "__class__" = some (some (.builtin "object.__class__"))
  hn : PySem.W.specialIn K (.builtin "object.__class__") "__get__" = some (some (.builtin "getset_descriptor.__get__"))
  ht : PySem.W.takesIn K (.builtin "object.__class__") = some true
  hm : PySem.W.mroIn K B (.type "object") = some true
  kB : PySem.W.kitOne K (.ref B) (.ref B) = some true
  kS : PySem.W.kitOne K (.type "str") (.ref B) = some false
  kN : PySem.W.kitOne K (.type "NoneType") (.ref B) = some false
  gB : mg "Plan" = some (.ref B)
  isi : mg "isinstance" = none
def spPEq (B : Addr) : Sp := fun vs H Q _ => ∃ (a : Addr) (v : V) (z : Str) (h : Int) (cs : List Clk) (wl : List (Str × Str)), vs = [.ref a, v] ∧ PlanAt B H a z h cs wl ∧
  (((v = .non ∨ ∃ u : Str, v = .str u) ∧ ∀ H', Same H H' → Q (.bl false) H') ∨ ∃ (b : Addr) (z2 : Str) (h2 : Int) (cs2 : List Clk) (wl2 : List (Str × Str)), v = .ref b ∧ PlanAt B H b z2 h2 cs2 wl2 ∧ ∀ H', Same H H' → Q (.bl (decide (z = z2))) H')
theorem scPEq : FnScope ["self", "other"] ["self", "other"] (defScope sPEq) := ⟨rfl, rfl, rfl, by decide +kernel, rfl, by decide +kernel, by decide +kernel⟩
theorem ok_peq {f B : Addr} {fd : FuncData} (FP : Fun K "__eq__" "Plan.__eq__" sPEq f fd) (FB : FxPInit K mg B) (FI : FxIsiP K mg B) : FnOk P w K mg bs CX0 1 f fd ["self", "other"] (spPEq B) := by
  have sc := scPEq
  refine FP.ok scPEq (fun vs H Q E h => ?_) (fun cdv A outer s H vs Q E hr h => ?_)
  · obtain ⟨a, v, z, h, cs, wl, rfl, _⟩ := h
    rfl
  · obtain ⟨a, v, z, h, cs, wl, rfl, ⟨dx, pt, wt, ct, ps, qs, h1, _⟩, h⟩ := h
    refine ⟨_, pss_one (ps_ret (pe_and (pe_callB call_isi (by rfl) FI.isi boot_isinstance (pa_cons (pv 1) (pa_cons (pe_ref FI.gB) pa_nil)))
      (pe_one (pe_cmpR op_eq (pe_fld (pv 0) rfl) (pe_fld (pv 1) rfl) (nomark _))))), ?_⟩
    rcases h with ⟨hv, k⟩ | ⟨b, z2, h2, cs2, wl2, rfl, ⟨dx2, pt2, wt2, ct2, ps2, qs2, g1, _⟩, k⟩
    · rcases hv with rfl | ⟨u, rfl⟩
      · refine ⟨_, rfl, .non, .ref B, _, _, false, rfl, .own B, .base .non, FI.kN, _, rfl, ?_⟩
        refine Eq.mpr (if_neg (by decide)) ?_
        exact k H (Same.refl H)
      · refine ⟨_, rfl, .str u, .ref B, _, _, false, rfl, .own B, .base (.str u), FI.kS, _, rfl, ?_⟩
        refine Eq.mpr (if_neg (by decide)) ?_
        exact k H (Same.refl H)
    · refine ⟨_, rfl, .ref b, .ref B, _, _, true, rfl, .own B, .base (.ins g1 FB.cls FI.ha FI.hn FI.ht FI.hm), FI.kB, _, rfl, ?_⟩
      refine Eq.mpr (if_pos rfl) ?_
      refine ⟨_, rfl, a, B, dx, _, .str z, rfl, h1, FB.cls, FB.nT, planF_text _ _ _ _ _, _, rfl, b, B, dx2, _, .str z2, rfl, g1, FB.cls, FB.nT, planF_text _ _ _ _ _, rfl, ?_⟩
      have e : decide (V.str z = V.str z2) = decide (z = z2) := by
        rw [Bool.eq_iff_iff]
        simp
      show Q (.bl (decide (V.str z = V.str z2))) H
      rw [e]
      exact k H (Same.refl H)
end
end L2.K07

set_option Elab.async false
set_option linter.all false
set_option maxRecDepth 100000
set_option maxHeartbeats 4000000
namespace L2.K07
open PySem PySem.Spec PyProof.Rows L2.Vx
open PySem.W (Frag)
/-! ### drawn names and aims -/
def poolN : List Str := ["a", "b", "c", "at", "by", "cross", "within", "wall", "point", "hand", "zzzzzzzz", "corner", "x"]
def numsL : List Int := [0, 1, 2, 3, 4, 5, -1, -2, -3, 6, 9, 20, -6, -9, -20, 999, -999, 100, 998, 7]
def stepsL : List Int := [6, 9, 20]
def AimOk (m : Aim) (ns : List Str) : Prop :=
  match m with
  | .at x y => x ∈ numsL ∧ y ∈ numsL
  | .by o x y => o ∈ ns ∧ x ∈ numsL ∧ y ∈ numsL
  | .cross a b => a ∈ ns ∧ b ∈ ns
theorem pool_ok : ∀ u ∈ poolN, PyData.strOk u = true := by decide +kernel
theorem pool_nodup : poolN.Nodup := by decide +kernel
theorem canAll : ∀ us : List Str, (∀ u ∈ us, u ∈ poolN) → PyData.canLayAll0 (us.map PyData.str) = true
  | [], _ => rfl
  | u :: us, h => by
    rw [List.map_cons]
    unfold PyData.canLayAll0 PyData.canLay0
    rw [pool_ok u (h u (List.mem_cons_self ..)), canAll us fun x hx => h x (List.mem_cons_of_mem _ hx)]
    rfl
theorem depthAll : ∀ us : List Str, PyData.depthAll (us.map PyData.str) = 0
  | [] => rfl
  | u :: us => by
    rw [List.map_cons]
    unfold PyData.depthAll PyData.depth
    rw [depthAll us]
    rfl
theorem shaped_names {us : List Str} (h : ∀ u ∈ us, u ∈ poolN) : SeqAt.shaped (.list (us.map PyData.str)) = true := by
  unfold SeqAt.shaped PyData.canLay0 PyData.depth
  rw [canAll us h, depthAll us]
  rfl
theorem dp_strs {K : Frag} {H : Hp} : ∀ us : List Str, DpAll K H (us.map V.str) (us.map PyData.str)
  | [] => .nil
  | u :: us => .cons (.str u) (dp_strs us)
theorem eqv_nil (us : List Str) : PyData.eqv (.list (us.map PyData.str)) (.list []) = decide (us = []) := by
  cases us with
  | nil => rfl
  | cons u us => rfl
section
variable {P : Program} {w : World} {K : Frag} {mg : Str → Option Value} {bs : Heap}
def spNames (K : Frag) : Sp := fun vs H Q _ => ∃ (p : Addr) (m : Nat) (k : Int), vs = [.ref p, .int (m : Nat)] ∧ m ≤ 13 ∧ 0 ≤ k ∧ k < 900000 ∧ Pot H p k ∧
  ∀ H' q (us : List Str), But p H H' → H q = none → H' q = some (.lst (us.map V.str)) → us.Nodup → (∀ u ∈ us, u ∈ poolN) → us.length = m → Pot H' p (k + m) → Q (.ref q) H'
theorem scNames : FnScope ["pot", "many", "pool"] ["pot", "many"] (defScope sNames) := ⟨rfl, rfl, rfl, by decide +kernel, rfl, by decide +kernel, by decide +kernel⟩
theorem strs_list {ys : List V} (h : ∀ v ∈ ys, ∃ u : Str, v = .str u) : ∃ us : List Str, ys = us.map V.str := by
  induction ys with
  | nil => exact ⟨[], rfl⟩
  | cons y ys ih =>
    obtain ⟨u, rfl⟩ := h y (by simp)
    obtain ⟨us, rfl⟩ := ih fun v hv => h v (List.mem_cons_of_mem _ hv)
    exact ⟨u :: us, rfl⟩
theorem perm_strs {a b : List Str} (h : (a.map V.str).Perm (b.map V.str)) : a.Perm b := by
  have := h.map (fun v => match v with | V.str s => s | _ => Str.empty)
  rw [List.map_map, List.map_map] at this
  have e : ∀ l : List Str, l.map ((fun v => match v with | V.str s => s | _ => Str.empty) ∘ V.str) = l := fun l => (List.map_congr_left fun _ _ => rfl).trans (List.map_id l)
  rw [e, e] at this
  exact this
/-- some of unlike texts: unlike texts, all of them among these -/
theorem some_strs {ys rest : List V} {us : List Str} (h : (ys ++ rest).Perm (us.map V.str)) (hn : us.Nodup) : ∃ xs : List Str, ys = xs.map V.str ∧ xs.Nodup ∧ ∀ x ∈ xs, x ∈ us := by
  have all : ∀ v ∈ ys ++ rest, ∃ u : Str, v = .str u := fun v hv => by
    obtain ⟨u, _, rfl⟩ := List.mem_map.mp (h.mem_iff.mp hv)
    exact ⟨u, rfl⟩
  obtain ⟨xs, rfl⟩ := strs_list fun v hv => all v (List.mem_append_left _ hv)
  obtain ⟨re, rfl⟩ := strs_list fun v hv => all v (List.mem_append_right _ hv)
  rw [← List.map_append] at h
  have pm := perm_strs h
  exact ⟨xs, rfl, (List.nodup_append.mp (pm.nodup_iff.mpr hn)).1, fun x hx => pm.mem_iff.mp (List.mem_append_left _ hx)⟩
theorem ok_names {f fT fS : Addr} {fd fdT fdS : FuncData} (FP : FD K "_law_names" sNames f fd) (F : Dx mg) (FT : FD K "_law_take" sTake fT fdT) (gT : mg "_law_take" = some (.ref fT)) (bT : Binds K fdT ["pot", "upto"] [])
    (FS : FD K "_law_some" sSome fS fdS) (gS : mg "_law_some" = some (.ref fS)) (bS : Binds K fdS ["pot", "pool", "many"] []) : FnOk P w K mg bs CX0 3 f fd ["pot", "many"] (spNames K) := by
  have sc := scNames
  have GS : FnOk P w K mg bs CX0 2 fS fdS ["pot", "pool", "many"] (spSome K) := ok_some FS F FT gT bT
  refine FP.ok scNames (fun vs H Q E h => ?_) (fun cdv A outer s H vs Q E hr h => ?_)
  · obtain ⟨p, m, k, rfl, _⟩ := h
    rfl
  · obtain ⟨p, m, t, rfl, hm, t0, ht, hP, k⟩ := h
    refine ⟨_, pss_cons (ps_set (i := 2) sc.nd rfl (Or.inl rfl) (pe_lst (pa_cons pe_str (pa_cons pe_str (pa_cons pe_str (pa_cons pe_str (pa_cons pe_str (pa_cons pe_str (pa_cons pe_str (pa_cons pe_str (pa_cons pe_str (pa_cons pe_str (pa_cons pe_str (pa_cons pe_str (pa_cons pe_str pa_nil)))))))))))))))
      (pss_one (ps_ret (pe_call GS hr (by rfl) gS FS.kp bS .nil pass0 (pa_cons (pv 0) (pa_cons (pv 2) (pa_cons (pv 1) pa_nil)))))), ?_⟩
    refine rd_seq (rd_set ?_)
    refine ⟨(by exact (by decide : 13 ≤ sizeLine)), fun L hL => ?_⟩
    have fL : upd H L (.lst (poolN.map V.str)) L = some (.lst (poolN.map V.str)) := upd_same
    have s1 : Same H (upd H L (.lst (poolN.map V.str))) := same_new hL
    dsimp only
    change tRet _ _ _ (upd H L (.lst (poolN.map V.str)))
    generalize upd H L (.lst (poolN.map V.str)) = H1 at fL s1 ⊢
    refine ⟨_, rfl, _, rfl, _, rfl, p, L, _, m, t, rfl, hP.ne hL, SqL.of fL, by decide, hm, t0, by omega, hP.same s1, fun H' q ys rest k2 hq hq' pm ly hP' => ?_⟩
    obtain ⟨xs, rfl, hn, hx⟩ := some_strs pm pool_nodup
    exact k H' q xs ((But.of s1).trans k2) (s1.free hq) hq' hn hx (by rw [List.length_map] at ly; exact ly) hP'
/-- two drawn numbers -/
theorem rd_at {p L : Addr} {xs : List Int} {k : Int} {H : Hp} {σ : St} {D : Ends} (h0 : σ[0]? = some (some (.ref p))) (h3 : σ[3]? = some (some (.ref L))) (n : L ≠ p) (fL : H L = some (.lst (xs.map V.int))) (hx : 0 < xs.length) (hx2 : xs.length ≤ 1000) (hk : k < 900000) (hP : Pot H p k)
    (key : ∀ H' q x y, But p H H' → H q = none → H' q = some (.tup (aimV (.at x y))) → x ∈ xs → y ∈ xs → Pot H' p (k + 2) → D.rt (.ref q) H') :
    tRet (tTup (tCons (tC (.str "at")) (tCons (tCall (spOf K) [] E0 (tCons (tVar 0) (tCons (tVar 3) tNil))) (tCons (tCall (spOf K) [] E0 (tCons (tVar 0) (tCons (tVar 3) tNil))) tNil)))) D σ H := by
  have lx : (xs.map V.int).length = xs.length := List.length_map ..
  refine ⟨_, h0, _, h3, p, L, _, k, rfl, n, SqL.of fL, by omega, by omega, by omega, hP, fun H1 v1 k1 hP1 hv1 => ?_⟩
  obtain ⟨x, hx1, rfl⟩ := List.mem_map.mp hv1
  refine ⟨_, h0, _, h3, p, L, _, k + 1, rfl, n, SqL.of (k1 _ _ n fL), by omega, by omega, by omega, hP1, fun H2 v2 k2 hP2 hv2 => ?_⟩
  obtain ⟨y, hy1, rfl⟩ := List.mem_map.mp hv2
  refine ⟨(by exact (by decide : 3 ≤ sizeLine)), fun q hq => ?_⟩
  have k12 := k1.trans k2
  refine key _ q x y (k12.trans (But.of (same_new hq))) (k12.free hq hP2.some.choose_spec) upd_same hx1 hy1 ?_
  exact (hP2.same (same_new hq)).mono (by omega)
def numsS (st : Int) : List Int := [0, 0, 1, 2, 3, 4, 5, -1, -2, -3, st, st, -st]
theorem numsS_in {st x : Int} (h : st ∈ stepsL) (hx : x ∈ numsS st) : x ∈ numsL := by
  simp only [stepsL, List.mem_cons, List.not_mem_nil, or_false] at h
  simp only [numsS, List.mem_cons, List.not_mem_nil, or_false] at hx
  simp only [numsL, List.mem_cons, List.not_mem_nil, or_false]
  rcases h with rfl | rfl | rfl <;> omega
def spLAim (K : Frag) : Sp := fun vs H Q _ => ∃ (p l : Addr) (ns : List Str) (st k : Int), vs = [.ref p, .ref l, .int st] ∧ l ≠ p ∧ SqL K H l (ns.map V.str) ∧ ns.length ≤ 6 ∧ (∀ u ∈ ns, u ∈ poolN) ∧ st ∈ stepsL ∧ 0 ≤ k ∧ k < 800000 ∧ Pot H p k ∧
  ∀ H' q m, But p H H' → H q = none → H' q = some (.tup (aimV m)) → AimOk m ns → Pot H' p (k + 5) → Q (.ref q) H'
theorem scLAim : FnScope ["pot", "names", "step", "some"] ["pot", "names", "step"] (defScope sLAim) := ⟨rfl, rfl, rfl, by decide +kernel, rfl, by decide +kernel, by decide +kernel⟩
theorem ok_lAim {f fT fO : Addr} {fd fdT fdO : FuncData} (FP : FD K "_law_aim" sLAim f fd) (F : Dx mg) (FT : FD K "_law_take" sTake fT fdT) (gT : mg "_law_take" = some (.ref fT)) (bT : Binds K fdT ["pot", "upto"] [])
    (FO : FD K "_law_of" sOf fO fdO) (gO : mg "_law_of" = some (.ref fO)) (bO : Binds K fdO ["pot", "some"] []) : FnOk P w K mg bs CX0 3 f fd ["pot", "names", "step"] (spLAim K) := by
  have sc := scLAim
  have GT : FnOk P w K mg bs CX0 1 fT fdT ["pot", "upto"] spTake := ok_take FT F
  have GO : FnOk P w K mg bs CX0 2 fO fdO ["pot", "some"] (spOf K) := ok_of FO F FT gT bT
  refine FP.ok scLAim (fun vs H Q E h => ?_) (fun cdv A outer s H vs Q E hr h => ?_)
  · obtain ⟨p, l, ns, st, k, rfl, _⟩ := h
    rfl
  · obtain ⟨p, l, ns, st, t, rfl, nlp, hl, hl6, hin, hst, t0, ht, hP, k⟩ := h
    have hr1 : Room 1 (A.deeper (envOfC "_law_aim" (defScope sLAim) s.heap.objs.size f cdv)) := hr.mono (by decide)
    refine ⟨_, pss_cons (ps_set (i := 3) sc.nd rfl (Or.inl rfl) (pe_lst (pa_cons pe_int (pa_cons pe_int (pa_cons pe_int (pa_cons pe_int (pa_cons pe_int (pa_cons pe_int (pa_cons pe_int (pa_cons (pe_un un_neg pe_int) (pa_cons (pe_un un_neg pe_int) (pa_cons (pe_un un_neg pe_int)
          (pa_cons (pv 2) (pa_cons (pv 2) (pa_cons (pe_un un_neg (pv 2)) pa_nil)))))))))))))))
      (pss_cons (ps_if (PW.pt (pw_or (pt_cmpR (op_eqD hr.units) (pv 1) (pe_lst pa_nil) (nomark _)) (pw_or1 (pt_cmpR op_eq (pe_call GT hr1 (by rfl) gT FT.kp bT .nil pass0 (pa_cons (pv 0) (pa_cons pe_int pa_nil))) pe_int (nomark _)))))
          (pss_one (ps_ret (pe_tup (pa_cons pe_str (pa_cons (pe_call GO hr (by rfl) gO FO.kp bO .nil pass0 (pa_cons (pv 0) (pa_cons (pv 3) pa_nil))) (pa_cons (pe_call GO hr (by rfl) gO FO.kp bO .nil pass0 (pa_cons (pv 0) (pa_cons (pv 3) pa_nil))) pa_nil)))))) pss_nil)
      (Evl.pss_cut (ps_if (PW.pt (pw_and (pt_cmpR op_gt (pe_callB call_len_seq (by rfl) F.len boot_len (pa_cons (pv 1) pa_nil)) pe_int (nomark _)) (pw_and1 (pt_cmpR op_eq (pe_call GT hr1 (by rfl) gT FT.kp bT .nil pass0 (pa_cons (pv 0) (pa_cons pe_int pa_nil))) pe_int (nomark _)))))
          (pss_one (ps_ret (pe_tup (pa_cons pe_str (pa_cons (pe_call GO hr (by rfl) gO FO.kp bO .nil pass0 (pa_cons (pv 0) (pa_cons (pv 1) pa_nil))) (pa_cons (pe_call GO hr (by rfl) gO FO.kp bO .nil pass0 (pa_cons (pv 0) (pa_cons (pv 1) pa_nil))) pa_nil)))))) pss_nil)
      (pss_one (ps_ret (pe_tup (pa_cons pe_str (pa_cons (pe_call GO hr (by rfl) gO FO.kp bO .nil pass0 (pa_cons (pv 0) (pa_cons (pv 1) pa_nil))) (pa_cons (pe_call GO hr (by rfl) gO FO.kp bO .nil pass0 (pa_cons (pv 0) (pa_cons (pv 3) pa_nil)))
          (pa_cons (pe_call GO hr (by rfl) gO FO.kp bO .nil pass0 (pa_cons (pv 0) (pa_cons (pv 3) pa_nil))) pa_nil))))))))), ?_⟩
    refine rd_seq (rd_set ?_)
    refine ⟨1, rfl, 2, rfl, 3, rfl, _, rfl, _, rfl, _, rfl, st, rfl, (by exact (by decide : 13 ≤ sizeLine)), fun L hL => ?_⟩
    have fL : upd H L (.lst ((numsS st).map V.int)) L = some (.lst ((numsS st).map V.int)) := upd_same
    have s1 : Same H (upd H L (.lst ((numsS st).map V.int))) := same_new hL
    dsimp only
    change tSeq _ _ _ _ (upd H L (.lst ((numsS st).map V.int)))
    generalize upd H L (.lst ((numsS st).map V.int)) = H1 at fL s1 ⊢
    have nL : L ≠ p := hP.ne hL
    have lS : (numsS st).length = 13 := rfl
    have hl1 := s1.seq hl
    have hP1 := hP.same s1
    have done : ∀ H2 k2, But p H1 H2 → Pot H2 p k2 → k2 ≤ t + 3 → ∀ H' q m, But p H2 H' → H2 q = none → H' q = some (.tup (aimV m)) → AimOk m ns → Pot H' p (k2 + 2) → Q (.ref q) H' := fun H2 k2 kb hPk c3 H' q m kb2 hq fq hm hP' =>
      k H' q m (((But.of s1).trans kb).trans kb2) (((But.of s1).trans kb).free hq hPk.some.choose_spec) fq hm (hP'.mono (by omega))
    refine rd_seq (rd_if ?_)
    refine ⟨_, rfl, Nat.zero_le _, fun E0 hE0 => ?_⟩
    have s2 : Same H1 (upd H1 E0 (.lst [])) := same_new hE0
    have f2 : upd H1 E0 (.lst []) E0 = some (.lst []) := upd_same
    have hP2 := hP1.same s2
    have fL2 := s2 _ _ fL
    have hl2 := s2.seq hl1
    generalize upd H1 E0 (.lst []) = H2 at s2 f2 hP2 fL2 hl2 ⊢
    refine ⟨.list (ns.map PyData.str), .list [], .lst hl2 (dp_strs ns), .lst (SqL.of f2) .nil, shaped_names hin, shaped_names (us := []) (fun _ h => by cases h), _, rfl, ?_⟩
    rw [eqv_nil]
    have at_ok : ∀ {x y : Int}, x ∈ numsS st → y ∈ numsS st → AimOk (.at x y) ns := fun h1 h2 => ⟨numsS_in hst h1, numsS_in hst h2⟩
    by_cases hn : ns = []
    · refine Eq.mpr (if_pos (decide_eq_true hn)) ?_
      refine Eq.mpr (if_pos rfl) ?_
      exact rd_at (xs := numsS st) rfl rfl nL fL2 (by rw [lS]; decide) (by rw [lS]; decide) (by omega : t < 900000) hP2 fun H' q x y kb hq fq h1 h2 hP' => done H2 t (But.of s2) hP2 (by omega) H' q _ kb hq fq (at_ok h1 h2) hP'
    · refine Eq.mpr (if_neg (fun q => hn (of_decide_eq_true q))) ?_
      refine ⟨_, rfl, p, 5, t, rfl, by decide, by decide, by omega, hP2, fun H3 i k3 hP3 i0 i5 => ⟨rfl, _, rfl, ?_⟩⟩
      have k13 := (But.of s2).trans k3
      have fL3 := k3 _ _ nL fL2
      have hl3 := k3.seq nlp hl2
      by_cases c0 : V.int i = V.int 0
      · refine Eq.mpr (if_pos (decide_eq_true c0)) ?_
        exact rd_at (xs := numsS st) rfl rfl nL fL3 (by rw [lS]; decide) (by rw [lS]; decide) (by omega : t + 1 < 900000) hP3 fun H' q x y kb hq fq h1 h2 hP' => done H3 (t + 1) k13 hP3 (by omega) H' q _ kb hq fq (at_ok h1 h2) hP'
      · refine Eq.mpr (if_neg (fun q => c0 (of_decide_eq_true q))) ?_
        dsimp only [tNext]
        have lpos : 0 < ns.length := List.length_pos_iff.mpr hn
        have lm : (ns.map V.str).length = ns.length := List.length_map ..
        refine ⟨fun σ' H' => σ' = [some (.ref p), some (.ref l), some (.int st), some (.ref L)] ∧ But p H3 H' ∧ Pot H' p (t + 2), rd_if ?_, ?_⟩
        · refine ⟨_, rfl, l, _, rfl, .inl hl3, _, _, rfl, rfl, _, rfl, ?_⟩
          by_cases h1 : (1 : Int) < ((ns.map V.str).length : Nat)
          · refine Eq.mpr (if_pos (decide_eq_true h1)) ?_
            refine ⟨_, rfl, p, 3, t + 1, rfl, by decide, by decide, by omega, hP3, fun H4 j k4 hP4' j0 j3 => ⟨rfl, _, rfl, ?_⟩⟩
            have hP4 : Pot H4 p (t + 2) := hP4'.mono (by omega)
            by_cases c1 : V.int j = V.int 0
            · refine Eq.mpr (if_pos (decide_eq_true c1)) ?_
              have hl4 := k4.seq nlp hl3
              refine ⟨_, rfl, _, rfl, p, l, _, t + 2, rfl, nlp, hl4, by omega, by omega, by omega, hP4, fun H5 v5 k5 hP5 hv5 => ?_⟩
              obtain ⟨a, ha, rfl⟩ := List.mem_map.mp hv5
              refine ⟨_, rfl, _, rfl, p, l, _, t + 2 + 1, rfl, nlp, k5.seq nlp hl4, by omega, by omega, by omega, hP5, fun H6 v6 k6 hP6 hv6 => ?_⟩
              obtain ⟨b, hb, rfl⟩ := List.mem_map.mp hv6
              refine ⟨(by exact (by decide : 3 ≤ sizeLine)), fun q hq => ?_⟩
              have k46 := k5.trans k6
              exact done H4 (t + 2) (k13.trans k4) hP4 (by omega) _ q (.cross a b) (k46.trans (But.of (same_new hq))) (k46.free hq hP6.some.choose_spec) upd_same ⟨ha, hb⟩ ((hP6.same (same_new hq)).mono (by omega))
            · refine Eq.mpr (if_neg (fun q => c1 (of_decide_eq_true q))) ?_
              exact ⟨rfl, k4, hP4.mono (by omega)⟩
          · refine Eq.mpr (if_neg (fun q => h1 (of_decide_eq_true q))) ?_
            exact ⟨rfl, But.refl _ _, hP3.mono (by omega)⟩
        · rintro σ' H4 ⟨rfl, k4, hP4⟩
          have hl4 := k4.seq nlp hl3
          have fL4 := k4 _ _ nL fL3
          have lmS : ((numsS st).map V.int).length = 13 := rfl
          refine ⟨_, rfl, _, rfl, p, l, _, t + 2, rfl, nlp, hl4, by omega, by omega, by omega, hP4, fun H5 v5 k5 hP5 hv5 => ?_⟩
          obtain ⟨a, ha, rfl⟩ := List.mem_map.mp hv5
          refine ⟨_, rfl, _, rfl, p, L, _, t + 2 + 1, rfl, nL, SqL.of (k5 _ _ nL fL4), by omega, by omega, by omega, hP5, fun H6 v6 k6 hP6 hv6 => ?_⟩
          obtain ⟨x, hx, rfl⟩ := List.mem_map.mp hv6
          refine ⟨_, rfl, _, rfl, p, L, _, t + 2 + 1 + 1, rfl, nL, SqL.of (k6 _ _ nL (k5 _ _ nL fL4)), by omega, by omega, by omega, hP6, fun H7 v7 k7 hP7 hv7 => ?_⟩
          obtain ⟨y, hy, rfl⟩ := List.mem_map.mp hv7
          refine ⟨(by exact (by decide : 4 ≤ sizeLine)), fun q hq => ?_⟩
          have kA := (k5.trans k6).trans k7
          exact k _ q (.by a x y) (((But.of s1).trans k13).trans ((k4.trans kA).trans (But.of (same_new hq)))) (((But.of s1).trans k13).free ((k4.trans kA).free hq hP7.some.choose_spec) hP3.some.choose_spec) upd_same ⟨ha, numsS_in hst hx, numsS_in hst hy⟩ ((hP7.same (same_new hq)).mono (by omega))
end
end L2.K07

set_option Elab.async false
set_option linter.all false
set_option maxRecDepth 100000
set_option maxHeartbeats 4000000
namespace L2.K07
open PySem PySem.Spec PyProof.Rows L2.Vx
open PySem.W (Frag)
/-! ### the text of a drawn plan -/
inductive Ln where
  | pt (n : Str) (m : Aim) (o : Option Int)
  | wl (a b : Str)
def LnAt (H : Hp) (p : Addr) : Ln → Prop
  | .pt n m o => ∃ q, H p = some (.tup [.str "point", .str n, .ref q, optV o]) ∧ H q = some (.tup (aimV m))
  | .wl a b => H p = some (.tup [.str "wall", .str a, .str b])
def LnsAt (H : Hp) (ps : List Addr) (ls : List Ln) : Prop := ps.length = ls.length ∧ ∀ (i : Nat) (p : Addr) (l : Ln), ps[i]? = some p → ls[i]? = some l → LnAt H p l
theorem LnAt.map {H H' : Hp} {p : Addr} {l : Ln} (h : LnAt H p l) (k : ∀ p vs, H p = some (.tup vs) → H' p = some (.tup vs)) : LnAt H' p l := by
  cases l with
  | pt n m o =>
    obtain ⟨q, h1, h2⟩ := h
    exact ⟨q, k _ _ h1, k _ _ h2⟩
  | wl a b => exact k _ _ h
theorem LnsAt.map {H H' : Hp} {ps : List Addr} {ls : List Ln} (h : LnsAt H ps ls) (k : ∀ p vs, H p = some (.tup vs) → H' p = some (.tup vs)) : LnsAt H' ps ls := ⟨h.1, fun i p l a b => (h.2 i p l a b).map k⟩
def numT (i : Int) : Str := Str.ofString (toString i)
def txtOf : V → Str
  | .str s => s
  | .int i => numT i
  | _ => Str.empty
def SmallV (v : V) : Prop := (∃ s : Str, v = .str s ∧ s.length ≤ 20) ∨ ∃ i : Int, v = .int i ∧ -1000 < i ∧ i < 1000
def LnSmall : Ln → Prop
  | .pt n m o => n.length ≤ 20 ∧ (∀ v ∈ aimV m, SmallV v) ∧ ∀ b, o = some b → 0 ≤ b ∧ b ≤ 99
  | .wl a b => a.length ≤ 20 ∧ b.length ≤ 20
def ptText (n : Str) (m : Aim) : Str := Txt.join " " ("point" :: n :: (aimV m).map txtOf)
def lineText : Ln → Str
  | .wl a b => Txt.join " " ["wall", a, b]
  | .pt n m none => ptText n m
  | .pt n m (some b) => ptText n m ++ " within " ++ numT b
theorem num1000 {i : Int} (h0 : -1000 < i) (h1 : i < 1000) : i.natAbs.log2 < 1920 ∧ (numT i).length ≤ 5 := by
  refine ⟨?_, ?_⟩
  · by_cases e : i.natAbs = 0
    · rw [e]; decide
    · exact (Nat.log2_lt e).mpr (Nat.lt_trans (by omega : i.natAbs < 1000) (by decide +kernel))
  · have h : ∀ n : Nat, n < 1000 → (numT (n : Int)).length ≤ 5 ∧ (numT (-(n : Int))).length ≤ 5 := by decide +kernel
    obtain ⟨n, hn⟩ : ∃ n : Nat, i = (n : Int) ∨ i = -(n : Int) := ⟨i.natAbs, by omega⟩
    rcases hn with rfl | rfl
    · exact (h n (by omega)).1
    · exact (h n (by omega)).2
theorem txt_len {v : V} (h : SmallV v) : (txtOf v).length ≤ 20 := by
  rcases h with ⟨s, rfl, hs⟩ | ⟨i, rfl, h0, h1⟩
  · exact hs
  · exact Nat.le_trans (num1000 h0 h1).2 (by decide)
theorem aimV_len (m : Aim) : (aimV m).length ≤ 4 := by cases m <;> (show _ ≤ _; simp [aimV])
theorem tot_le {B : Nat} : ∀ (ys : List Str), (∀ y ∈ ys, y.length ≤ B) → tot ys ≤ ys.length * (B + 1)
  | [], _ => by simp [tot_nil]
  | y :: ys, h => by
    rw [tot_cons, List.length_cons, Nat.succ_mul]
    have := h y (by simp)
    have := tot_le ys fun x hx => h x (List.mem_cons_of_mem _ hx)
    omega
theorem point_len : ("point" : Str).length = 5 := by decide +kernel
theorem wall_len : ("wall" : Str).length = 4 := by decide +kernel
theorem within_len : (" within " : Str).length = 8 := by decide +kernel
theorem pt_tot {n : Str} {m : Aim} (hn : n.length ≤ 20) (hm : ∀ v ∈ aimV m, SmallV v) : tot ("point" :: n :: (aimV m).map txtOf) ≤ 200 := by
  rw [tot_cons, tot_cons, point_len]
  have h := tot_le (B := 20) ((aimV m).map txtOf) (fun y hy => by
    obtain ⟨v, hv, rfl⟩ := List.mem_map.mp hy
    exact txt_len (hm v hv))
  rw [List.length_map] at h
  have := aimV_len m
  omega
section
variable {P : Program} {w : World} {K : Frag} {mg : Str → Option Value} {bs : Heap}
def spLine (K : Frag) : Sp := fun vs H Q _ => ∃ (p : Addr) (l : Ln), vs = [.ref p] ∧ LnAt H p l ∧ LnSmall l ∧ ∀ H', Same H H' → Q (.str (lineText l)) H'
theorem scLine : FnScope ["line", "text", "part"] ["line"] (defScope sLine) := ⟨rfl, rfl, rfl, by decide +kernel, rfl, by decide +kernel, by decide +kernel⟩
theorem ok_line {f : Addr} {fd : FuncData} (FP : FD K "_law_line_text" sLine f fd) (gS : mg "str" = none) : FnOk P w K mg bs CX0 1 f fd ["line"] (spLine K) := by
  have sc := scLine
  refine FP.ok scLine (fun vs H Q E h => ?_) (fun cdv A outer s H vs Q E hr h => ?_)
  · obtain ⟨p, l, rfl, _⟩ := h
    rfl
  · obtain ⟨p, l, rfl, hl, hsm, k⟩ := h
    refine ⟨_, pss_cons (ps_if (pt_cmpR op_eq (pe_ix ix_tup (pv 0) pe_int (fun _ _ => rfl)) pe_str (nomark _)) (pss_one (ps_ret (pe_join pe_str (pv 0)))) pss_nil)
      (pss_cons (ps_set (i := 1) sc.nd rfl (Or.inl rfl) (pe_join pe_str (pe_op op_cat (pe_lst (pa_cons pe_str (pa_cons (pe_ix ix_tup (pv 0) pe_int (fun _ _ => rfl)) pa_nil)))
          (pe_lc (own := [("part", 2)]) (g := gName 2) (by rfl) sc.nd (pi_tup (pe_ix ix_tup (pv 0) pe_int (fun _ _ => rfl))) (blkOk_by (N := ["line", "text", "part"]) (sc := defScope sLine) (by decide +kernel))
            (fun _ _ _ _ _ => pg_name (i := 2) sc.nd rfl (Or.inl rfl)) (fun _ _ _ _ _ => pts_nil)
            (fun _ _ _ _ _ => pe_callTy (CallR.or call_str_int SkE.call_str_str) (by rfl) gS boot_str (pa_cons (pv 2) pa_nil))))))
      (pss_one (ps_ret (pe_ifExp (pt_cmpR op_isN (pe_ix ix_tup (pv 0) pe_int (fun _ _ => rfl)) pe_non (nomark _)) (pv 1)
          (pe_op op_add_str (pe_op op_add_str (pv 1) pe_str) (pe_callTy call_str_int (by rfl) gS boot_str (pa_cons (pe_ix ix_tup (pv 0) pe_int (fun _ _ => rfl)) pa_nil))))))), ?_⟩
    refine rd_seq (rd_if ?_)
    cases l with
    | wl a b =>
      have e : H p = some (.tup [.str "wall", .str a, .str b]) := hl
      obtain ⟨ha, hb⟩ := hsm
      refine ⟨_, rfl, p, _, 0, .str "wall", rfl, rfl, SqT.of e, rfl, rfl, _, rfl, ?_⟩
      refine Eq.mpr (if_pos (decide_eq_true rfl)) ?_
      refine ⟨⟨_, rfl⟩, _, rfl, " ", p, ["wall", a, b], rfl, rfl, .inr (SqT.of e), ?_, k H (Same.refl H)⟩
      rw [tot_sum _ sp1, tot_cons, tot_cons, tot_cons, tot_nil, wall_len]
      omega
    | pt n m o =>
      obtain ⟨q, e, eq⟩ := hl
      obtain ⟨hn, hm, ho⟩ := hsm
      refine ⟨_, rfl, p, _, 0, .str "point", rfl, rfl, SqT.of e, rfl, rfl, _, rfl, ?_⟩
      refine Eq.mpr (if_neg (by decide +kernel)) ?_
      dsimp only [tNext]
      refine rd_seq (rd_set ?_)
      refine ⟨⟨_, rfl⟩, _, rfl, p, _, 1, .str n, rfl, rfl, SqT.of e, rfl, (by exact (by decide : 2 ≤ sizeLine)), fun L hL => ?_⟩
      have s1 : Same H (upd H L (.lst [.str "point", .str n])) := same_new hL
      have fL : upd H L (.lst [.str "point", .str n]) L = some (.lst [.str "point", .str n]) := upd_same
      generalize upd H L (.lst [.str "point", .str n]) = H1 at s1 fL ⊢
      have e1 := s1 _ _ e
      have eq1 := s1 _ _ eq
      have l4 := aimV_len m
      refine ⟨_, rfl, p, _, 2, .ref q, rfl, rfl, SqT.of e1, rfl, q, rfl, ⟨_, SqT.of eq1⟩, fun E1 hE => lc_it (walk_tup (K := K) (a := q) (xs := aimV m)) (fun j H' => Same H1 H' ∧ H' E1 = some (.lst ((((aimV m).take j).map txtOf).map V.str))) ⟨same_new hE, upd_same⟩ (fun _ _ _ u => SqT.of (u.1 _ _ eq1)) ?_ ?_⟩
      · rintro j v H5 H6 hj ⟨s5, d5⟩ ⟨rfl, hv⟩
        refine ⟨rfl, rd_yes rfl ?_⟩
        refine ⟨_, rfl, ?_⟩
        have fin : ∃ acc, H6 E1 = some (.lst acc) ∧ acc.length < sizeLine ∧ Same H1 (upd H6 E1 (.lst (acc ++ [V.str (txtOf v)]))) ∧ upd H6 E1 (.lst (acc ++ [V.str (txtOf v)])) E1 = some (.lst ((((aimV m).take (j + 1)).map txtOf).map V.str)) := by
          refine ⟨_, d5, ?_, s5.mut hE, ?_⟩
          · rw [List.length_map, List.length_map, List.length_take]
            exact Nat.lt_of_le_of_lt (by omega : min j (aimV m).length ≤ 100) (by decide)
          · rw [upd_same, List.take_succ, hv, List.map_append, List.map_append]
            rfl
        rcases hm v (List.mem_of_getElem? hv) with ⟨u, rfl, _⟩ | ⟨i, rfl, h0, h1⟩
        · exact .inr ⟨u, rfl, fin⟩
        · exact .inl ⟨i, rfl, (num1000 h0 h1).1, fin⟩
      · rintro H5 ⟨s5, d5⟩
        rw [List.take_length] at d5
        refine ⟨L, E1, _, _, rfl, rfl, s5 _ _ fL, d5, Nat.le_trans (by rw [List.length_map, List.length_map]; show 2 + _ ≤ 100; omega : _ ≤ 100) (by decide), fun G hG => ?_⟩
        have e6 : [V.str "point", V.str n] ++ ((aimV m).map txtOf).map V.str = (("point" : Str) :: n :: (aimV m).map txtOf).map V.str := rfl
        rw [e6]
        have s6 := same_new (o := .lst ((("point" : Str) :: n :: (aimV m).map txtOf).map V.str)) hG
        have fG : upd H5 G (.lst ((("point" : Str) :: n :: (aimV m).map txtOf).map V.str)) G = some (.lst ((("point" : Str) :: n :: (aimV m).map txtOf).map V.str)) := upd_same
        generalize upd H5 G (.lst ((("point" : Str) :: n :: (aimV m).map txtOf).map V.str)) = H6 at s6 fG ⊢
        have tt := pt_tot hn hm
        refine ⟨" ", G, _, rfl, rfl, .inl (SqL.of fG), by rw [tot_sum _ sp1]; omega, ?_⟩
        have lz : (ptText n m).length ≤ 200 := Nat.le_trans (join_tot sp1 _) tt
        have sAll := (s1.trans s5).trans s6
        have e7 := sAll _ _ e
        dsimp only
        change tRet _ _ _ H6
        refine ⟨_, rfl, p, _, 3, optV o, rfl, rfl, SqT.of e7, rfl, rfl, _, rfl, ?_⟩
        have kk := k H6 sAll
        cases o with
        | none =>
          refine Eq.mpr (if_pos rfl) ?_
          exact ⟨_, rfl, kk⟩
        | some b =>
          obtain ⟨b0, b9⟩ := ho b rfl
          refine Eq.mpr (if_neg (fun z => by cases of_decide_eq_true z)) ?_
          have lb := num_len b0 b9
          refine ⟨_, rfl, _, _, rfl, rfl, Nat.le_trans (by show (ptText n m).length + _ ≤ 300; rw [within_len]; omega : _ ≤ 300) (by decide), ?_⟩
          refine ⟨_, rfl, p, _, 3, .int b, rfl, rfl, SqT.of e7, rfl, b, rfl, small99 b0 b9, _, _, rfl, rfl, Nat.le_trans (by show (ptText n m ++ " within ").length + (Str.ofString (toString b)).length ≤ 400; rw [len_app, within_len]; omega : _ ≤ 400) (by decide), ?_⟩
          exact kk
end
end L2.K07

set_option Elab.async false
set_option linter.all false
set_option maxRecDepth 100000
set_option maxHeartbeats 4000000
namespace L2.K07
open PySem PySem.Spec PyProof.Rows L2.Vx
open PySem.W (Frag)
def lrD (h : Int) (R : Addr) : List (Key × V) := [(.inr "hand", .int h), (.inr "lines", .ref R)]
def planLines (h : Int) (ls : List Ln) : List Str := ("hand " ++ numT h) :: ls.map lineText
def planText (h : Int) (ls : List Ln) : Str := Txt.join "\n" (planLines h ls)
theorem line_len {l : Ln} (h : LnSmall l) : (lineText l).length ≤ 300 := by
  cases l with
  | wl a b =>
    obtain ⟨ha, hb⟩ := h
    refine Nat.le_trans (join_tot sp1 _) ?_
    rw [tot_cons, tot_cons, tot_cons, tot_nil, wall_len]
    omega
  | pt n m o =>
    obtain ⟨hn, hm, ho⟩ := h
    have lz : (ptText n m).length ≤ 200 := Nat.le_trans (join_tot sp1 _) (pt_tot hn hm)
    cases o with
    | none => exact Nat.le_trans lz (by decide)
    | some b =>
      obtain ⟨b0, b9⟩ := ho b rfl
      have lb : (numT b).length ≤ 2 := num_len b0 b9
      show (ptText n m ++ " within " ++ numT b).length ≤ 300
      rw [len_app, len_app, within_len]
      omega
theorem hand_len : ("hand " : Str).length = 5 := by decide +kernel
theorem plan_tot {h : Int} {ls : List Ln} (h0 : 0 ≤ h) (h9 : h ≤ 99) (hs : ∀ l ∈ ls, LnSmall l) (hl : ls.length ≤ 20) : tot (planLines h ls) ≤ 7000 := by
  unfold planLines
  have lb : (numT h).length ≤ 2 := num_len h0 h9
  rw [tot_cons, len_app, hand_len]
  have := tot_le (B := 300) (ls.map lineText) (fun y hy => by
    obtain ⟨l, hl, rfl⟩ := List.mem_map.mp hy
    exact line_len (hs l hl))
  rw [List.length_map] at this
  omega
section
variable {P : Program} {w : World} {K : Frag} {mg : Str → Option Value} {bs : Heap}
def spPText (K : Frag) : Sp := fun vs H Q _ => ∃ (D R : Addr) (ps : List Addr) (ls : List Ln) (h : Int), vs = [.ref D] ∧ H D = some (.dK (lrD h R)) ∧ H R = some (.lst (ps.map V.ref)) ∧ LnsAt H ps ls ∧ 0 ≤ h ∧ h ≤ 99 ∧ (∀ l ∈ ls, LnSmall l) ∧ ls.length ≤ 20 ∧
  ∀ H', Same H H' → Q (.str (planText h ls)) H'
theorem scPText : FnScope ["plan", "line"] ["plan"] (defScope sPText) := ⟨rfl, rfl, rfl, by decide +kernel, rfl, by decide +kernel, by decide +kernel⟩
theorem ok_ptext {f fL : Addr} {fd fdL : FuncData} (FP : FD K "_law_plan_text" sPText f fd) (gS : mg "str" = none) (FL : FD K "_law_line_text" sLine fL fdL) (gL : mg "_law_line_text" = some (.ref fL)) (bL : Binds K fdL ["line"] []) : FnOk P w K mg bs CX0 2 f fd ["plan"] (spPText K) := by
  have sc := scPText
  have GL : FnOk P w K mg bs CX0 1 fL fdL ["line"] (spLine K) := ok_line FL gS
  refine FP.ok scPText (fun vs H Q E h => ?_) (fun cdv A outer s H vs Q E hr h => ?_)
  · obtain ⟨D, R, ps, ls, h, rfl, _⟩ := h
    rfl
  · obtain ⟨D, R, ps, ls, h, rfl, hD, hR, hls, h0, h9, hsm, hlen, k⟩ := h
    have hu := hu_of hr
    refine ⟨_, pss_one (ps_ret (pe_join pe_str (pe_op op_cat (pe_lst (pa_cons (pe_op op_add_str pe_str (pe_callTy call_str_int (by rfl) gS boot_str (pa_cons (pe_dget hu (pv 0) pe_str (fun _ _ => rfl)) pa_nil))) pa_nil))
      (pe_lc (own := [("line", 1)]) (g := gName 1) (by rfl) sc.nd (pi_list (pe_dget hu (pv 0) pe_str (fun _ _ => rfl))) (blkOk_by (N := ["plan", "line"]) (sc := defScope sPText) (by decide +kernel))
        (fun _ _ _ _ _ => pg_name (i := 1) sc.nd rfl (Or.inl rfl)) (fun _ _ _ _ _ => pts_nil)
        (fun _ _ _ _ _ => pe_call GL hr (by rfl) gL FL.kp bL .nil pass0 (pa_cons (pv 1) pa_nil)))))), ?_⟩
    have lb : (numT h).length ≤ 2 := num_len h0 h9
    refine ⟨⟨_, rfl⟩, _, rfl, D, .int h, rfl, DGet.k (k := Sum.inr "hand") hD, h, rfl, small99 h0 h9, _, _, rfl, rfl, Nat.le_trans (by show _ + (numT h).length ≤ 100; rw [hand_len]; omega : _ ≤ 100) (by decide), (by exact (by decide : 1 ≤ sizeLine)), fun L hL => ?_⟩
    have sL : Same H (upd H L (.lst [.str ("hand " ++ numT h)])) := same_new hL
    have fL : upd H L (.lst [.str ("hand " ++ numT h)]) L = some (.lst [.str ("hand " ++ numT h)]) := upd_same
    change tLc _ _ _ _ _ _ (upd H L (.lst [.str ("hand " ++ numT h)])) _
    generalize upd H L (.lst [.str ("hand " ++ numT h)]) = H1 at sL fL ⊢
    have hR1 := sL _ _ hR
    have hls1 := hls.map (tup_same sL)
    refine ⟨_, rfl, D, .ref R, rfl, DGet.k (k := Sum.inr "lines") (sL _ _ hD), R, rfl, ⟨_, SqL.of hR1⟩, fun E0 hE => lc_it (walk_list (K := K) (a := R) (xs := ps.map V.ref)) (fun j H' => Same H1 H' ∧ H' E0 = some (.lst (((ls.take j).map lineText).map V.str))) ⟨same_new hE, upd_same⟩ (fun _ _ _ u => SqL.of (u.1 _ _ hR1)) ?_ ?_⟩
    · rintro j v H5 H6 hj ⟨s5, d5⟩ ⟨rfl, hv⟩
      have hj' : j < ps.length := by simpa using hj
      have hj2 : j < ls.length := by rw [← hls.1]; exact hj'
      rw [List.getElem?_map, List.getElem?_eq_getElem hj'] at hv
      cases hv
      have hp := (hls1.map (tup_same s5)).2 j _ _ (List.getElem?_eq_getElem hj') (List.getElem?_eq_getElem hj2)
      refine ⟨rfl, rd_yes rfl ?_⟩
      refine ⟨_, rfl, _, ls[j], rfl, hp, hsm _ (List.getElem_mem hj2), fun H7 s7 => ⟨_, s7 _ _ d5, ?_, (s5.trans s7).mut hE, ?_⟩⟩
      · rw [List.length_map, List.length_map, List.length_take]
        exact Nat.lt_of_le_of_lt (by omega : min j ls.length ≤ 100) (by decide)
      · rw [upd_same, List.take_succ, List.getElem?_eq_getElem hj2, List.map_append, List.map_append]
        rfl
    · rintro H5 ⟨s5, d5⟩
      rw [List.length_map, hls.1, List.take_length] at d5
      refine ⟨L, E0, _, _, rfl, rfl, s5 _ _ fL, d5, Nat.le_trans (by rw [List.length_map, List.length_map]; show 1 + _ ≤ 100; omega : _ ≤ 100) (by decide), fun G hG => ?_⟩
      have tt := plan_tot h0 h9 hsm hlen
      have e : [V.str ("hand " ++ numT h)] ++ (ls.map lineText).map V.str = (planLines h ls).map V.str := rfl
      rw [e]
      refine ⟨"\n", G, planLines h ls, rfl, rfl, .inl (SqL.of upd_same), by rw [tot_sum _ nl1]; omega, ?_⟩
      exact k _ ((sL.trans s5).trans (same_new hG))
def spLB (K : Frag) : Sp := fun vs H Q _ => ∃ (D R p : Addr) (h : Int) (n : Str) (m : Aim) (o : Option Int), vs = [.ref D, .ref p] ∧ H D = some (.dK (lrD h R)) ∧ LnAt H p (.pt n m o) ∧ Q (.int (o.getD h)) H
theorem scLB : FnScope ["plan", "line"] ["plan", "line"] (defScope sLBound) := ⟨rfl, rfl, rfl, by decide +kernel, rfl, by decide +kernel, by decide +kernel⟩
theorem ok_lb {f : Addr} {fd : FuncData} (FP : FD K "_law_bound" sLBound f fd) : FnOk P w K mg bs CX0 1 f fd ["plan", "line"] (spLB K) := by
  have sc := scLB
  refine FP.ok scLB (fun vs H Q E h => ?_) (fun cdv A outer s H vs Q E hr h => ?_)
  · obtain ⟨D, R, p, h, n, m, o, rfl, _⟩ := h
    rfl
  · obtain ⟨D, R, p, h, n, m, o, rfl, hD, ⟨q, e, _⟩, k⟩ := h
    have hu := hu_of hr
    refine ⟨_, pss_one (ps_ret (pe_ifExp (pt_cmpR op_isN (pe_ix ix_tup (pv 1) pe_int (fun _ _ => rfl)) pe_non (nomark _)) (pe_dget hu (pv 0) pe_str (fun _ _ => rfl)) (pe_ix ix_tup (pv 1) pe_int (fun _ _ => rfl)))), ?_⟩
    refine ⟨_, rfl, p, _, 3, optV o, rfl, rfl, SqT.of e, rfl, rfl, _, rfl, ?_⟩
    cases o with
    | none =>
      refine Eq.mpr (if_pos rfl) ?_
      exact ⟨_, rfl, D, .int h, rfl, DGet.k (k := Sum.inr "hand") hD, k⟩
    | some b =>
      refine Eq.mpr (if_neg (fun z => by cases of_decide_eq_true z)) ?_
      exact ⟨_, rfl, p, _, 3, .int b, rfl, rfl, SqT.of e, rfl, k⟩
end
end L2.K07

set_option Elab.async false
set_option linter.all false
set_option maxRecDepth 100000
set_option maxHeartbeats 8000000
namespace L2.K07
open PySem PySem.Spec PyProof.Rows L2.Vx
open PySem.W (Frag)
/-! ### a drawn plan -/
def nmsOf : List Ln → List Str
  | [] => []
  | .pt n _ _ :: r => n :: nmsOf r
  | .wl _ _ :: r => nmsOf r
def wlsOf : List Ln → List (Str × Str)
  | [] => []
  | .pt _ _ _ :: r => wlsOf r
  | .wl a b :: r => (a, b) :: wlsOf r
theorem nms_app : ∀ a b : List Ln, nmsOf (a ++ b) = nmsOf a ++ nmsOf b
  | [], _ => rfl
  | .pt n _ _ :: r, b => congrArg (n :: ·) (nms_app r b)
  | .wl _ _ :: r, b => nms_app r b
theorem wls_app : ∀ a b : List Ln, wlsOf (a ++ b) = wlsOf a ++ wlsOf b
  | [], _ => rfl
  | .pt _ _ _ :: r, b => wls_app r b
  | .wl x y :: r, b => congrArg ((x, y) :: ·) (wls_app r b)
theorem ln_count : ∀ ls : List Ln, ls.length = (nmsOf ls).length + (wlsOf ls).length
  | [] => rfl
  | .pt n m o :: r => by
    have := ln_count r
    show r.length + 1 = (nmsOf r).length + 1 + (wlsOf r).length
    omega
  | .wl a b :: r => by
    have := ln_count r
    show r.length + 1 = (nmsOf r).length + ((wlsOf r).length + 1)
    omega
def okL (ns : List Str) (nw : Nat) : List Ln → Prop
  | [] => True
  | .pt n m o :: r => (n ∈ poolN ∧ n ∉ ns ∧ AimOk m ns ∧ (∀ b, o = some b → 0 ≤ b ∧ b ≤ 99) ∧ ns.length < 6) ∧ okL (ns ++ [n]) nw r
  | .wl a b :: r => (a ∈ ns ∧ b ∈ ns ∧ a ≠ b ∧ nw < 4) ∧ okL ns (nw + 1) r
theorem okL_app : ∀ (a b : List Ln) (ns : List Str) (nw : Nat), okL ns nw a → okL (ns ++ nmsOf a) (nw + (wlsOf a).length) b → okL ns nw (a ++ b)
  | [], b, ns, nw, _, h => by simpa [nmsOf, wlsOf] using h
  | .pt n m o :: r, b, ns, nw, h1, h2 => ⟨h1.1, okL_app r b (ns ++ [n]) nw h1.2 (by rw [List.append_assoc]; exact h2)⟩
  | .wl x y :: r, b, ns, nw, h1, h2 => ⟨h1.1, okL_app r b ns (nw + 1) h1.2 (by
      have e : nw + 1 + (wlsOf r).length = nw + (wlsOf (.wl x y :: r)).length := by show _ = nw + ((wlsOf r).length + 1); omega
      rw [e]
      exact h2)⟩
theorem cut_take (ws : List Str) (m : Nat) : cutV (ws.map V.str) none (some (m : Nat)) = (ws.take m).map V.str := by
  unfold cutV HT.sIx
  rw [List.length_map]
  dsimp only
  rw [if_neg (by omega), Int.toNat_natCast, List.drop_zero, Nat.sub_zero, List.map_take]
  by_cases h : m ≤ ws.length
  · rw [Nat.min_eq_left h]
  · rw [Nat.min_eq_right (by omega), List.take_of_length_le (by rw [List.length_map]; omega), List.take_of_length_le (by rw [List.length_map]; omega)]
def sq (b : Int) : Int := (2 * b + 1) ^ (Int.toNat 2)
theorem sq_le {b : Int} (h0 : 0 ≤ b) (h3 : b ≤ 3) : 1 ≤ sq b ∧ sq b ≤ 49 ∧ (b = 0 → sq b = 1) := by
  have h : b = 0 ∨ b = 1 ∨ b = 2 ∨ b = 3 := by omega
  rcases h with rfl | rfl | rfl | rfl <;> exact ⟨by decide, by decide, by decide⟩
section
variable {P : Program} {w : World} {K : Frag} {mg : Str → Option Value} {bs : Heap}
def spSomeP (K : Frag) : Sp := fun vs H Q _ => ∃ (p : Addr) (pts wls most k : Int), vs = [.ref p, .int pts, .int wls, .int most] ∧ 2 ≤ pts ∧ pts ≤ 6 ∧ 0 ≤ wls ∧ wls ≤ 4 ∧ 1 ≤ most ∧ most ≤ 1000000000 ∧ 0 ≤ k ∧ k < 700000 ∧ Pot H p k ∧
  ∀ H' D R ps ls h, But p H H' → Pot H' p (k + 70) → H D = none → H R = none → H' D = some (.dK (lrD h R)) → H' R = some (.lst (ps.map V.ref)) → LnsAt H' ps ls → 0 ≤ h → h ≤ 3 → okL [] 0 ls → (∃ n0 r, nmsOf ls = n0 :: r) → Q (.ref D) H'
theorem scSomeP : FnScope ["pot", "points", "walls", "most", "names", "lines", "many", "hand", "step", "at", "name", "bound", "own"] ["pot", "points", "walls", "most"] (defScope sSomeP) := ⟨rfl, rfl, rfl, by decide +kernel, rfl, by decide +kernel, by decide +kernel⟩
theorem ok_someP {f fT fO fS fN fA : Addr} {fd fdT fdO fdS fdN fdA : FuncData} (FP : FD K "_law_some_plan" sSomeP f fd) (F : Dx mg) (gE : mg "enumerate" = none) (gTu : mg "tuple" = none) (FT : FD K "_law_take" sTake fT fdT) (gT : mg "_law_take" = some (.ref fT)) (bT : Binds K fdT ["pot", "upto"] [])
    (FO : FD K "_law_of" sOf fO fdO) (gO : mg "_law_of" = some (.ref fO)) (bO : Binds K fdO ["pot", "some"] [])
    (FS : FD K "_law_some" sSome fS fdS) (gS : mg "_law_some" = some (.ref fS)) (bS : Binds K fdS ["pot", "pool", "many"] [])
    (FN : FD K "_law_names" sNames fN fdN) (gN : mg "_law_names" = some (.ref fN)) (bN : Binds K fdN ["pot", "many"] [])
    (FA : FD K "_law_aim" sLAim fA fdA) (gA : mg "_law_aim" = some (.ref fA)) (bA : Binds K fdA ["pot", "names", "step"] []) : FnOk P w K mg bs CX0 4 f fd ["pot", "points", "walls", "most"] (spSomeP K) := by
  have sc := scSomeP
  have GT : FnOk P w K mg bs CX0 1 fT fdT ["pot", "upto"] spTake := ok_take FT F
  have GO : FnOk P w K mg bs CX0 2 fO fdO ["pot", "some"] (spOf K) := ok_of FO F FT gT bT
  have GS : FnOk P w K mg bs CX0 2 fS fdS ["pot", "pool", "many"] (spSome K) := ok_some FS F FT gT bT
  have GN : FnOk P w K mg bs CX0 3 fN fdN ["pot", "many"] (spNames K) := ok_names FN F FT gT bT FS gS bS
  have GA : FnOk P w K mg bs CX0 3 fA fdA ["pot", "names", "step"] (spLAim K) := ok_lAim FA F FT gT bT FO gO bO
  refine FP.ok scSomeP (fun vs H Q E h => ?_) (fun cdv A outer s H vs Q E hr h => ?_)
  · obtain ⟨p, a, b, c, k, rfl, _⟩ := h
    rfl
  · obtain ⟨p, pts, wls, most, t, rfl, p2, p6, w0, w4, m1, m9, t0, ht, hP, k⟩ := h
    have hr1 : Room 1 (A.deeper (envOfC "_law_some_plan" (defScope sSomeP) s.heap.objs.size f cdv)) := hr.mono (by decide)
    have hr2 : Room 2 (A.deeper (envOfC "_law_some_plan" (defScope sSomeP) s.heap.objs.size f cdv)) := hr.mono (by decide)
    refine ⟨_, pss_cons (ps_par3 (i := 4) (j := 5) (l := 6) rfl sc.nd rfl rfl rfl (by decide) (by decide) (by decide) rfl rfl rfl (pa_cons (pe_call GN hr (by rfl) gN FN.kp bN .nil pass0 (pa_cons (pv 0) (pa_cons (pe_op op_add pe_int (pe_call GT hr1 (by rfl) gT FT.kp bT .nil pass0
          (pa_cons (pv 0) (pa_cons (pe_op op_sub (pv 1) pe_int) pa_nil)))) pa_nil))) (pa_cons (pe_lst pa_nil) (pa_cons pe_int pa_nil))) rfl)
      (pss_cons (ps_par (i := 7) (j := 8) rfl sc.nd rfl rfl (by decide) rfl rfl (pa_cons (pe_call GO hr2 (by rfl) gO FO.kp bO .nil pass0 (pa_cons (pv 0) (pa_cons (pe_lst (pa_cons pe_int (pa_cons pe_int (pa_cons pe_int (pa_cons pe_int (pa_cons pe_int pa_nil)))))) pa_nil)))
          (pa_cons (pe_call GO hr2 (by rfl) gO FO.kp bO .nil pass0 (pa_cons (pv 0) (pa_cons (pe_lst (pa_cons pe_int (pa_cons pe_int (pa_cons pe_int pa_nil)))) pa_nil))) pa_nil)) rfl)
      (pss_cons (ps_for PassesOwn.never rfl (pi_enum (by rfl) gE (pa_cons (pv 4) pa_nil)) (pg_tup rfl (pgs_cons (pg_name (i := 9) sc.nd rfl (Or.inl rfl)) (pgs_cons (pg_name (i := 10) sc.nd rfl (Or.inl rfl)) pgs_nil)))
        (pss_cons (ps_set (i := 11) sc.nd rfl (Or.inl rfl) (pe_call GO hr2 (by rfl) gO FO.kp bO .nil pass0 (pa_cons (pv 0) (pa_cons (pe_lst (pa_cons (pv 7) (pa_cons (pv 7) (pa_cons (pv 7) (pa_cons pe_int (pa_cons pe_int pa_nil)))))) pa_nil))))
        (pss_cons (ps_while PassesOwn.never (pt_cmpR op_gt (pe_op op_mul (pv 6) (pe_op op_pow (pe_op op_add (pe_op op_mul pe_int (pv 11)) pe_int) pe_int)) (pv 3) (nomark _))
            (pss_one (ps_set (i := 11) sc.nd rfl (Or.inl rfl) (pe_op op_sub (pv 11) pe_int))))
        (pss_cons (ps_set (i := 6) sc.nd rfl (Or.inl rfl) (pe_op op_mul (pv 6) (pe_op op_pow (pe_op op_add (pe_op op_mul pe_int (pv 11)) pe_int) pe_int)))
        (Evl.pss_cut (ps_set (i := 12) sc.nd rfl (Or.inl rfl) (pe_ifExp (PW.pt (pw_or (pt_cmpR op_ne (pv 11) (pv 7) (nomark _)) (pw_or1 (pt_cmpR op_eq (pe_call GT hr1 (by rfl) gT FT.kp bT .nil pass0 (pa_cons (pv 0) (pa_cons pe_int pa_nil))) pe_int (nomark _))))) (pv 11) pe_non))
        (pss_cons (ps_expr (pe_bm PySem.F.plainAttrs_list PySem.F.slot_list_append PySem.F.type_list_append mt_append (pv 5) (pa_cons (pe_tup (pa_cons pe_str (pa_cons (pv 10)
            (pa_cons (pe_call GA hr (by rfl) gA FA.kp bA .nil pass0 (pa_cons (pv 0) (pa_cons (pe_slice sl_list (pv 4) po_none (po_some (pv 9))) (pa_cons (pv 8) pa_nil)))) (pa_cons (pv 12) pa_nil))))) pa_nil)))
        (pss_one (ps_while PassesOwn.never (PW.pt (pw_and (pt_cmpR op_gt (pv 9) pe_int (nomark _)) (pw_and (pt_cmpR op_lt (pe_op op_sub (pe_op op_sub (pe_callB call_len_seq (by rfl) F.len boot_len (pa_cons (pv 5) pa_nil)) (pv 9)) pe_int) (pv 2) (nomark _))
              (pw_and1 (pt_cmpR op_eq (pe_call GT hr1 (by rfl) gT FT.kp bT .nil pass0 (pa_cons (pv 0) (pa_cons pe_int pa_nil))) pe_int (nomark _))))))
            (pss_one (ps_expr (pe_bm PySem.F.plainAttrs_list PySem.F.slot_list_append PySem.F.type_list_append mt_append (pv 5) (pa_cons (pe_op op_catT (pe_tup (pa_cons pe_str pa_nil)) (pe_callTy call_tuple_of (by rfl) gTu boot_tuple
              (pa_cons (pe_call GS hr2 (by rfl) gS FS.kp bS .nil pass0 (pa_cons (pv 0) (pa_cons (pe_slice sl_list (pv 4) po_none (po_some (pe_op op_add (pv 9) pe_int))) (pa_cons pe_int pa_nil)))) pa_nil))) pa_nil))))))))))))
      (pss_one (ps_ret (pe_disp (pps_cons pe_str (pv 7) (pps_cons pe_str (pv 5) pps_nil)) (by rfl) (by rfl) (fun z => by cases z) (by decide)))))), ?_⟩
    refine rd_seq ?_
    refine ⟨_, rfl, _, rfl, _, rfl, _, _, rfl, rfl, p, pts - 1, t, rfl, by omega, by omega, by omega, hP, fun H1 i1 k1 hP1 i10 i11 => ?_⟩
    obtain ⟨m, hm⟩ : ∃ m : Nat, 2 + i1 = (m : Int) := ⟨(2 + i1).toNat, by omega⟩
    refine ⟨_, _, rfl, rfl, p, m, t + 1, (by show [V.ref p, V.int (2 + i1)] = _; rw [hm]), by omega, by omega, by omega, hP1, fun H2 Nm us k2 hNm0 hNm hnd hin hlen hP2 => ?_⟩
    refine ⟨Nat.zero_le _, fun Ls hLs => ?_⟩
    have s3 : Same H2 (upd H2 Ls (.lst [])) := same_new hLs
    have fLs : upd H2 Ls (.lst []) Ls = some (.lst []) := upd_same
    have nLs : Ls ≠ p := hP2.ne hLs
    have nNm : Nm ≠ p := hP1.ne hNm0
    have nNL : Nm ≠ Ls := ne_of_none hNm hLs
    have hNm3 := s3 _ _ hNm
    have hP3 := hP2.same s3
    have k13 := (k1.trans k2).trans (But.of s3)
    have hLs0 : H Ls = none := (k1.trans k2).free hLs hP2.some.choose_spec
    generalize upd H2 Ls (.lst []) = H3 at s3 fLs hNm3 hP3 k13 ⊢
    refine ⟨_, _, _, rfl, ?_⟩
    dsimp only
    refine rd_seq ?_
    refine ⟨_, rfl, (by exact (by decide : 5 ≤ sizeLine)), fun LA hLA => ?_⟩
    refine ⟨p, LA, [.int 1, .int 1, .int 2, .int 0, .int 3], t + 7, rfl, hP3.ne hLA, SqL.of upd_same, by decide, by decide, by omega, (hP3.same (same_new hLA)).mono (by omega), fun H4 vh k4 hP4 hvh => ?_⟩
    have k34 := (But.of (same_new hLA)).trans k4
    obtain ⟨hd, rfl, hd0, hd3⟩ : ∃ hd : Int, vh = .int hd ∧ 0 ≤ hd ∧ hd ≤ 3 := by
      simp only [List.mem_cons, List.not_mem_nil, or_false] at hvh
      rcases hvh with rfl | rfl | rfl | rfl | rfl
      · exact ⟨1, rfl, by decide, by decide⟩
      · exact ⟨1, rfl, by decide, by decide⟩
      · exact ⟨2, rfl, by decide, by decide⟩
      · exact ⟨0, rfl, by decide, by decide⟩
      · exact ⟨3, rfl, by decide, by decide⟩
    refine ⟨_, rfl, (by exact (by decide : 3 ≤ sizeLine)), fun LB hLB => ?_⟩
    refine ⟨p, LB, [.int 6, .int 9, .int 20], t + 7 + 1, rfl, hP4.ne hLB, SqL.of upd_same, by decide, by decide, by omega, hP4.same (same_new hLB), fun H5 vst k5 hP5 hvst => ?_⟩
    have k45 := (But.of (same_new hLB)).trans k5
    obtain ⟨st, rfl, hst⟩ : ∃ st : Int, vst = .int st ∧ st ∈ stepsL := by
      simp only [List.mem_cons, List.not_mem_nil, or_false] at hvst
      rcases hvst with rfl | rfl | rfl
      · exact ⟨6, rfl, by decide⟩
      · exact ⟨9, rfl, by decide⟩
      · exact ⟨20, rfl, by decide⟩
    have k35 := k34.trans k45
    have kA := k13.trans k35
    have fLs5 := k35 _ _ nLs fLs
    have hNm5 := k35 _ _ nNm hNm3
    clear hvh hvst k4 k5 k34 k45 hP3 hP4 hLA hLB fLs hNm3 hNm
    refine ⟨_, _, rfl, ?_⟩
    dsimp only
    have lus : us.length ≤ 6 := by omega
    have lus2 : 2 ≤ us.length := by omega
    refine rd_seq ?_
    refine ⟨_, rfl, Nm, us.map V.str, rfl, SqL.of hNm5, for_it (walk_enum (K := K) (a := Nm) (xs := us.map V.str)) (fun i σ H' => ∃ (v9 v10 v11 v12 : Option V) (mv : Int) (ps : List Addr) (ls : List Ln),
      σ = [some (.ref p), some (.int pts), some (.int wls), some (.int most), some (.ref Nm), some (.ref Ls), some (.int mv), some (.int hd), some (.int st), v9, v10, v11, v12] ∧ But p H H' ∧ H' Nm = some (.lst (us.map V.str)) ∧ H' Ls = some (.lst (ps.map V.ref)) ∧
        LnsAt H' ps ls ∧ okL [] 0 ls ∧ nmsOf ls = us.take i ∧ ((wlsOf ls).length : Int) ≤ wls ∧ 1 ≤ mv ∧ mv ≤ most ∧ Pot H' p (t + 9 + 8 * i + 3 * (wlsOf ls).length))
      ⟨none, none, none, none, 1, [], [], rfl, kA, hNm5, fLs5, ⟨rfl, fun i p l e => by simp at e⟩, trivial, rfl, by simpa [wlsOf] using w0, by decide, m1, hP5.mono (by simp [wlsOf]; omega)⟩ (fun i σ H' _ u => ?_) ?_ ?_⟩
    · obtain ⟨_, _, _, _, _, _, _, _, _, u, _⟩ := u
      exact SqL.of u
    · rintro i x σ H6 H7 hi ⟨v9, v10, v11, v12, mv, ps, ls, rfl, kH, hNm6, hLs6, hls, hok, hnms, hwl, hm1, hmm, hP6⟩ ⟨T0, x1, y1, rfl, hT, rfl, hx1, hy1⟩
      cases hx1
      have hi' : i < us.length := by simpa using hi
      have hy2 : y1 = .str us[i] := by
        dsimp only at hy1
        rw [List.getElem?_map, List.getElem?_eq_getElem hi'] at hy1
        exact (Option.some.inj hy1).symm
      subst hy2
      have htake : us.take (i + 1) = us.take i ++ [us[i]] := by rw [List.take_succ, List.getElem?_eq_getElem hi']; rfl
      have hui : us[i] ∈ us := List.getElem_mem hi'
      have hnt : (us.take (i + 1)).Nodup := hnd.sublist (List.take_sublist _ _)
      generalize us[i] = u at htake hui ⊢
      have hnot : u ∉ us.take i := fun q => by
        rw [htake] at hnt
        exact (List.nodup_append.mp hnt).2.2 _ q _ (List.mem_singleton.mpr rfl) rfl
      have lt : (us.take i).length = i := by rw [List.length_take]; omega
      have hin2 : ∀ v ∈ us.take i, v ∈ poolN := fun v hv => hin v (List.mem_of_mem_take hv)
      have lcnt : ls.length = i + (wlsOf ls).length := by rw [ln_count, hnms, lt]
      have lps : ps.length = ls.length := hls.1
      refine ⟨T0, _, rfl, SqT.of upd_same, rfl, _, _, rfl, _, _, rfl, rfl, ?_⟩
      have sT : Same H6 (upd H6 T0 (.tup [.int (i : Nat), .str u])) := same_new hT
      have hP7 := hP6.same sT
      have hNm7 := sT _ _ hNm6
      have hLs7 := sT _ _ hLs6
      have hls7 := hls.map (tup_same sT)
      have kH7 := kH.trans (But.of sT)
      generalize upd H6 T0 (.tup [.int (i : Nat), .str u]) = H7 at sT hP7 hNm7 hLs7 hls7 kH7 ⊢
      clear sT hT hP6 hNm6 hLs6 hls kH
      dsimp only
      refine rd_seq (rd_set ?_)
      refine ⟨_, rfl, _, rfl, _, rfl, _, rfl, (by exact (by decide : 5 ≤ sizeLine)), fun LC hLC => ?_⟩
      have sC : Same H7 (upd H7 LC (.lst [.int hd, .int hd, .int hd, .int 0, .int 1])) := same_new hLC
      have hPC := hP7.same sC
      refine ⟨p, LC, [.int hd, .int hd, .int hd, .int 0, .int 1], t + 9 + 8 * i + 3 * (wlsOf ls).length, rfl, hP7.ne hLC, SqL.of upd_same, (by show 0 < 5; decide), (by show 5 ≤ 1000; decide), by omega, hPC, fun H8 vb k8 hP8 hvb => ?_⟩
      obtain ⟨b, rfl, hb0, hb3⟩ : ∃ b : Int, vb = .int b ∧ 0 ≤ b ∧ b ≤ 3 := by
        simp only [List.mem_cons, List.not_mem_nil, or_false] at hvb
        rcases hvb with rfl | rfl | rfl | rfl | rfl
        · exact ⟨hd, rfl, hd0, hd3⟩
        · exact ⟨hd, rfl, hd0, hd3⟩
        · exact ⟨hd, rfl, hd0, hd3⟩
        · exact ⟨0, rfl, by decide, by decide⟩
        · exact ⟨1, rfl, by decide, by decide⟩
      have kC := (But.of sC).trans k8
      have hNm8 := kC _ _ nNm hNm7
      have hLs8 := kC _ _ nLs hLs7
      have hls8 : LnsAt H8 ps ls := hls7.map fun a vs e => kC _ _ (fun z => by rw [z] at e; obtain ⟨_, _, _, ep, _⟩ := hP7; rw [ep] at e; cases e) e
      have kH8 := kH7.trans kC
      clear hvb sC hPC k8 kC hNm7 hLs7 hls7 kH7 hP7 hLC
      dsimp only
      -- the bound gets less
      refine rd_seq ?_
      refine ⟨fun m σ' H' => ∃ c : Int, σ' = [some (.ref p), some (.int pts), some (.int wls), some (.int most), some (.ref Nm), some (.ref Ls), some (.int mv), some (.int hd), some (.int st), some (.int (i : Nat)), some (.str u), some (.int c), v12] ∧ H' = H8 ∧ 0 ≤ c ∧ c ≤ 3 ∧ c.toNat = m,
        ⟨b.toNat, b, rfl, rfl, hb0, hb3, rfl⟩, ?_⟩
      rintro m' σ' H' ⟨c, rfl, rfl, c0, c3, rfl⟩
      obtain ⟨q1, q2, q3⟩ := sq_le c0 c3
      have cmv : CMul mv (sq c) := .inl ⟨by omega, by omega⟩
      have cm2 : CMul 2 c := .inl ⟨by decide, by decide⟩
      have cpw : CPow (2 * c + 1) 2 := ⟨by decide, by decide, by omega⟩
      refine ⟨_, rfl, _, rfl, _, _, rfl, rfl, cm2, _, _, rfl, rfl, _, _, rfl, rfl, cpw, _, _, rfl, rfl, cmv, _, rfl, _, _, rfl, rfl, _, rfl, ?_⟩
      by_cases hbig : most < mv * sq c
      · refine Eq.mpr (if_pos (decide_eq_true hbig)) ?_
        have cpos : 1 ≤ c := by
          by_cases h : c = 0
          · rw [q3 h, Int.mul_one] at hbig
            omega
          · omega
        refine ⟨fun σ' H8 => ∃ d : Int, σ' = [some (.ref p), some (.int pts), some (.int wls), some (.int most), some (.ref Nm), some (.ref Ls), some (.int mv), some (.int hd), some (.int st), some (.int (i : Nat)), some (.str u), some (.int d), v12] ∧ H8 = H' ∧ 0 ≤ d ∧ d ≤ 3 ∧ d.toNat = (c - 1).toNat,
          fun σ' H' h => ⟨(c - 1).toNat, by omega, h⟩, ?_⟩
        refine rd_set ?_
        exact ⟨_, rfl, _, _, rfl, rfl, c - 1, rfl, rfl, by omega, by omega, rfl⟩
      · refine Eq.mpr (if_neg (fun q => hbig (of_decide_eq_true q))) ?_
        dsimp only
        refine rd_seq (rd_set ?_)
        refine ⟨_, rfl, _, rfl, _, _, rfl, rfl, cm2, _, _, rfl, rfl, _, _, rfl, rfl, cpw, _, _, rfl, rfl, cmv, ?_⟩
        have hmv1 : 1 ≤ mv * (2 * c + 1) ^ Int.toNat 2 := Int.mul_pos (by omega) (show 0 < sq c by omega)
        have hmv2 : mv * (2 * c + 1) ^ Int.toNat 2 ≤ most := Int.not_lt.mp hbig
        dsimp only
        generalize mv * (2 * c + 1) ^ Int.toNat 2 = mv2 at hmv1 hmv2 ⊢
        -- the bound of its own
        refine ⟨fun σ' H9 => ∃ o : Option Int, σ' = [some (.ref p), some (.int pts), some (.int wls), some (.int most), some (.ref Nm), some (.ref Ls), some (.int mv2), some (.int hd), some (.int st), some (.int (i : Nat)), some (.str u), some (.int c), some (optV o)] ∧
          But p H' H9 ∧ Pot H9 p (t + 9 + 8 * i + 3 * (wlsOf ls).length + 2) ∧ ∀ b, o = some b → 0 ≤ b ∧ b ≤ 99, rd_set ?_, ?_⟩
        · have c99 : ∀ b, some c = some b → 0 ≤ b ∧ b ≤ 99 := fun b e => by cases e; omega
          refine ⟨_, rfl, _, rfl, rfl, _, rfl, ?_⟩
          by_cases hch : V.int c = V.int hd
          · refine Eq.mpr (if_neg (nt hch)) ?_
            refine ⟨_, rfl, p, 6, t + 9 + 8 * i + 3 * (wlsOf ls).length + 1, rfl, by decide, by decide, by omega, hP8, fun H9 r k9 hP9 r0 r6 => ⟨rfl, _, rfl, ?_⟩⟩
            by_cases hr0 : V.int r = V.int 0
            · refine Eq.mpr (if_pos (decide_eq_true hr0)) ?_
              exact ⟨_, rfl, some c, rfl, k9, hP9.mono (by omega), c99⟩
            · refine Eq.mpr (if_neg (fun q => hr0 (of_decide_eq_true q))) ?_
              exact ⟨none, rfl, k9, hP9.mono (by omega), fun b e => by cases e⟩
          · refine Eq.mpr (if_pos (nf hch)) ?_
            refine Eq.mpr (if_pos rfl) ?_
            exact ⟨_, rfl, some c, rfl, But.refl _ _, hP8.mono (by omega), c99⟩
        · rintro σ' H9 ⟨o, rfl, k9, hP9, ho⟩
          have hNm9 := k9 _ _ nNm hNm8
          have hLs9 := k9 _ _ nLs hLs8
          have tupB : ∀ {A B : Hp} {k0 : Int}, Pot A p k0 → But p A B → ∀ a vs, A a = some (.tup vs) → B a = some (.tup vs) := fun hp kb a vs e => kb _ _ (fun z => by rw [z] at e; obtain ⟨_, _, _, ep, _⟩ := hp; rw [ep] at e; cases e) e
          have hls9 : LnsAt H9 ps ls := hls8.map (tupB hP8 k9)
          have kH9 := kH8.trans k9
          clear hNm8 hLs8 hls8 kH8 k9 hP8
          refine rd_seq ?_
          refine ⟨_, rfl, .inl ⟨rfl, _, SqL.of hLs9⟩, _, rfl, _, rfl, _, rfl, _, rfl, _, rfl, Nm, _, rfl, SqL.of hNm9, fun LD hLD => ?_⟩
          rw [cut_take]
          have sD : Same H9 (upd H9 LD (.lst ((us.take i).map V.str))) := same_new hLD
          have fD : upd H9 LD (.lst ((us.take i).map V.str)) LD = some (.lst ((us.take i).map V.str)) := upd_same
          have hPD := hP9.same sD
          refine ⟨_, rfl, p, LD, us.take i, st, t + 9 + 8 * i + 3 * (wlsOf ls).length + 2, rfl, hP9.ne hLD, SqL.of fD, by omega, hin2, hst, by omega, by omega, hPD, fun HA q m kA hq0 hq hm hPA => ?_⟩
          have k9A := (But.of sD).trans kA
          refine ⟨_, rfl, (by exact (by decide : 4 ≤ sizeLine)), fun T1 hT1 => ?_⟩
          have sT1 : Same HA (upd HA T1 (.tup [.str "point", .str u, .ref q, optV o])) := same_new hT1
          have fT1 : upd HA T1 (.tup [.str "point", .str u, .ref q, optV o]) T1 = some (.tup [.str "point", .str u, .ref q, optV o]) := upd_same
          have fq1 := sT1 _ _ hq
          have hNmB := sT1 _ _ (k9A _ _ nNm hNm9)
          have hLsB := sT1 _ _ (k9A _ _ nLs hLs9)
          have hlsB : LnsAt (upd HA T1 (.tup [.str "point", .str u, .ref q, optV o])) ps ls := (hls9.map (tupB hP9 k9A)).map (tup_same sT1)
          have hPB := hPA.same sT1
          have kHB := (kH9.trans k9A).trans (But.of sT1)
          generalize upd HA T1 (.tup [.str "point", .str u, .ref q, optV o]) = HB at sT1 fT1 fq1 hNmB hLsB hlsB hPB kHB ⊢
          clear hNm9 hLs9 hls9 kH9 hP9 sD fD hPD kA hPA k9A hq hLD hq0
          have lw4 : (wlsOf ls).length ≤ 4 := by omega
          refine ⟨Ls, _, _, rfl, rfl, hLsB, Nat.lt_of_le_of_lt (by rw [List.length_map, lps]; omega : (ps.map V.ref).length ≤ 100) (by decide), ?_⟩
          have em : ps.map V.ref ++ [V.ref T1] = (ps ++ [T1]).map V.ref := by rw [List.map_append]; rfl
          rw [em]
          have fLsC : upd HB Ls (.lst ((ps ++ [T1]).map V.ref)) Ls = some (.lst ((ps ++ [T1]).map V.ref)) := upd_same
          have hNmC : upd HB Ls (.lst ((ps ++ [T1]).map V.ref)) Nm = some (.lst (us.map V.str)) := (upd_ne nNL).trans hNmB
          have hlsC : LnsAt (upd HB Ls (.lst ((ps ++ [T1]).map V.ref))) (ps ++ [T1]) (ls ++ [.pt u m o]) :=
            snoc_at (hlsB.map (tup_upd hLsB)) ⟨q, tup_upd hLsB _ _ fT1, tup_upd hLsB _ _ fq1⟩
          have hPC : Pot (upd HB Ls (.lst ((ps ++ [T1]).map V.ref))) p (t + 9 + 8 * i + 3 * (wlsOf ls).length + 7) := by
            obtain ⟨a1, b1, c1, e, r1⟩ := hPB.mono (by omega : t + 9 + 8 * i + 3 * (wlsOf ls).length + 2 + 5 ≤ t + 9 + 8 * i + 3 * (wlsOf ls).length + 7)
            exact ⟨a1, b1, c1, (upd_ne (Ne.symm nLs)).trans e, r1⟩
          have kHC : But p H (upd HB Ls (.lst ((ps ++ [T1]).map V.ref))) := kHB.mut hLs0
          have enm : nmsOf (ls ++ [.pt u m o]) = us.take (i + 1) := by rw [nms_app, hnms, htake]; rfl
          have ewl : wlsOf (ls ++ [.pt u m o]) = wlsOf ls := by rw [wls_app]; exact List.append_nil _
          have okC : okL [] 0 (ls ++ [.pt u m o]) := okL_app ls _ [] 0 hok ⟨⟨hin u hui, by rw [List.nil_append, hnms]; exact hnot, by rw [List.nil_append, hnms]; exact hm, ho, by rw [List.nil_append, hnms, lt]; omega⟩, trivial⟩
          generalize upd HB Ls (.lst ((ps ++ [T1]).map V.ref)) = HC at fLsC hNmC hlsC hPC kHC ⊢
          rw [← ewl] at hPC hwl
          generalize ls ++ [.pt u m o] = ls1 at hlsC enm okC hPC hwl
          generalize ps ++ [T1] = ps1 at fLsC hlsC
          dsimp only
          refine ⟨fun m' σ' H' => ∃ (ps : List Addr) (ls : List Ln), σ' = [some (.ref p), some (.int pts), some (.int wls), some (.int most), some (.ref Nm), some (.ref Ls), some (.int mv2), some (.int hd), some (.int st), some (.int (i : Nat)), some (.str u), some (.int c), some (optV o)] ∧
            But p H H' ∧ H' Nm = some (.lst (us.map V.str)) ∧ H' Ls = some (.lst (ps.map V.ref)) ∧ LnsAt H' ps ls ∧ okL [] 0 ls ∧ nmsOf ls = us.take (i + 1) ∧ ((wlsOf ls).length : Int) ≤ wls ∧ Pot H' p (t + 9 + 8 * i + 3 * (wlsOf ls).length + 7) ∧ m' = 4 - (wlsOf ls).length,
            ⟨_, ps1, ls1, rfl, kHC, hNmC, fLsC, hlsC, okC, enm, hwl, hPC, rfl⟩, ?_⟩
          clear fLsC hNmC hlsC okC enm hwl hPC kHC hNmB hLsB hlsB hPB kHB fT1 fq1 sT1 lps lcnt lw4
          rintro m' σ' H2 ⟨ps2, ls2, rfl, kD, hNmD, hLsD, hlsD, okD, enD, hwD, hPD, rfl⟩
          have lt1 : (us.take (i + 1)).length = i + 1 := by rw [List.length_take]; omega
          have lcnt : ls2.length = i + 1 + (wlsOf ls2).length := by rw [ln_count, enD, lt1]
          have lps : ps2.length = ls2.length := hlsD.1
          have out : ∀ H', But p H2 H' → Pot H' p (t + 9 + 8 * i + 3 * (wlsOf ls2).length + 8) → ∃ (v9 v10 v11 v12 : Option V) (mv : Int) (ps : List Addr) (ls : List Ln),
              ([some (.ref p), some (.int pts), some (.int wls), some (.int most), some (.ref Nm), some (.ref Ls), some (.int mv2), some (.int hd), some (.int st), some (.int (i : Nat)), some (.str u), some (.int c), some (optV o)] : St) =
                [some (.ref p), some (.int pts), some (.int wls), some (.int most), some (.ref Nm), some (.ref Ls), some (.int mv), some (.int hd), some (.int st), v9, v10, v11, v12] ∧ But p H H' ∧ H' Nm = some (.lst (us.map V.str)) ∧ H' Ls = some (.lst (ps.map V.ref)) ∧
                LnsAt H' ps ls ∧ okL [] 0 ls ∧ nmsOf ls = us.take (i + 1) ∧ ((wlsOf ls).length : Int) ≤ wls ∧ 1 ≤ mv ∧ mv ≤ most ∧ Pot H' p (t + 9 + 8 * ((i + 1 : Nat) : Int) + 3 * (wlsOf ls).length) := fun H' kb hP' =>
            ⟨_, _, _, _, mv2, ps2, ls2, rfl, kD.trans kb, kb _ _ nNm hNmD, kb _ _ nLs hLsD, hlsD.map (tupB hPD kb), okD, enD, hwD, hmv1, hmv2, hP'.mono (by omega)⟩
          refine ⟨_, rfl, _, _, rfl, rfl, _, rfl, ?_⟩
          by_cases hi0 : (0 : Int) < (i : Nat)
          case neg =>
            refine Eq.mpr (if_neg (fun q => hi0 (of_decide_eq_true q))) ?_
            refine Eq.mpr (if_neg Bool.false_ne_true) ?_
            exact out H2 (But.refl _ _) (hPD.mono (by omega))
          refine Eq.mpr (if_pos (decide_eq_true hi0)) ?_
          refine ⟨_, rfl, Ls, _, rfl, .inl (SqL.of hLsD), _, rfl, _, _, rfl, rfl, _, _, rfl, rfl, _, rfl, _, _, rfl, rfl, _, rfl, ?_⟩
          have elen : ((ps2.map V.ref).length : Int) - (i : Nat) - 1 = (wlsOf ls2).length := by rw [List.length_map, lps, lcnt]; omega
          rw [elen]
          by_cases hw : ((wlsOf ls2).length : Int) < wls
          case neg =>
            refine Eq.mpr (if_neg (fun q => hw (of_decide_eq_true q))) ?_
            refine Eq.mpr (if_neg Bool.false_ne_true) ?_
            exact out H2 (But.refl _ _) (hPD.mono (by omega))
          refine Eq.mpr (if_pos (decide_eq_true hw)) ?_
          refine ⟨_, rfl, p, 3, t + 9 + 8 * i + 3 * (wlsOf ls2).length + 7, rfl, by decide, by decide, by omega, hPD, fun HE r kE hPE r0 r3 => ⟨rfl, _, rfl, ?_⟩⟩
          by_cases hr0 : V.int r = V.int 0
          case neg =>
            refine Eq.mpr (if_neg (fun q => hr0 (of_decide_eq_true q))) ?_
            exact out HE kE (hPE.mono (by omega))
          refine Eq.mpr (if_pos (decide_eq_true hr0)) ?_
          refine ⟨_, fun σ' H' h => h, ?_⟩
          have hNmE := kE _ _ nNm hNmD
          have hLsE := kE _ _ nLs hLsD
          have hlsE := hlsD.map (tupB hPD kE)
          have kHE := kD.trans kE
          refine ⟨_, rfl, .inl ⟨rfl, _, SqL.of hLsE⟩, (by exact (by decide : 1 ≤ sizeLine)), fun TW hTW => ?_⟩
          have sW : Same HE (upd HE TW (.tup [.str "wall"])) := same_new hTW
          have fW : upd HE TW (.tup [.str "wall"]) TW = some (.tup [.str "wall"]) := upd_same
          have hPW := hPE.same sW
          generalize upd HE TW (.tup [.str "wall"]) = HW at sW fW hPW ⊢
          refine ⟨_, rfl, _, rfl, _, rfl, _, _, rfl, rfl, _, rfl, Nm, _, rfl, SqL.of (sW _ _ hNmE), fun LF hLF => ?_⟩
          have e1 : ((i : Nat) : Int) + 1 = ((i + 1 : Nat) : Int) := by omega
          rw [e1, cut_take]
          have sF : Same HW (upd HW LF (.lst ((us.take (i + 1)).map V.str))) := same_new hLF
          have fF : upd HW LF (.lst ((us.take (i + 1)).map V.str)) LF = some (.lst ((us.take (i + 1)).map V.str)) := upd_same
          have hPF := hPW.same sF
          have nLF := hPW.ne hLF
          have fWF := sF _ _ fW
          have sWF := sW.trans sF
          generalize upd HW LF (.lst ((us.take (i + 1)).map V.str)) = HF at sF fF hPF fWF sWF ⊢
          refine ⟨p, LF, _, 2, t + 9 + 8 * i + 3 * (wlsOf ls2).length + 7 + 1, rfl, nLF, SqL.of fF, by rw [List.length_map]; omega, by rw [List.length_map]; omega, by omega, by omega, hPF, fun HG q ys rest kG hq0 hq pm ly hPG => ?_⟩
          obtain ⟨xs, rfl, hxn, hxi⟩ := some_strs pm hnt
          rw [List.length_map] at ly
          obtain ⟨x, y, rfl⟩ : ∃ x y, xs = [x, y] := by
            rcases xs with _ | ⟨x, _ | ⟨y, _ | ⟨z, r⟩⟩⟩
            · cases ly
            · cases ly
            · exact ⟨_, _, rfl⟩
            · simp only [List.length_cons] at ly; omega
          have hxy : x ≠ y := fun e => by
            rw [e] at hxn
            exact (List.nodup_cons.mp hxn).1 (List.mem_singleton.mpr rfl)
          refine ⟨q, _, rfl, .inl ⟨SqL.of hq, fun T2 hT2 => ?_⟩⟩
          have s2 := same_new (o := .tup ([x, y].map V.str)) hT2
          have f2 : upd HG T2 (.tup ([x, y].map V.str)) T2 = some (.tup ([x, y].map V.str)) := upd_same
          have kEG := (But.of sWF).trans (kG.trans (But.of s2))
          have hPH := hPG.same s2
          have nTW : TW ≠ p := hPE.ne hTW
          have fWH := s2 _ _ (kG _ _ nTW fWF)
          generalize upd HG T2 (.tup ([x, y].map V.str)) = HH at s2 f2 kEG hPH fWH ⊢
          refine ⟨TW, T2, _, _, rfl, rfl, SqT.of fWH, SqT.of f2, (fun q => by cases q), (by exact (by decide : 3 ≤ sizeLine)), (fun q => by cases q), fun _ T3 hT3 => ?_⟩
          have s3 : Same HH (upd HH T3 (.tup ([.str "wall"] ++ [x, y].map V.str))) := same_new hT3
          have f3 : upd HH T3 (.tup ([.str "wall"] ++ [x, y].map V.str)) T3 = some (.tup [.str "wall", .str x, .str y]) := upd_same
          have kEI := kEG.trans (But.of s3)
          have hPI := hPH.same s3
          generalize upd HH T3 (.tup ([.str "wall"] ++ [x, y].map V.str)) = HI at s3 f3 kEI hPI ⊢
          have hLsI := kEI _ _ nLs hLsE
          have hNmI := kEI _ _ nNm hNmE
          have hlsI := hlsE.map (tupB hPE kEI)
          refine ⟨Ls, _, _, rfl, rfl, hLsI, Nat.lt_of_le_of_lt (by rw [List.length_map, lps]; omega : (ps2.map V.ref).length ≤ 100) (by decide), ?_⟩
          have em : ps2.map V.ref ++ [V.ref T3] = (ps2 ++ [T3]).map V.ref := by rw [List.map_append]; rfl
          rw [em]
          have ewl : wlsOf (ls2 ++ [.wl x y]) = wlsOf ls2 ++ [(x, y)] := wls_app _ _
          have lwl : (wlsOf (ls2 ++ [.wl x y])).length = (wlsOf ls2).length + 1 := by rw [ewl, List.length_append]; rfl
          refine ⟨_, ?_, ps2 ++ [T3], ls2 ++ [Ln.wl x y], rfl, (kHE.trans kEI).mut hLs0, (upd_ne nNL).trans hNmI, upd_same, snoc_at (r := Ln.wl x y) (hlsI.map (tup_upd (ys := (ps2 ++ [T3]).map V.ref) hLsI)) (show LnAt _ T3 (Ln.wl x y) from tup_upd (ys := (ps2 ++ [T3]).map V.ref) hLsI _ _ f3), ?_, ?_, ?_, ?_, rfl⟩
          · rw [lwl]; omega
          · refine okL_app ls2 _ [] 0 okD ⟨⟨?_, ?_, hxy, by omega⟩, trivial⟩
            · rw [List.nil_append, enD]; exact hxi x (by simp)
            · rw [List.nil_append, enD]; exact hxi y (by simp)
          · rw [nms_app, enD]; exact List.append_nil _
          · rw [lwl]; omega
          · obtain ⟨a1, b1, c1, e, r1⟩ := hPI.mono (by rw [lwl]; omega : t + 9 + 8 * i + 3 * (wlsOf ls2).length + 7 + 1 + (2 : Nat) ≤ t + 9 + 8 * i + 3 * (wlsOf (ls2 ++ [.wl x y])).length + 7)
            exact ⟨a1, b1, c1, (upd_ne (Ne.symm nLs)).trans e, r1⟩
    · rintro σ H6 ⟨v9, v10, v11, v12, mv, ps, ls, rfl, kH, hNm6, hLs6, hls, hok, hnms, hwl, hm1, hmm, hP6⟩
      rw [List.length_map, List.take_length] at hnms
      rw [List.length_map] at hP6
      refine fun D hD => ?_
      have sD : Same H6 (upd H6 D (.dK [])) := same_new hD
      have fD : upd H6 D (.dK []) D = some (.dK []) := upd_same
      have nDp : D ≠ p := hP6.ne hD
      have hD0 : H D = none := kH.free hD hP6.some.choose_spec
      have r5 := sD _ _ hLs6
      have nLD : Ls ≠ D := ne_of_none hLs6 hD
      have hls5 := hls.map (tup_same sD)
      have hP7 := hP6.same sD
      have k5 := kH.trans (But.of sD)
      generalize upd H6 D (.dK []) = H7 at sD fD r5 hls5 hP7 k5 ⊢
      refine ⟨_, rfl, _, rfl, fD, [(.inr "hand", .int hd), (.inr "lines", .ref Ls)], rfl, (by simp), ?_⟩
      refine k _ D Ls ps ls hd (k5.mut hD0) ?_ hD0 hLs0 upd_same ((upd_ne nLD).trans r5) ?_ hd0 hd3 hok ?_
      · obtain ⟨a1, b1, c1, e, r1⟩ := hP7.mono (by omega : t + 9 + 8 * (us.length : Int) + 3 * (wlsOf ls).length ≤ t + 70)
        exact ⟨a1, b1, c1, (upd_ne (Ne.symm nDp)).trans e, r1⟩
      · exact hls5.map fun a vs e => (upd_ne (fun z => by rw [z, fD] at e; cases e)).trans e
      · rw [hnms]
        rcases us with _ | ⟨n0, r⟩
        · simp at lus2
        · exact ⟨n0, r, rfl⟩
end
end L2.K07

set_option Elab.async false
set_option linter.all false
set_option maxRecDepth 100000
set_option maxHeartbeats 8000000
namespace L2.K07
open PySem PySem.Spec PyProof.Rows L2.Vx
open PySem.W (Frag)
open TL (tl)
/-! ### a drawn plan's text is read as it was drawn -/
theorem cut_one {s : Nat} : ∀ (p acc : List Nat), s ∉ p → cutAt s acc p = [acc ++ p]
  | [], acc, _ => by unfold cutAt; simp
  | c :: r, acc, h => by
    unfold cutAt
    rw [if_neg (fun e => h (by simp [e])), cut_one r (acc ++ [c]) (fun q => h (List.mem_cons_of_mem _ q))]
    simp
theorem cut_app {s : Nat} : ∀ (p acc r : List Nat), s ∉ p → cutAt s acc (p ++ s :: r) = (acc ++ p) :: cutAt s [] r
  | [], acc, r, _ => by
    show cutAt s acc (s :: r) = _
    conv => lhs; unfold cutAt
    rw [if_pos rfl, List.append_nil]
  | c :: p, acc, r, h => by
    show cutAt s acc (c :: (p ++ s :: r)) = _
    conv => lhs; unfold cutAt
    rw [if_neg (fun e => h (by simp [e])), cut_app p (acc ++ [c]) r (fun q => h (List.mem_cons_of_mem _ q))]
    simp
theorem cut_glue {s : Nat} : ∀ (ps : List (List Nat)), ps ≠ [] → (∀ p ∈ ps, s ∉ p) → cutAt s [] (glue s ps) = ps
  | [], h, _ => absurd rfl h
  | [p], _, h => cut_one p [] (h p (by simp))
  | p :: q :: r, _, h => by
    show cutAt s [] (p ++ s :: glue s (q :: r)) = _
    rw [cut_app p [] _ (h p (by simp)), cut_glue (q :: r) (by simp) (fun x hx => h x (List.mem_cons_of_mem _ hx))]
    rfl
theorem joinL_glue (s : Nat) : ∀ ps : List (List Nat), TL.joinL [s] ps = glue s ps
  | [] => rfl
  | [p] => rfl
  | p :: q :: r => by
    show p ++ ([s] ++ TL.joinL [s] (q :: r)) = p ++ s :: glue s (q :: r)
    rw [joinL_glue s (q :: r)]
    rfl
theorem map_tl_inj : ∀ {a b : List Str}, a.map tl = b.map tl → a = b
  | [], [], _ => rfl
  | [], _ :: _, h => by cases h
  | _ :: _, [], h => by cases h
  | x :: a, y :: b, h => by
    rw [List.map_cons, List.map_cons] at h
    injection h with h1 h2
    rw [TL.ext_tl h1, map_tl_inj h2]
theorem tl_join' (s : Nat) (ys : List Str) : tl (Txt.join ⟨#[s]⟩ ys) = glue s (ys.map tl) := by
  rw [TL.join_eq, TL.tl_join]
  exact joinL_glue s _
theorem split_join {s : Nat} (hs : s < 256) {ys : List Str} (h0 : ys ≠ []) (h : ∀ y ∈ ys, s ∉ tl y) : Txt.split (Txt.join ⟨#[s]⟩ ys) ⟨#[s]⟩ = ys := by
  apply map_tl_inj
  rw [split_cut _ hs, tl_join']
  exact cut_glue _ (by simpa using h0) (fun p hp => by
    obtain ⟨y, hy, rfl⟩ := List.mem_map.mp hp
    exact h y hy)
theorem glue_two (s : Nat) (a b : List Nat) : ∀ ps : List (List Nat), ps ≠ [] → glue s (ps ++ [a, b]) = glue s ps ++ s :: (a ++ s :: b)
  | [], h => absurd rfl h
  | [p], _ => rfl
  | p :: q :: r, _ => by
    show p ++ s :: glue s ((q :: r) ++ [a, b]) = (p ++ s :: glue s (q :: r)) ++ s :: (a ++ s :: b)
    rw [glue_two s a b (q :: r) (by simp)]
    simp
/-- the words of a line -/
def ownW : Option Int → List Str
  | none => []
  | some b => [("within" : Str), numT b]
def lineW : Ln → List Str
  | .wl a b => ["wall", a, b]
  | .pt n m o => (("point" : Str) :: n :: (aimV m).map txtOf) ++ ownW o
theorem line_join : ∀ l : Ln, lineText l = Txt.join " " (lineW l)
  | .wl a b => rfl
  | .pt n m none => by
    show Txt.join " " (("point" : Str) :: n :: (aimV m).map txtOf) = Txt.join " " ((("point" : Str) :: n :: (aimV m).map txtOf) ++ [])
    rw [List.append_nil]
  | .pt n m (some b) => by
    apply TL.ext_tl
    show tl (Txt.join " " (("point" : Str) :: n :: (aimV m).map txtOf) ++ " within " ++ numT b) = tl (Txt.join " " ((("point" : Str) :: n :: (aimV m).map txtOf) ++ [("within" : Str), numT b]))
    rw [TL.tl_append, TL.tl_append, sp_eq, tl_join', tl_join', List.map_append, show [("within" : Str), numT b].map tl = [tl "within", tl (numT b)] from rfl, glue_two _ _ _ _ (by simp)]
    rw [show tl (" within " : Str) = 32 :: (tl ("within" : Str) ++ [32]) by decide +kernel]
    simp
def free (x : Str) : Prop := 32 ∉ tl x ∧ 10 ∉ tl x ∧ ∀ c ∈ tl x, c < 16 ^ 8
instance (x : Str) : Decidable (free x) := inferInstanceAs (Decidable (_ ∧ _ ∧ _))
theorem pool_free : ∀ u ∈ poolN, free u := by decide +kernel
theorem nums_free : ∀ x ∈ numsL, free (numT x) := by decide +kernel
theorem n99_free : ∀ n : Nat, n < 100 → free (numT (n : Int)) := by decide +kernel
theorem words_free : free "point" ∧ free "wall" ∧ free "within" ∧ free "at" ∧ free "by" ∧ free "cross" := by decide +kernel
theorem own_free {o : Option Int} (h : ∀ b, o = some b → 0 ≤ b ∧ b ≤ 99) : ∀ y ∈ ownW o, free y := by
  cases o with
  | none => intro y hy; cases hy
  | some b =>
    intro y hy
    obtain ⟨h0, h9⟩ := h b rfl
    obtain ⟨n, rfl⟩ : ∃ n : Nat, b = (n : Int) := ⟨b.toNat, by omega⟩
    simp only [ownW, List.mem_cons, List.not_mem_nil, or_false] at hy
    rcases hy with rfl | rfl
    · exact words_free.2.2.1
    · exact n99_free n (by omega)
theorem aim_free {m : Aim} {ns : List Str} (h : AimOk m ns) (hns : ∀ u ∈ ns, u ∈ poolN) : ∀ y ∈ (aimV m).map txtOf, free y := by
  obtain ⟨f1, f2, f3, f4, f5, f6⟩ := words_free
  cases m with
  | «at» x y =>
    obtain ⟨hx, hy⟩ := h
    intro u hu
    simp only [aimV, txtOf, List.map_cons, List.map_nil, List.mem_cons, List.not_mem_nil, or_false] at hu
    rcases hu with rfl | rfl | rfl
    · exact f4
    · exact nums_free x hx
    · exact nums_free y hy
  | «by» o x y =>
    obtain ⟨ho, hx, hy⟩ := h
    intro u hu
    simp only [aimV, txtOf, List.map_cons, List.map_nil, List.mem_cons, List.not_mem_nil, or_false] at hu
    rcases hu with rfl | rfl | rfl | rfl
    · exact f5
    · exact pool_free _ (hns _ ho)
    · exact nums_free x hx
    · exact nums_free y hy
  | cross a b =>
    obtain ⟨ha, hb⟩ := h
    intro u hu
    simp only [aimV, txtOf, List.map_cons, List.map_nil, List.mem_cons, List.not_mem_nil, or_false] at hu
    rcases hu with rfl | rfl | rfl
    · exact f6
    · exact pool_free _ (hns _ ha)
    · exact pool_free _ (hns _ hb)
/-- a line that can stand there -/
def LnOk (ns : List Str) (nw : Nat) : Ln → Prop
  | .pt n m o => n ∈ poolN ∧ n ∉ ns ∧ AimOk m ns ∧ (∀ b, o = some b → 0 ≤ b ∧ b ≤ 99) ∧ ns.length < 6
  | .wl a b => a ∈ ns ∧ b ∈ ns ∧ a ≠ b ∧ nw < 4
theorem ln_free {l : Ln} {ns : List Str} {nw : Nat} (h : LnOk ns nw l) (hns : ∀ u ∈ ns, u ∈ poolN) : ∀ y ∈ lineW l, free y := by
  cases l with
  | wl a b =>
    obtain ⟨ha, hb, _⟩ := h
    intro u hu
    simp only [lineW, List.mem_cons, List.not_mem_nil, or_false] at hu
    rcases hu with rfl | rfl | rfl
    · exact words_free.2.1
    · exact pool_free _ (hns _ ha)
    · exact pool_free _ (hns _ hb)
  | pt n m o =>
    obtain ⟨hn, _, hm, ho, _⟩ := h
    intro u hu
    rcases List.mem_append.mp hu with hu | hu
    · rcases List.mem_cons.mp hu with rfl | hu
      · exact words_free.1
      · rcases List.mem_cons.mp hu with rfl | hu
        · exact pool_free _ hn
        · exact aim_free hm hns _ hu
    · exact own_free ho _ hu
theorem line_ne (l : Ln) : lineW l ≠ [] := by cases l <;> simp [lineW]
theorem line_split {l : Ln} {ns : List Str} {nw : Nat} (h : LnOk ns nw l) (hns : ∀ u ∈ ns, u ∈ poolN) : Txt.split (lineText l) " " = lineW l := by
  rw [line_join, sp_eq]
  exact split_join (by decide) (line_ne l) fun y hy => (ln_free h hns y hy).1
theorem glue_mem {s : Nat} {c : Nat} : ∀ ps : List (List Nat), c ∈ glue s ps → c = s ∨ ∃ p ∈ ps, c ∈ p
  | [], h => by cases h
  | [p], h => .inr ⟨p, by simp, h⟩
  | p :: q :: r, h => by
    rcases List.mem_append.mp (show c ∈ p ++ s :: glue s (q :: r) from h) with h | h
    · exact .inr ⟨p, by simp, h⟩
    · rcases List.mem_cons.mp h with rfl | h
      · exact .inl rfl
      · rcases glue_mem (q :: r) h with h | ⟨u, hu, hc⟩
        · exact .inl h
        · exact .inr ⟨u, List.mem_cons_of_mem _ hu, hc⟩
theorem line_nl {l : Ln} {ns : List Str} {nw : Nat} (h : LnOk ns nw l) (hns : ∀ u ∈ ns, u ∈ poolN) : 10 ∉ tl (lineText l) := by
  rw [line_join, sp_eq, tl_join']
  intro q
  rcases glue_mem _ q with q | ⟨u, hu, hc⟩
  · cases q
  · obtain ⟨y, hy, rfl⟩ := List.mem_map.mp hu
    exact (ln_free h hns y hy).2.1 hc
theorem line_plain {l : Ln} {ns : List Str} {nw : Nat} (h : LnOk ns nw l) (hns : ∀ u ∈ ns, u ∈ poolN) : ∀ c ∈ tl (lineText l), c < 16 ^ 8 := by
  rw [line_join, sp_eq, tl_join']
  intro c q
  rcases glue_mem _ q with rfl | ⟨u, hu, hc⟩
  · decide
  · obtain ⟨y, hy, rfl⟩ := List.mem_map.mp hu
    exact (ln_free h hns y hy).2.2 c hc
theorem sgn_round : ∀ x ∈ numsL, sgnIn (numT x) 999 = some x := by decide +kernel
theorem pool_name : ∀ u ∈ poolN, nameIn u = true := by decide +kernel
theorem n99_round : ∀ n : Nat, n < 100 → numIn (numT (n : Int)) 0 99 = some (n : Int) := by decide +kernel
theorem hand_round : ∀ n : Nat, n < 100 → handIn ("hand " ++ numT (n : Int)) = some (n : Int) ∧ 10 ∉ tl ("hand " ++ numT (n : Int)) ∧ ∀ c ∈ tl ("hand " ++ numT (n : Int)), c < 16 ^ 8 := by decide +kernel
theorem bound_round {o : Option Int} (h : ∀ b, o = some b → 0 ≤ b ∧ b ≤ 99) (hand : Int) : boundW (ownW o) hand = some (o.getD hand) := by
  cases o with
  | none => rfl
  | some b =>
    obtain ⟨h0, h9⟩ := h b rfl
    obtain ⟨n, rfl⟩ : ∃ n : Nat, b = (n : Int) := ⟨b.toNat, by omega⟩
    show (if ("within" : Str) = "within" then numIn (numT (n : Int)) 0 99 else none) = some (n : Int)
    rw [if_pos rfl]
    exact n99_round n (by omega)
theorem wall_none {p : Str} {r ns : List Str} (h : p ≠ "wall") : wallW (p :: r) ns = none := by
  rcases r with _ | ⟨a, _ | ⟨b, _ | ⟨c, r⟩⟩⟩
  · rfl
  · rfl
  · exact if_neg fun q => h q.1
  · rfl
theorem ne_words : ("at" : Str) ≠ "cross" ∧ ("by" : Str) ≠ "cross" ∧ ("at" : Str) ≠ "by" ∧ ("cross" : Str) ≠ "by" ∧ ("point" : Str) ≠ "wall" := by decide +kernel
theorem aimw_in : (Str.ofString "at") ∈ aimWords ∧ (Str.ofString "by") ∈ aimWords ∧ (Str.ofString "cross") ∈ aimWords := by decide +kernel
theorem point_round {n : Str} {m : Aim} {o : Option Int} {ns : List Str} {nw : Nat} (h : LnOk ns nw (.pt n m o)) (hand : Int) : pointW (lineW (.pt n m o)) ns hand = some (n, m, o.getD hand) := by
  obtain ⟨hn, hno, hm, ho, _⟩ := h
  have hb := bound_round ho hand
  obtain ⟨n1, n2, n3, n4, _⟩ := ne_words
  obtain ⟨a1, a2, a3⟩ := aimw_in
  have fin : ∀ {k : Str} {r : List Str}, k ∈ aimWords → aimW (((("point" : Str) :: n :: k :: r).drop 2).take (manyOf k - 2)) ns = some m → (("point" : Str) :: n :: k :: r).drop (manyOf k) = ownW o → pointW (("point" : Str) :: n :: k :: r) ns hand = some (n, m, o.getD hand) := by
    intro k r hk h1 h2
    refine (if_pos ⟨rfl, hk⟩).trans ?_
    rw [h1, h2, hb]
    exact if_pos ⟨pool_name n hn, hno⟩
  cases m with
  | «at» x y =>
    obtain ⟨hx, hy⟩ := hm
    refine fin (k := "at") (r := [numT x, numT y] ++ ownW o) a1 ?_ ?_
    · rw [show manyOf "at" = 5 from if_neg n3]
      have e : aimW ["at", numT x, numT y] ns = atOf (sgnIn (numT x) 999) (sgnIn (numT y) 999) := by
        show (if ("at" : Str) = "cross" then crossW ["at", numT x, numT y] ns else if ("at" : Str) = "at" then atOf (sgnIn (numT x) 999) (sgnIn (numT y) 999) else none) = _
        rw [if_neg n1, if_pos rfl]
      rw [sgn_round x hx, sgn_round y hy] at e
      exact e
    · rw [show manyOf "at" = 5 from if_neg n3]
      rfl
  | «by» a x y =>
    obtain ⟨ha, hx, hy⟩ := hm
    refine fin (k := "by") (r := [a, numT x, numT y] ++ ownW o) a2 ?_ ?_
    · rw [show manyOf "by" = 6 from if_pos rfl]
      have e : aimW ["by", a, numT x, numT y] ns = byOf a (sgnIn (numT x) 999) (sgnIn (numT y) 999) := by
        show (if ("by" : Str) = "cross" then none else if ("by" : Str) = "by" ∧ a ∈ ns then byOf a (sgnIn (numT x) 999) (sgnIn (numT y) 999) else none) = _
        rw [if_neg n2, if_pos ⟨rfl, ha⟩]
      rw [sgn_round x hx, sgn_round y hy] at e
      exact e
    · rw [show manyOf "by" = 6 from if_pos rfl]
      rfl
  | cross a b =>
    obtain ⟨ha, hb'⟩ := hm
    refine fin (k := "cross") (r := [a, b] ++ ownW o) a3 ?_ ?_
    · rw [show manyOf "cross" = 5 from if_neg n4]
      have e : aimW ["cross", a, b] ns = some (.cross a b) := by
        have e2 : aimW ["cross", a, b] ns = crossW ["cross", a, b] ns := by
          show (if ("cross" : Str) = "cross" then crossW ["cross", a, b] ns else if ("cross" : Str) = "at" then atOf (sgnIn a 999) (sgnIn b 999) else none) = _
          rw [if_pos rfl]
        exact e2.trans (if_pos (show a ∈ ns ∧ b ∈ ns from ⟨ha, hb'⟩))
      exact e
    · rw [show manyOf "cross" = 5 from if_neg n4]
      rfl
/-- the clicks that are told -/
def clksOf (h : Int) : List (Str × Str) → List Ln → List Clk
  | _, [] => []
  | wl, .pt n m o :: r => ⟨n, m, o.getD h, wl⟩ :: clksOf h wl r
  | wl, .wl a b :: r => clksOf h (wl ++ [(a, b)]) r
theorem clks_round : ∀ (ls : List Ln) (n : Nat) (h : Int) (cs : List Clk) (wl : List (Str × Str)), okL (cs.map Clk.name) wl.length ls → (∀ u ∈ cs.map Clk.name, u ∈ poolN) → clicksIn (ls.map lineText) n h cs wl = .inr (cs ++ clksOf h wl ls, wl ++ wlsOf ls)
  | [], n, h, cs, wl, _, _ => by
    show (Sum.inr (cs, wl) : Nat ⊕ _) = .inr (cs ++ [], wl ++ [])
    rw [List.append_nil, List.append_nil]
  | .pt nm m o :: r, n, h, cs, wl, ok, hp => by
    obtain ⟨ok1, ok2⟩ := ok
    have hl : LnOk (cs.map Clk.name) wl.length (.pt nm m o) := ok1
    have e1 : wallW (Txt.split (lineText (.pt nm m o)) " ") (cs.map Clk.name) = none := by
      rw [line_split hl hp]
      exact wall_none ne_words.2.2.2.2
    have e2 : pointW (Txt.split (lineText (.pt nm m o)) " ") (cs.map Clk.name) h = some (nm, m, o.getD h) := by
      rw [line_split hl hp]
      exact point_round hl h
    have hc : cs.length < 6 := by
      have := ok1.2.2.2.2
      rw [List.length_map] at this
      exact this
    rw [List.map_cons, ck_pt (.inl e1) e2 hc]
    have en : (cs ++ [Clk.mk nm m (o.getD h) wl]).map Clk.name = cs.map Clk.name ++ [nm] := by rw [List.map_append]; rfl
    rw [clks_round r (n + 1) h (cs ++ [Clk.mk nm m (o.getD h) wl]) wl (by rw [en]; exact ok2) (by
      rw [en]
      intro u hu
      rcases List.mem_append.mp hu with hu | hu
      · exact hp u hu
      · rw [List.mem_singleton.mp hu]; exact ok1.1)]
    rw [List.append_assoc]
    rfl
  | .wl a b :: r, n, h, cs, wl, ok, hp => by
    obtain ⟨ok1, ok2⟩ := ok
    have hl : LnOk (cs.map Clk.name) wl.length (.wl a b) := ok1
    have e1 : wallW (Txt.split (lineText (.wl a b)) " ") (cs.map Clk.name) = some (a, b) := by
      rw [line_split hl hp]
      exact if_pos ⟨rfl, ok1.2.2.1, ok1.1, ok1.2.1⟩
    rw [List.map_cons, ck_wall e1 ok1.2.2.2]
    rw [clks_round r (n + 1) h cs (wl ++ [(a, b)]) (by rw [List.length_append]; exact ok2) hp, List.append_assoc]
    rfl
theorem okL_small : ∀ (ls : List Ln) (ns : List Str) (nw : Nat), okL ns nw ls → (∀ u ∈ ns, u ∈ poolN) → ∀ l ∈ ls, LnSmall l ∧ 10 ∉ tl (lineText l) ∧ ∀ c ∈ tl (lineText l), c < 16 ^ 8
  | [], _, _, _, _, l, h => by cases h
  | .pt n m o :: r, ns, nw, ok, hp, l, h => by
    obtain ⟨ok1, ok2⟩ := ok
    have p20 : ∀ u ∈ poolN, u.length ≤ 20 := by decide +kernel
    have n1000 : ∀ x ∈ numsL, -1000 < x ∧ x < 1000 := by decide +kernel
    have w20 : ("at" : Str).length ≤ 20 ∧ ("by" : Str).length ≤ 20 ∧ ("cross" : Str).length ≤ 20 := by decide +kernel
    rcases List.mem_cons.mp h with rfl | h
    · refine ⟨⟨p20 n ok1.1, ?_, ok1.2.2.2.1⟩, line_nl (ns := ns) (nw := nw) ok1 hp, line_plain (ns := ns) (nw := nw) ok1 hp⟩
      have hm := ok1.2.2.1
      intro v hv
      cases m with
      | «at» x y =>
        simp only [aimV, List.mem_cons, List.not_mem_nil, or_false] at hv
        rcases hv with rfl | rfl | rfl
        · exact .inl ⟨_, rfl, w20.1⟩
        · exact .inr ⟨_, rfl, n1000 x hm.1⟩
        · exact .inr ⟨_, rfl, n1000 y hm.2⟩
      | «by» a x y =>
        simp only [aimV, List.mem_cons, List.not_mem_nil, or_false] at hv
        rcases hv with rfl | rfl | rfl | rfl
        · exact .inl ⟨_, rfl, w20.2.1⟩
        · exact .inl ⟨_, rfl, p20 _ (hp _ hm.1)⟩
        · exact .inr ⟨_, rfl, n1000 x hm.2.1⟩
        · exact .inr ⟨_, rfl, n1000 y hm.2.2⟩
      | cross a b =>
        simp only [aimV, List.mem_cons, List.not_mem_nil, or_false] at hv
        rcases hv with rfl | rfl | rfl
        · exact .inl ⟨_, rfl, w20.2.2⟩
        · exact .inl ⟨_, rfl, p20 _ (hp _ hm.1)⟩
        · exact .inl ⟨_, rfl, p20 _ (hp _ hm.2)⟩
    · exact okL_small r _ nw ok2 (fun u hu => by
        rcases List.mem_append.mp hu with hu | hu
        · exact hp u hu
        · rw [List.mem_singleton.mp hu]; exact ok1.1) l h
  | .wl a b :: r, ns, nw, ok, hp, l, h => by
    obtain ⟨ok1, ok2⟩ := ok
    have p20 : ∀ u ∈ poolN, u.length ≤ 20 := by decide +kernel
    rcases List.mem_cons.mp h with rfl | h
    · exact ⟨⟨p20 a (hp a ok1.1), p20 b (hp b ok1.2.1)⟩, line_nl (ns := ns) (nw := nw) ok1 hp, line_plain (ns := ns) (nw := nw) ok1 hp⟩
    · exact okL_small r ns (nw + 1) ok2 hp l h
theorem okL_count : ∀ (ls : List Ln) (ns : List Str) (nw : Nat), okL ns nw ls → ns.length ≤ 6 → nw ≤ 4 → ns.length + (nmsOf ls).length ≤ 6 ∧ nw + (wlsOf ls).length ≤ 4
  | [], ns, nw, _, h1, h2 => ⟨h1, h2⟩
  | .pt n m o :: r, ns, nw, ok, h1, h2 => by
    have h := okL_count r (ns ++ [n]) nw ok.2 (by rw [List.length_append]; have := ok.1.2.2.2.2; show ns.length + 1 ≤ 6; omega) h2
    rw [List.length_append] at h
    obtain ⟨a, b⟩ := h
    refine ⟨?_, b⟩
    show ns.length + ((nmsOf r).length + 1) ≤ 6
    have : ([n] : List Str).length = 1 := rfl
    omega
  | .wl a b :: r, ns, nw, ok, h1, h2 => by
    have h := okL_count r ns (nw + 1) ok.2 h1 (by have := ok.1.2.2.2; omega)
    refine ⟨h.1, ?_⟩
    show nw + ((wlsOf r).length + 1) ≤ 4
    omega
theorem okL_len {ls : List Ln} (ok : okL [] 0 ls) : ls.length ≤ 10 := by
  have h := okL_count ls [] 0 ok (by decide) (by decide)
  rw [ln_count]
  have e : ([] : List Str).length = 0 := rfl
  omega
theorem empty_app (x : Str) : Str.empty ++ x = x := by
  apply TL.ext_tl
  rw [TL.tl_append]
  rfl
theorem plan_split {h : Int} {ls : List Ln} (h0 : 0 ≤ h) (h9 : h ≤ 99) (ok : okL [] 0 ls) : Txt.split (planText h ls) "\n" = planLines h ls := by
  unfold planText
  rw [nl_eq]
  refine split_join (by decide) (by simp [planLines]) fun y hy => ?_
  rcases List.mem_cons.mp hy with rfl | hy
  · obtain ⟨n, rfl⟩ : ∃ n : Nat, h = (n : Int) := ⟨h.toNat, by omega⟩
    exact (hand_round n (by omega)).2.1
  · obtain ⟨l, hl, rfl⟩ := List.mem_map.mp hy
    exact (okL_small ls [] 0 ok (fun _ h => by cases h) l hl).2.1
theorem hand_text {h n : Int} {ls : List Ln} (h0 : 0 ≤ h) (h9 : h ≤ 99) (ok : okL [] 0 ls) : handText (planText h ls) n = planText n ls := by
  unfold handText
  rw [plan_split h0 h9 ok, empty_app]
  rfl
theorem plan_round {h : Int} {ls : List Ln} (h0 : 0 ≤ h) (h9 : h ≤ 99) (ok : okL [] 0 ls) (hne : ∃ n0 r, nmsOf ls = n0 :: r) : planIn (planText h ls) = .inr (h, clksOf h [] ls, wlsOf ls) := by
  unfold planIn
  rw [plan_split h0 h9 ok]
  have e1 : handIn ("hand " ++ numT h) = some h := by
    obtain ⟨n, rfl⟩ : ∃ n : Nat, h = (n : Int) := ⟨h.toNat, by omega⟩
    exact (hand_round n (by omega)).1
  have e2 := clks_round ls 2 h [] [] ok (fun _ h => by cases h)
  rw [List.nil_append, List.nil_append] at e2
  have hc : ∃ c cs, clksOf h [] ls = c :: cs := by
    have key : ∀ (ls : List Ln) (wl : List (Str × Str)), (∃ n0 r, nmsOf ls = n0 :: r) → ∃ c cs, clksOf h wl ls = c :: cs := by
      intro ls
      induction ls with
      | nil => intro _ ⟨_, _, e⟩; cases e
      | cons l r ih =>
        intro wl he
        cases l with
        | pt n m o => exact ⟨_, _, rfl⟩
        | wl a b => exact ih (wl ++ [(a, b)]) he
    exact key ls [] hne
  obtain ⟨c, cs, ec⟩ := hc
  rw [ec] at e2 ⊢
  exact planW3 e1 e2
theorem clks_names (h : Int) : ∀ (ls : List Ln) (wl : List (Str × Str)), (clksOf h wl ls).map Clk.name = nmsOf ls
  | [], _ => rfl
  | .pt n m o :: r, wl => congrArg (n :: ·) (clks_names h r wl)
  | .wl a b :: r, wl => clks_names h r (wl ++ [(a, b)])
theorem plan_plain {h : Int} {ls : List Ln} (h0 : 0 ≤ h) (h9 : h ≤ 99) (ok : okL [] 0 ls) : ∀ c ∈ tl (planText h ls), c < 16 ^ 8 := by
  unfold planText
  rw [nl_eq, tl_join']
  intro c q
  rcases glue_mem _ q with rfl | ⟨u, hu, hc⟩
  · decide
  · obtain ⟨y, hy, rfl⟩ := List.mem_map.mp hu
    rcases List.mem_cons.mp hy with rfl | hy
    · obtain ⟨n, rfl⟩ : ∃ n : Nat, h = (n : Int) := ⟨h.toNat, by omega⟩
      exact (hand_round n (by omega)).2.2 c hc
    · obtain ⟨l, hl, rfl⟩ := List.mem_map.mp hy
      exact (okL_small ls [] 0 ok (fun _ h => by cases h) l hl).2.2 c hc
theorem plan_len {h : Int} {ls : List Ln} (h0 : 0 ≤ h) (h9 : h ≤ 99) (ok : okL [] 0 ls) : (planText h ls).length ≤ 7000 :=
  Nat.le_trans (join_tot nl1 _) (plan_tot h0 h9 (fun l hl => (okL_small ls [] 0 ok (fun _ h => by cases h) l hl).1) (Nat.le_trans (okL_len ok) (by decide)))
/-! ### data that may be shown -/
def dOk (d : PyData) : Bool := d.showable && (!d.hasDict && PyData.leavesShort 8 d)
theorem show_ok {d : PyData} (h : dOk d = true) (hd : d.depth ≤ 60) (hb : d.bulk ≤ 100000) : shOk d = true ∧ d.depth ≤ 60 ∧ d.shown.length ≤ sizeLine := by
  unfold dOk at h
  obtain ⟨a, h⟩ := Bool.and_eq_true_iff.mp h
  obtain ⟨b, c⟩ := Bool.and_eq_true_iff.mp h
  refine ⟨?_, hd, ?_⟩
  · unfold shOk
    rw [a, b]
    rfl
  · refine Nat.le_trans (PyData.shown_le_bulk 8 (Nat.le_refl _) _ c) ?_
    exact Nat.le_trans (by omega : (8 + 2) * d.bulk + 8 ≤ 1000008) (by decide)
theorem plain_all {x : Str} (h : ∀ c ∈ tl x, c < 16 ^ 8) : (x.cps.toList.all fun c => decide (c < 16 ^ 8)) = true := by
  rw [List.all_eq_true]
  exact fun c hc => decide_eq_true (h c hc)
theorem int_ok {i : Int} (h0 : -1000 < i) (h1 : i < 1000) : (PyData.int i).showable = true ∧ PyData.leavesShort 8 (.int i) = true := by
  obtain ⟨a, b⟩ := num1000 h0 h1
  refine ⟨?_, ?_⟩
  · unfold PyData.showable
    exact decide_eq_true a
  · unfold PyData.leavesShort
    refine decide_eq_true ?_
    have : (PyData.int i).shown = numT i := by unfold PyData.shown; rfl
    rw [this]
    omega
end L2.K07

set_option Elab.async false
set_option linter.all false
set_option maxRecDepth 100000
set_option maxHeartbeats 4000000
namespace L2.K07
open PySem PySem.Spec PyProof.Rows L2.Vx
open PySem.W (Frag)
/-! ### how many points, which names; the names in the law -/
section
variable {P : Program} {w : World} {K : Frag} {mg : Str → Option Value} {bs : Heap}
def spPLen (B : Addr) : Sp := fun vs H Q _ => ∃ (a : Addr) (z : Str) (h : Int) (cs : List Clk) (wl : List (Str × Str)), vs = [.ref a] ∧ PlanAt B H a z h cs wl ∧ ∀ H', Same H H' → Q (.int (cs.length : Nat)) H'
theorem scPLen : FnScope ["self"] ["self"] (defScope sPLen) := ⟨rfl, rfl, rfl, by decide +kernel, rfl, by decide +kernel, by decide +kernel⟩
theorem ok_plen {f B : Addr} {fd : FuncData} (FP : Fun K "__len__" "Plan.__len__" sPLen f fd) (FB : FxPInit K mg B) (gL : mg "len" = none) : FnOk P w K mg bs CX0 1 f fd ["self"] (spPLen B) := by
  have sc := scPLen
  refine FP.ok scPLen (fun vs H Q E h => ?_) (fun cdv A outer s H vs Q E hr h => ?_)
  · obtain ⟨a, z, h, cs, wl, rfl, _⟩ := h
    rfl
  · obtain ⟨a, z, h, cs, wl, rfl, ⟨dx, pt, wt, ct, ps, qs, h1, h2, _⟩, k⟩ := h
    refine ⟨_, pss_one (ps_ret (pe_callB call_len_seq (by rfl) gL boot_len (pa_cons (pe_fld (pv 0) rfl) pa_nil))), ?_⟩
    refine ⟨_, rfl, a, B, dx, _, .ref pt, rfl, h1, FB.cls, FB.nP, planF_points _ _ _ _ _, pt, _, rfl, .inr (SqT.of h2), ?_⟩
    rw [List.length_map, List.length_map]
    exact k H (Same.refl H)
def spPHas (K : Frag) (B : Addr) : Sp := fun vs H Q _ => ∃ (a : Addr) (v : V) (z : Str) (h : Int) (cs : List Clk) (wl : List (Str × Str)), vs = [.ref a, v] ∧ PlanAt B H a z h cs wl ∧
  ((NoStr K H v ∧ ∀ H', Same H H' → Q (.bl false) H') ∨ ∃ u : Str, v = .str u ∧ ∀ H', Same H H' → Q (.bl (decide (u ∈ cs.map Clk.name))) H')
theorem scPHas : FnScope ["self", "value"] ["self", "value"] (defScope sPHas) := ⟨rfl, rfl, rfl, by decide +kernel, rfl, by decide +kernel, by decide +kernel⟩
theorem ok_phas {f B : Addr} {fd : FuncData} (FP : Fun K "__contains__" "Plan.__contains__" sPHas f fd) (FB : FxPInit K mg B) (gI : mg "isinstance" = none) (gS : mg "str" = none) : FnOk P w K mg bs CX0 1 f fd ["self", "value"] (spPHas K B) := by
  have sc := scPHas
  refine FP.ok scPHas (fun vs H Q E h => ?_) (fun cdv A outer s H vs Q E hr h => ?_)
  · obtain ⟨a, v, z, h, cs, wl, rfl, _⟩ := h
    rfl
  · obtain ⟨a, v, z, h, cs, wl, rfl, ⟨dx, pt, wt, ct, ps, qs, h1, h2, _⟩, h⟩ := h
    refine ⟨_, pss_one (ps_ret (pe_and (pe_callB call_isi (by rfl) gI boot_isinstance (pa_cons (pv 1) (pa_cons (pe_bltn (v := .ty "str") (by rfl) gS boot_str rfl) pa_nil)))
      (pe_one (pe_cmpR op_in_seq (pv 1) (pe_fld (pv 0) rfl) rfl)))), ?_⟩
    rcases h with ⟨⟨n, hT, hk⟩, k⟩ | ⟨u, rfl, k⟩
    · refine ⟨_, rfl, v, .ty "str", _, _, false, rfl, .ty "str", hT, kit_ty hk, _, rfl, ?_⟩
      refine Eq.mpr (if_neg (by decide)) ?_
      exact k H (Same.refl H)
    · refine ⟨_, rfl, .str u, .ty "str", .type "str", _, true, rfl, .ty "str", .base (.str u), kit_ty (by decide +kernel), _, rfl, ?_⟩
      refine Eq.mpr (if_pos rfl) ?_
      refine ⟨_, rfl, _, rfl, a, B, dx, _, .ref pt, rfl, h1, FB.cls, FB.nP, planF_points _ _ _ _ _, pt, _, rfl, .inr (SqT.of h2), rfl, flat_strs _, ?_⟩
      rw [if_neg Bool.false_ne_true, inV_str]
      exact k H (Same.refl H)
def spPNames (K : Frag) : Sp := fun vs H Q _ => ∃ (D R : Addr) (ps : List Addr) (ls : List Ln) (h : Int), vs = [.ref D] ∧ H D = some (.dK (lrD h R)) ∧ H R = some (.lst (ps.map V.ref)) ∧ LnsAt H ps ls ∧ ls.length ≤ 20 ∧
  ∀ H' q, Same H H' → H q = none → H' q = some (.lst ((nmsOf ls).map V.str)) → Q (.ref q) H'
theorem scPNames : FnScope ["plan", "line"] ["plan"] (defScope sPNames) := ⟨rfl, rfl, rfl, by decide +kernel, rfl, by decide +kernel, by decide +kernel⟩
theorem nms_take {ls : List Ln} {j : Nat} (h : j < ls.length) : nmsOf (ls.take (j + 1)) = nmsOf (ls.take j) ++ nmsOf [ls[j]] := by
  rw [List.take_succ, List.getElem?_eq_getElem h, nms_app]
  rfl
theorem nms_le : ∀ ls : List Ln, (nmsOf ls).length ≤ ls.length
  | [] => Nat.le_refl _
  | .pt n m o :: r => Nat.succ_le_succ (nms_le r)
  | .wl a b :: r => Nat.le_succ_of_le (nms_le r)
theorem ok_pnames {f : Addr} {fd : FuncData} (FP : FD K "_law_point_names" sPNames f fd) : FnOk P w K mg bs CX0 1 f fd ["plan"] (spPNames K) := by
  have sc := scPNames
  refine FP.ok scPNames (fun vs H Q E h => ?_) (fun cdv A outer s H vs Q E hr h => ?_)
  · obtain ⟨D, R, ps, ls, h, rfl, _⟩ := h
    rfl
  · obtain ⟨D, R, ps, ls, h, rfl, hD, hR, hls, hlen, k⟩ := h
    have hu := hu_of hr
    refine ⟨_, pss_one (ps_ret (pe_lc (own := [("line", 1)]) (g := gName 1) (by rfl) sc.nd (pi_list (pe_dget hu (pv 0) pe_str (fun _ _ => rfl))) (blkOk_by (N := ["plan", "line"]) (sc := defScope sPNames) (by decide +kernel))
        (fun _ _ _ _ _ => pg_name (i := 1) sc.nd rfl (Or.inl rfl)) (fun _ _ _ _ _ => pts_one (pt_cmpR op_eq (pe_ix (r := rIxT K) ix_tup (pv 1) pe_int (fun _ _ => rfl)) pe_str (nomark _)))
        (fun _ _ _ _ _ => pe_ix (r := rIxT K) ix_tup (pv 1) pe_int (fun _ _ => rfl)))), ?_⟩
    refine ⟨_, rfl, D, .ref R, rfl, DGet.k (k := Sum.inr "lines") hD, R, rfl, ⟨_, SqL.of hR⟩, fun E0 hE => lc_it (walk_list (K := K) (a := R) (xs := ps.map V.ref)) (fun j H' => Same H H' ∧ H' E0 = some (.lst ((nmsOf (ls.take j)).map V.str))) ⟨same_new hE, upd_same⟩ (fun _ _ _ u => SqL.of (u.1 _ _ hR)) ?_ ?_⟩
    · rintro j v H5 H6 hj ⟨s5, d5⟩ ⟨rfl, hv⟩
      have hj' : j < ps.length := by simpa using hj
      have hj2 : j < ls.length := by rw [← hls.1]; exact hj'
      rw [List.getElem?_map, List.getElem?_eq_getElem hj'] at hv
      cases hv
      have hl := (hls.map (tup_same s5)).2 j _ _ (List.getElem?_eq_getElem hj') (List.getElem?_eq_getElem hj2)
      rw [nms_take hj2]
      have ln := nms_le (ls.take j)
      rw [List.length_take] at ln
      generalize ls[j] = l at hl ⊢
      refine ⟨rfl, ?_⟩
      cases l with
      | wl x y =>
        refine ⟨_, rfl, _, _, 0, .str "wall", rfl, rfl, SqT.of hl, rfl, rfl, _, rfl, ?_⟩
        refine Eq.mpr (if_neg (by decide +kernel)) ?_
        refine ⟨s5, ?_⟩
        rw [d5]
        show some (HO.lst ((nmsOf (ls.take j)).map V.str)) = some (HO.lst ((nmsOf (ls.take j) ++ []).map V.str))
        rw [List.append_nil]
      | pt n m o =>
        obtain ⟨q, e, _⟩ := hl
        refine ⟨_, rfl, _, _, 0, .str "point", rfl, rfl, SqT.of e, rfl, rfl, _, rfl, ?_⟩
        refine Eq.mpr (if_pos (decide_eq_true rfl)) ?_
        refine ⟨_, rfl, _, _, 1, .str n, rfl, rfl, SqT.of e, rfl, _, d5, ?_, s5.mut hE, ?_⟩
        · rw [List.length_map]
          exact Nat.lt_of_le_of_lt (by omega : (nmsOf (ls.take j)).length ≤ 20) (by decide)
        · rw [upd_same, List.map_append]
          rfl
    · rintro H5 ⟨s5, d5⟩
      rw [List.length_map, hls.1, List.take_length] at d5
      exact k H5 E0 s5 hE d5
end
end L2.K07

set_option Elab.async false
set_option linter.all false
set_option maxRecDepth 100000
set_option maxHeartbeats 4000000
namespace L2.K07
open PySem PySem.Spec PyProof.Rows L2.Vx
open PySem.W (Frag)
/-! ### great numbers in a drawn plan -/
def FarR (l l' : Ln) : Prop := l' = l ∨ ∃ n m o m' o', l = .pt n m o ∧ l' = .pt n m' o' ∧ (∀ ns, AimOk m ns → AimOk m' ns) ∧ ∀ b, o' = some b → 0 ≤ b ∧ b ≤ 99
theorem okL_far : ∀ (ls ls' : List Ln) (ns : List Str) (nw : Nat), ls'.length = ls.length → (∀ (i : Nat) l l', ls[i]? = some l → ls'[i]? = some l' → FarR l l') → okL ns nw ls → okL ns nw ls' ∧ nmsOf ls' = nmsOf ls
  | [], [], _, _, _, _, h => ⟨h, rfl⟩
  | [], _ :: _, _, _, h, _, _ => by cases h
  | _ :: _, [], _, _, h, _, _ => by cases h
  | l :: ls, l' :: ls', ns, nw, hl, hr, ok => by
    have h0 := hr 0 l l' rfl rfl
    have ht : ∀ (i : Nat) a b, ls[i]? = some a → ls'[i]? = some b → FarR a b := fun i a b x y => hr (i + 1) a b x y
    rcases h0 with rfl | ⟨n, m, o, m', o', rfl, rfl, hm, ho⟩
    · cases l' with
      | pt n m o =>
        obtain ⟨a, b⟩ := okL_far ls ls' (ns ++ [n]) nw (Nat.succ.inj hl) ht ok.2
        exact ⟨⟨ok.1, a⟩, congrArg (n :: ·) b⟩
      | wl x y =>
        obtain ⟨a, b⟩ := okL_far ls ls' ns (nw + 1) (Nat.succ.inj hl) ht ok.2
        exact ⟨⟨ok.1, a⟩, b⟩
    · obtain ⟨a, b⟩ := okL_far ls ls' (ns ++ [n]) nw (Nat.succ.inj hl) ht ok.2
      exact ⟨⟨⟨ok.1.1, ok.1.2.1, hm ns ok.1.2.2.1, ho, ok.1.2.2.2.2⟩, a⟩, congrArg (n :: ·) b⟩
section
variable {P : Program} {w : World} {K : Frag} {mg : Str → Option Value} {bs : Heap}
def spFar (K : Frag) : Sp := fun vs H Q _ => ∃ (p D R : Addr) (ps : List Addr) (ls : List Ln) (h k : Int), vs = [.ref p, .ref D] ∧ H D = some (.dK (lrD h R)) ∧ D ≠ p ∧ R ≠ p ∧ H R = some (.lst (ps.map V.ref)) ∧ LnsAt H ps ls ∧ okL [] 0 ls ∧ 0 ≤ k ∧ k < 700000 ∧ Pot H p k ∧
  ∀ H' D' R' ps' ls' h', But p H H' → Pot H' p (k + 40) → H D' = none → H R' = none → H' D' = some (.dK (lrD h' R')) → H' R' = some (.lst (ps'.map V.ref)) → LnsAt H' ps' ls' → okL [] 0 ls' → nmsOf ls' = nmsOf ls → 0 ≤ h' → h' ≤ 99 → Q (.ref D') H'
theorem scFar : FnScope ["pot", "lore", "lines", "line", "aim"] ["pot", "lore"] (defScope sFar) := ⟨rfl, rfl, rfl, by decide +kernel, rfl, by decide +kernel, by decide +kernel⟩
theorem ok_far {f fT fO : Addr} {fd fdT fdO : FuncData} (FP : FD K "_law_far" sFar f fd) (F : Dx mg) (FT : FD K "_law_take" sTake fT fdT) (gT : mg "_law_take" = some (.ref fT)) (bT : Binds K fdT ["pot", "upto"] [])
    (FO : FD K "_law_of" sOf fO fdO) (gO : mg "_law_of" = some (.ref fO)) (bO : Binds K fdO ["pot", "some"] []) : FnOk P w K mg bs CX0 3 f fd ["pot", "lore"] (spFar K) := by
  have sc := scFar
  have GO : FnOk P w K mg bs CX0 2 fO fdO ["pot", "some"] (spOf K) := ok_of FO F FT gT bT
  refine FP.ok scFar (fun vs H Q E h => ?_) (fun cdv A outer s H vs Q E hr h => ?_)
  · obtain ⟨p, D, R, ps, ls, h, k, rfl, _⟩ := h
    rfl
  · obtain ⟨p, D, R, ps, ls, h, t, rfl, hD, nD, nR, hR, hls, ok, t0, ht, hP, k⟩ := h
    have hu := hu_of hr
    refine ⟨_, pss_cons (ps_set (i := 2) sc.nd rfl (Or.inl rfl) (pe_lst pa_nil))
      (pss_cons (ps_for PassesOwn.never rfl (pi_list (pe_dget hu (pv 1) pe_str (fun _ _ => rfl))) (pg_name (i := 3) sc.nd rfl (Or.inl rfl))
        (pss_one (ps_if (PW.pt (pw_and (pt_cmpR op_eq (pe_ix ix_tup (pv 3) pe_int (fun _ _ => rfl)) pe_str (nomark _)) (pw_and1 (pt_cmpR op_ne (pe_ix ix_tup (pe_ix ix_tup (pv 3) pe_int (fun _ _ => rfl)) pe_int (fun _ _ => rfl)) pe_str (nomark _)))))
          (pss_cons (ps_set (i := 4) sc.nd rfl (Or.inl rfl) (pe_op op_catT (pe_slice sl_tup (pe_ix ix_tup (pv 3) pe_int (fun _ _ => rfl)) po_none (po_some (pe_un un_neg pe_int)))
              (pe_tup (pa_cons (pe_call GO hr (by rfl) gO FO.kp bO .nil pass0 (pa_cons (pv 0) (pa_cons (pe_lst (pa_cons pe_int (pa_cons (pe_un un_neg pe_int) (pa_cons pe_int (pa_cons pe_int pa_nil))))) pa_nil)))
                (pa_cons (pe_call GO hr (by rfl) gO FO.kp bO .nil pass0 (pa_cons (pv 0) (pa_cons (pe_lst (pa_cons (pe_un un_neg pe_int) (pa_cons pe_int (pa_cons pe_int pa_nil)))) pa_nil))) pa_nil)))))
          (pss_one (ps_expr (pe_bm PySem.F.plainAttrs_list PySem.F.slot_list_append PySem.F.type_list_append mt_append (pv 2) (pa_cons (pe_op op_catT (pe_slice sl_tup (pv 3) po_none (po_some pe_int))
              (pe_tup (pa_cons (pv 4) (pa_cons (pe_call GO hr (by rfl) gO FO.kp bO .nil pass0 (pa_cons (pv 0) (pa_cons (pe_lst (pa_cons pe_non (pa_cons pe_int (pa_cons pe_int (pa_cons pe_int pa_nil))))) pa_nil))) pa_nil)))) pa_nil)))))
          (pss_one (ps_expr (pe_bm PySem.F.plainAttrs_list PySem.F.slot_list_append PySem.F.type_list_append mt_append (pv 2) (pa_cons (pv 3) pa_nil)))))))
      (pss_one (ps_ret (pe_disp (pps_cons pe_str (pe_call GO hr (by rfl) gO FO.kp bO .nil pass0 (pa_cons (pv 0) (pa_cons (pe_lst (pa_cons pe_int (pa_cons pe_int (pa_cons pe_int pa_nil)))) pa_nil))) (pps_cons pe_str (pv 2) pps_nil)) (by rfl) (by rfl) (fun z => by cases z) (by decide))))), ?_⟩
    refine rd_seq (rd_set ?_)
    refine ⟨Nat.zero_le _, fun Ls hLs => ?_⟩
    have sL : Same H (upd H Ls (.lst [])) := same_new hLs
    have fL : upd H Ls (.lst []) Ls = some (.lst []) := upd_same
    have nLs : Ls ≠ p := hP.ne hLs
    have nRL : R ≠ Ls := ne_of_none hR hLs
    generalize upd H Ls (.lst []) = H1 at sL fL ⊢
    have hD1 := sL _ _ hD
    have hR1 := sL _ _ hR
    have hls1 := hls.map (tup_same sL)
    have hP1 := hP.same sL
    have lls := okL_len ok
    have tupB : ∀ {A B : Hp} {k0 : Int}, Pot A p k0 → But p A B → ∀ a vs, A a = some (.tup vs) → B a = some (.tup vs) := fun hp kb a vs e => kb _ _ (fun z => by rw [z] at e; obtain ⟨_, _, _, ep, _⟩ := hp; rw [ep] at e; cases e) e
    dsimp only
    refine rd_seq ?_
    refine ⟨_, rfl, D, .ref R, rfl, DGet.k (k := Sum.inr "lines") hD1, R, rfl, ⟨_, SqL.of hR1⟩, for_it (walk_list (K := K) (a := R) (xs := ps.map V.ref)) (fun i σ H' => ∃ (v3 v4 : Option V) (ps' : List Addr) (ls' : List Ln), σ = [some (.ref p), some (.ref D), some (.ref Ls), v3, v4] ∧ But p H H' ∧ H' R = some (.lst (ps.map V.ref)) ∧ LnsAt H' ps ls ∧ H' Ls = some (.lst (ps'.map V.ref)) ∧
      LnsAt H' ps' ls' ∧ ls'.length = i ∧ (∀ (j : Nat) l l', ls[j]? = some l → ls'[j]? = some l' → FarR l l') ∧ Pot H' p (t + 3 * i)) ⟨none, none, [], [], rfl, But.of sL, hR1, hls1, fL, ⟨rfl, fun i p l e => by simp at e⟩, rfl, fun j l l' _ e => by simp at e, hP1.mono (by omega)⟩ (fun i σ H' _ u => ?_) ?_ ?_⟩
    · obtain ⟨_, _, _, _, _, _, u, _⟩ := u
      exact SqL.of u
    · rintro i x σ H4 H5 hi ⟨v3, v4, ps', ls', rfl, k5, hR5, hls5, hLs5, hls', hl', hrel, hP5⟩ ⟨rfl, hx⟩
      have hi' : i < ps.length := by simpa using hi
      have hi2 : i < ls.length := by rw [← hls.1]; exact hi'
      rw [List.getElem?_map, List.getElem?_eq_getElem hi'] at hx
      cases hx
      have hl := hls5.2 i _ _ (List.getElem?_eq_getElem hi') (List.getElem?_eq_getElem hi2)
      have hget : ls[i]? = some ls[i] := List.getElem?_eq_getElem hi2
      generalize ls[i] = l at hl hget
      generalize ps[i] = p0 at hl ⊢
      have lps : ps'.length = i := by rw [hls'.1, hl']
      have relS : ∀ lf, FarR l lf → ∀ (j : Nat) a b, ls[j]? = some a → (ls' ++ [lf])[j]? = some b → FarR a b := fun lf hf j a b x y => by
        by_cases hj : j < ls'.length
        · rw [List.getElem?_append_left hj] at y
          exact hrel j a b x y
        · rw [List.getElem?_append_right (by omega)] at y
          cases hk : j - ls'.length with
          | zero =>
            rw [hk] at y
            cases y
            have : j = i := by omega
            rw [this, hget] at x
            cases x
            exact hf
          | succ n => rw [hk] at y; simp at y
      -- something is put at the end
      have put : ∀ (σ3 σ4 : Option V) (T : Addr) (lf : Ln) (Hz : Hp), But p H5 Hz → LnAt Hz T lf → FarR l lf → Pot Hz p (t + 3 * i + 3) → ∃ (v3 v4 : Option V) (ps2 : List Addr) (ls2 : List Ln), ([some (.ref p), some (.ref D), some (.ref Ls), σ3, σ4] : St) = [some (.ref p), some (.ref D), some (.ref Ls), v3, v4] ∧
          But p H (upd Hz Ls (.lst (ps'.map V.ref ++ [V.ref T]))) ∧ (upd Hz Ls (.lst (ps'.map V.ref ++ [V.ref T]))) R = some (.lst (ps.map V.ref)) ∧ LnsAt (upd Hz Ls (.lst (ps'.map V.ref ++ [V.ref T]))) ps ls ∧ (upd Hz Ls (.lst (ps'.map V.ref ++ [V.ref T]))) Ls = some (.lst (ps2.map V.ref)) ∧
          LnsAt (upd Hz Ls (.lst (ps'.map V.ref ++ [V.ref T]))) ps2 ls2 ∧ ls2.length = i + 1 ∧ (∀ (j : Nat) l l', ls[j]? = some l → ls2[j]? = some l' → FarR l l') ∧ Pot (upd Hz Ls (.lst (ps'.map V.ref ++ [V.ref T]))) p (t + 3 * ((i + 1 : Nat) : Int)) := by
        intro σ3 σ4 T lf Hz kz hT hf hPz
        have hLz := kz _ _ nLs hLs5
        have em : ps'.map V.ref ++ [V.ref T] = (ps' ++ [T]).map V.ref := by rw [List.map_append]; rfl
        rw [em]
        refine ⟨σ3, σ4, ps' ++ [T], ls' ++ [lf], rfl, (k5.trans kz).mut hLs, (upd_ne nRL).trans (kz _ _ nR hR5), (hls5.map (tupB hP5 kz)).map (tup_upd hLz), upd_same, snoc_at ((hls'.map (tupB hP5 kz)).map (tup_upd hLz)) (hT.map (tup_upd hLz)), by rw [List.length_append]; show ls'.length + 1 = i + 1; omega, relS lf hf, ?_⟩
        obtain ⟨a1, b1, c1, e, r1⟩ := hPz.mono (by omega : t + 3 * i + 3 ≤ t + 3 * ((i + 1 : Nat) : Int))
        exact ⟨a1, b1, c1, (upd_ne (Ne.symm nLs)).trans e, r1⟩
      have sizeP : (ps'.map V.ref).length < sizeLine := Nat.lt_of_le_of_lt (by rw [List.length_map, lps]; omega : (ps'.map V.ref).length ≤ 100) (by decide)
      refine rd_if ?_
      cases l with
      | wl x y =>
        refine ⟨_, rfl, p0, _, 0, .str "wall", rfl, rfl, SqT.of hl, rfl, rfl, _, rfl, ?_⟩
        refine Eq.mpr (if_neg (by decide +kernel)) ?_
        refine Eq.mpr (if_neg Bool.false_ne_true) ?_
        refine ⟨_, rfl, .inl ⟨rfl, _, SqL.of hLs5⟩, _, rfl, Ls, _, _, rfl, rfl, hLs5, sizeP, ?_⟩
        exact put _ _ p0 _ H5 (But.refl _ _) hl (.inl rfl) (hP5.mono (by omega))
      | pt n m o =>
        have hl0 := hl
        obtain ⟨q, e, eq⟩ := hl0
        refine ⟨_, rfl, p0, _, 0, .str "point", rfl, rfl, SqT.of e, rfl, rfl, _, rfl, ?_⟩
        refine Eq.mpr (if_pos (decide_eq_true rfl)) ?_
        have g1 : ∀ x ∈ ([999, -999, 100, 0] : List Int), x ∈ numsL := by decide
        have g2 : ∀ x ∈ ([-999, 998, 7] : List Int), x ∈ numsL := by decide
        cases m with
        | cross a0 b0 =>
          refine ⟨_, rfl, p0, _, 2, .ref q, rfl, rfl, SqT.of e, rfl, q, _, 0, .str "cross", rfl, rfl, SqT.of eq, rfl, rfl, _, rfl, ?_⟩
          refine Eq.mpr (if_neg (by decide +kernel)) ?_
          refine ⟨_, rfl, .inl ⟨rfl, _, SqL.of hLs5⟩, _, rfl, Ls, _, _, rfl, rfl, hLs5, sizeP, ?_⟩
          exact put _ _ p0 _ H5 (But.refl _ _) hl (.inl rfl) (hP5.mono (by omega))
        | «at» x y =>
          refine ⟨_, rfl, p0, _, 2, .ref q, rfl, rfl, SqT.of e, rfl, q, _, 0, .str "at", rfl, rfl, SqT.of eq, rfl, rfl, _, rfl, ?_⟩
          refine Eq.mpr (if_pos (by decide +kernel)) ?_
          refine rd_seq (rd_set ?_)
          refine ⟨_, rfl, p0, _, 2, .ref q, rfl, rfl, SqT.of e, rfl, 2, rfl, _, rfl, q, _, rfl, SqT.of eq, (fun z => absurd z.2 (show ¬ HT.sIx 3 3 (some (-2)) = 3 by decide)), fun T1 hT1 => ?_⟩
          have s1 : Same H5 (upd H5 T1 (.tup [.str "at"])) := same_new hT1
          have f1 : upd H5 T1 (.tup [.str "at"]) T1 = some (.tup [.str "at"]) := upd_same
          have nT1 := hP5.ne hT1
          have hP6 := hP5.same s1
          have k56 := But.of (p := p) s1
          change tTup _ _ (upd H5 T1 (.tup [.str "at"])) _
          generalize upd H5 T1 (.tup [.str "at"]) = H6 at s1 f1 hP6 k56 ⊢
          refine ⟨_, rfl, 999, rfl, (by exact (by decide : 4 ≤ sizeLine)), fun L1 hL1 => ?_⟩
          refine ⟨p, L1, [.int 999, .int (-999), .int 100, .int 0], t + 3 * i, rfl, hP6.ne hL1, SqL.of upd_same, by decide, by decide, by omega, hP6.same (same_new hL1), fun H7 vx k7 hP7 hvx => ?_⟩
          have k67 := (But.of (p := p) (same_new (o := .lst [.int 999, .int (-999), .int 100, .int 0]) hL1)).trans k7
          obtain ⟨x', hx1, rfl⟩ := List.mem_map.mp (show vx ∈ ([999, -999, 100, 0] : List Int).map V.int from hvx)
          refine ⟨_, rfl, 999, rfl, (by exact (by decide : 3 ≤ sizeLine)), fun L2 hL2 => ?_⟩
          refine ⟨p, L2, [.int (-999), .int 998, .int 7], t + 3 * i + 1, rfl, hP7.ne hL2, SqL.of upd_same, by decide, by decide, by omega, hP7.same (same_new hL2), fun H8 vy k8 hP8 hvy => ?_⟩
          have k78 := (But.of (p := p) (same_new (o := .lst [.int (-999), .int 998, .int 7]) hL2)).trans k8
          obtain ⟨y', hy1, rfl⟩ := List.mem_map.mp (show vy ∈ ([-999, 998, 7] : List Int).map V.int from hvy)
          refine ⟨(by exact (by decide : 2 ≤ sizeLine)), fun T2 hT2 => ?_⟩
          have s2 : Same H8 (upd H8 T2 (.tup [.int x', .int y'])) := same_new hT2
          have f2 : upd H8 T2 (.tup [.int x', .int y']) T2 = some (.tup [.int x', .int y']) := upd_same
          have f12 := s2 _ _ ((k67.trans k78) _ _ nT1 f1)
          have k59 := (k56.trans (k67.trans k78)).trans (But.of (p := p) s2)
          have hP9 := hP8.same s2
          generalize upd H8 T2 (.tup [.int x', .int y']) = H9 at s2 f2 f12 k59 hP9 ⊢
          refine ⟨T1, T2, _, _, rfl, rfl, SqT.of f12, SqT.of f2, (fun z => by cases z), (by exact (by decide : 3 ≤ sizeLine)), (fun z => by cases z), fun _ T3 hT3 => ?_⟩
          have s3 : Same H9 (upd H9 T3 (.tup ([.str "at"] ++ [.int x', .int y']))) := same_new hT3
          have f3 : upd H9 T3 (.tup ([.str "at"] ++ [.int x', .int y'])) T3 = some (.tup (aimV (.at x' y'))) := upd_same
          have k5a := k59.trans (But.of (p := p) s3)
          have hPa : Pot (upd H9 T3 (.tup ([.str "at"] ++ [.int x', .int y']))) p (t + 3 * i + 2) := (hP9.same s3).mono (by omega)
          generalize upd H9 T3 (.tup ([.str "at"] ++ [.int x', .int y'])) = Ha at s3 f3 k5a hPa ⊢
          dsimp only
          refine ⟨_, rfl, .inl ⟨rfl, _, SqL.of (k5a _ _ nLs hLs5)⟩, _, rfl, _, rfl, p0, _, rfl, SqT.of (tupB hP5 k5a _ _ e), (fun z => absurd z.2 (show ¬ HT.sIx 4 4 (some 2) = 4 by decide)), fun T4 hT4 => ?_⟩
          have s4 : Same Ha (upd Ha T4 (.tup [.str "point", .str n])) := same_new hT4
          have f4 : upd Ha T4 (.tup [.str "point", .str n]) T4 = some (.tup [.str "point", .str n]) := upd_same
          have nT4 := hPa.ne hT4
          have hPb := hPa.same s4
          have f34 := s4 _ _ f3
          change tTup _ _ (upd Ha T4 (.tup [.str "point", .str n])) _
          generalize upd Ha T4 (.tup [.str "point", .str n]) = Hb at s4 f4 hPb f34 ⊢
          refine ⟨_, rfl, _, rfl, (by exact (by decide : 4 ≤ sizeLine)), fun L3 hL3 => ?_⟩
          refine ⟨p, L3, [.non, .int 99, .int 0, .int 10], t + 3 * i + 2, rfl, hPb.ne hL3, SqL.of upd_same, by decide, by decide, by omega, hPb.same (same_new hL3), fun Hc vo kc hPc hvo => ?_⟩
          have kbc := (But.of (p := p) (same_new (o := .lst [.non, .int 99, .int 0, .int 10]) hL3)).trans kc
          obtain ⟨o', rfl, ho'⟩ : ∃ o' : Option Int, vo = optV o' ∧ ∀ b, o' = some b → 0 ≤ b ∧ b ≤ 99 := by
            simp only [List.mem_cons, List.not_mem_nil, or_false] at hvo
            rcases hvo with rfl | rfl | rfl | rfl
            · exact ⟨none, rfl, fun b e => by cases e⟩
            · exact ⟨some 99, rfl, fun b e => by cases e; decide⟩
            · exact ⟨some 0, rfl, fun b e => by cases e; decide⟩
            · exact ⟨some 10, rfl, fun b e => by cases e; decide⟩
          refine ⟨(by exact (by decide : 2 ≤ sizeLine)), fun T5 hT5 => ?_⟩
          have s5' : Same Hc (upd Hc T5 (.tup [.ref T3, optV o'])) := same_new hT5
          have f5' : upd Hc T5 (.tup [.ref T3, optV o']) T5 = some (.tup [.ref T3, optV o']) := upd_same
          have f45 := s5' _ _ (kbc _ _ nT4 f4)
          have f35 := s5' _ _ (tupB hPb kbc _ _ f34)
          have kad := ((But.of (p := p) s4).trans kbc).trans (But.of s5')
          have hPd := hPc.same s5'
          generalize upd Hc T5 (.tup [.ref T3, optV o']) = Hd at s5' f5' f45 f35 kad hPd ⊢
          refine ⟨T4, T5, _, _, rfl, rfl, SqT.of f45, SqT.of f5', (fun z => by cases z), (by exact (by decide : 4 ≤ sizeLine)), (fun z => by cases z), fun _ T6 hT6 => ?_⟩
          have s6' : Same Hd (upd Hd T6 (.tup ([.str "point", .str n] ++ [.ref T3, optV o']))) := same_new hT6
          have f6' : upd Hd T6 (.tup ([.str "point", .str n] ++ [.ref T3, optV o'])) T6 = some (.tup [.str "point", .str n, .ref T3, optV o']) := upd_same
          have kae := kad.trans (But.of (p := p) s6')
          have f36 := s6' _ _ f35
          have hPe := hPd.same s6'
          generalize upd Hd T6 (.tup ([.str "point", .str n] ++ [.ref T3, optV o'])) = He' at s6' f6' kae f36 hPe ⊢
          have k5e := k5a.trans kae
          refine ⟨Ls, _, _, rfl, rfl, k5e _ _ nLs hLs5, sizeP, ?_⟩
          exact put _ _ T6 (.pt n (Aim.at x' y') o') He' k5e ⟨T3, f6', f36⟩ (.inr ⟨n, _, o, Aim.at x' y', o', rfl, rfl, fun ns hm => ⟨g1 _ hx1, g2 _ hy1⟩, ho'⟩) (hPe.mono (by omega))
        | «by» a0 x y =>
          refine ⟨_, rfl, p0, _, 2, .ref q, rfl, rfl, SqT.of e, rfl, q, _, 0, .str "by", rfl, rfl, SqT.of eq, rfl, rfl, _, rfl, ?_⟩
          refine Eq.mpr (if_pos (by decide +kernel)) ?_
          refine rd_seq (rd_set ?_)
          refine ⟨_, rfl, p0, _, 2, .ref q, rfl, rfl, SqT.of e, rfl, 2, rfl, _, rfl, q, _, rfl, SqT.of eq, (fun z => absurd z.2 (show ¬ HT.sIx 4 4 (some (-2)) = 4 by decide)), fun T1 hT1 => ?_⟩
          have s1 : Same H5 (upd H5 T1 (.tup [.str "by", .str a0])) := same_new hT1
          have f1 : upd H5 T1 (.tup [.str "by", .str a0]) T1 = some (.tup [.str "by", .str a0]) := upd_same
          have nT1 := hP5.ne hT1
          have hP6 := hP5.same s1
          have k56 := But.of (p := p) s1
          change tTup _ _ (upd H5 T1 (.tup [.str "by", .str a0])) _
          generalize upd H5 T1 (.tup [.str "by", .str a0]) = H6 at s1 f1 hP6 k56 ⊢
          refine ⟨_, rfl, 999, rfl, (by exact (by decide : 4 ≤ sizeLine)), fun L1 hL1 => ?_⟩
          refine ⟨p, L1, [.int 999, .int (-999), .int 100, .int 0], t + 3 * i, rfl, hP6.ne hL1, SqL.of upd_same, by decide, by decide, by omega, hP6.same (same_new hL1), fun H7 vx k7 hP7 hvx => ?_⟩
          have k67 := (But.of (p := p) (same_new (o := .lst [.int 999, .int (-999), .int 100, .int 0]) hL1)).trans k7
          obtain ⟨x', hx1, rfl⟩ := List.mem_map.mp (show vx ∈ ([999, -999, 100, 0] : List Int).map V.int from hvx)
          refine ⟨_, rfl, 999, rfl, (by exact (by decide : 3 ≤ sizeLine)), fun L2 hL2 => ?_⟩
          refine ⟨p, L2, [.int (-999), .int 998, .int 7], t + 3 * i + 1, rfl, hP7.ne hL2, SqL.of upd_same, by decide, by decide, by omega, hP7.same (same_new hL2), fun H8 vy k8 hP8 hvy => ?_⟩
          have k78 := (But.of (p := p) (same_new (o := .lst [.int (-999), .int 998, .int 7]) hL2)).trans k8
          obtain ⟨y', hy1, rfl⟩ := List.mem_map.mp (show vy ∈ ([-999, 998, 7] : List Int).map V.int from hvy)
          refine ⟨(by exact (by decide : 2 ≤ sizeLine)), fun T2 hT2 => ?_⟩
          have s2 : Same H8 (upd H8 T2 (.tup [.int x', .int y'])) := same_new hT2
          have f2 : upd H8 T2 (.tup [.int x', .int y']) T2 = some (.tup [.int x', .int y']) := upd_same
          have f12 := s2 _ _ ((k67.trans k78) _ _ nT1 f1)
          have k59 := (k56.trans (k67.trans k78)).trans (But.of (p := p) s2)
          have hP9 := hP8.same s2
          generalize upd H8 T2 (.tup [.int x', .int y']) = H9 at s2 f2 f12 k59 hP9 ⊢
          refine ⟨T1, T2, _, _, rfl, rfl, SqT.of f12, SqT.of f2, (fun z => by cases z), (by exact (by decide : 4 ≤ sizeLine)), (fun z => by cases z), fun _ T3 hT3 => ?_⟩
          have s3 : Same H9 (upd H9 T3 (.tup ([.str "by", .str a0] ++ [.int x', .int y']))) := same_new hT3
          have f3 : upd H9 T3 (.tup ([.str "by", .str a0] ++ [.int x', .int y'])) T3 = some (.tup (aimV (.by a0 x' y'))) := upd_same
          have k5a := k59.trans (But.of (p := p) s3)
          have hPa : Pot (upd H9 T3 (.tup ([.str "by", .str a0] ++ [.int x', .int y']))) p (t + 3 * i + 2) := (hP9.same s3).mono (by omega)
          generalize upd H9 T3 (.tup ([.str "by", .str a0] ++ [.int x', .int y'])) = Ha at s3 f3 k5a hPa ⊢
          dsimp only
          refine ⟨_, rfl, .inl ⟨rfl, _, SqL.of (k5a _ _ nLs hLs5)⟩, _, rfl, _, rfl, p0, _, rfl, SqT.of (tupB hP5 k5a _ _ e), (fun z => absurd z.2 (show ¬ HT.sIx 4 4 (some 2) = 4 by decide)), fun T4 hT4 => ?_⟩
          have s4 : Same Ha (upd Ha T4 (.tup [.str "point", .str n])) := same_new hT4
          have f4 : upd Ha T4 (.tup [.str "point", .str n]) T4 = some (.tup [.str "point", .str n]) := upd_same
          have nT4 := hPa.ne hT4
          have hPb := hPa.same s4
          have f34 := s4 _ _ f3
          change tTup _ _ (upd Ha T4 (.tup [.str "point", .str n])) _
          generalize upd Ha T4 (.tup [.str "point", .str n]) = Hb at s4 f4 hPb f34 ⊢
          refine ⟨_, rfl, _, rfl, (by exact (by decide : 4 ≤ sizeLine)), fun L3 hL3 => ?_⟩
          refine ⟨p, L3, [.non, .int 99, .int 0, .int 10], t + 3 * i + 2, rfl, hPb.ne hL3, SqL.of upd_same, by decide, by decide, by omega, hPb.same (same_new hL3), fun Hc vo kc hPc hvo => ?_⟩
          have kbc := (But.of (p := p) (same_new (o := .lst [.non, .int 99, .int 0, .int 10]) hL3)).trans kc
          obtain ⟨o', rfl, ho'⟩ : ∃ o' : Option Int, vo = optV o' ∧ ∀ b, o' = some b → 0 ≤ b ∧ b ≤ 99 := by
            simp only [List.mem_cons, List.not_mem_nil, or_false] at hvo
            rcases hvo with rfl | rfl | rfl | rfl
            · exact ⟨none, rfl, fun b e => by cases e⟩
            · exact ⟨some 99, rfl, fun b e => by cases e; decide⟩
            · exact ⟨some 0, rfl, fun b e => by cases e; decide⟩
            · exact ⟨some 10, rfl, fun b e => by cases e; decide⟩
          refine ⟨(by exact (by decide : 2 ≤ sizeLine)), fun T5 hT5 => ?_⟩
          have s5' : Same Hc (upd Hc T5 (.tup [.ref T3, optV o'])) := same_new hT5
          have f5' : upd Hc T5 (.tup [.ref T3, optV o']) T5 = some (.tup [.ref T3, optV o']) := upd_same
          have f45 := s5' _ _ (kbc _ _ nT4 f4)
          have f35 := s5' _ _ (tupB hPb kbc _ _ f34)
          have kad := ((But.of (p := p) s4).trans kbc).trans (But.of s5')
          have hPd := hPc.same s5'
          generalize upd Hc T5 (.tup [.ref T3, optV o']) = Hd at s5' f5' f45 f35 kad hPd ⊢
          refine ⟨T4, T5, _, _, rfl, rfl, SqT.of f45, SqT.of f5', (fun z => by cases z), (by exact (by decide : 4 ≤ sizeLine)), (fun z => by cases z), fun _ T6 hT6 => ?_⟩
          have s6' : Same Hd (upd Hd T6 (.tup ([.str "point", .str n] ++ [.ref T3, optV o']))) := same_new hT6
          have f6' : upd Hd T6 (.tup ([.str "point", .str n] ++ [.ref T3, optV o'])) T6 = some (.tup [.str "point", .str n, .ref T3, optV o']) := upd_same
          have kae := kad.trans (But.of (p := p) s6')
          have f36 := s6' _ _ f35
          have hPe := hPd.same s6'
          generalize upd Hd T6 (.tup ([.str "point", .str n] ++ [.ref T3, optV o'])) = He' at s6' f6' kae f36 hPe ⊢
          have k5e := k5a.trans kae
          refine ⟨Ls, _, _, rfl, rfl, k5e _ _ nLs hLs5, sizeP, ?_⟩
          exact put _ _ T6 (.pt n (Aim.by a0 x' y') o') He' k5e ⟨T3, f6', f36⟩ (.inr ⟨n, _, o, Aim.by a0 x' y', o', rfl, rfl, fun ns hm => ⟨hm.1, g1 _ hx1, g2 _ hy1⟩, ho'⟩) (hPe.mono (by omega))
    · rintro σ H4 ⟨v3, v4, ps', ls', rfl, k5, hR5, hls5, hLs5, hls', hl', hrel, hP5⟩
      rw [List.length_map, hls.1] at hl' hP5
      obtain ⟨ok', nm'⟩ := okL_far ls ls' [] 0 hl' hrel ok
      refine fun E0 hE0 => ?_
      have sD : Same H4 (upd H4 E0 (.dK [])) := same_new hE0
      have fD : upd H4 E0 (.dK []) E0 = some (.dK []) := upd_same
      have nEp : E0 ≠ p := hP5.ne hE0
      have hE00 : H E0 = none := k5.free hE0 hP5.some.choose_spec
      have r5 := sD _ _ hLs5
      have nLE : Ls ≠ E0 := ne_of_none hLs5 hE0
      have hls6 := hls'.map (tup_same sD)
      have hP6 := hP5.same sD
      have k6 := k5.trans (But.of sD)
      generalize upd H4 E0 (.dK []) = H6 at sD fD r5 hls6 hP6 k6 ⊢
      refine ⟨_, rfl, (by exact (by decide : 3 ≤ sizeLine)), fun L1 hL1 => ?_⟩
      refine ⟨p, L1, [.int 99, .int 10, .int 0], t + 3 * (ls.length : Nat), rfl, hP6.ne hL1, SqL.of upd_same, by decide, by decide, by omega, hP6.same (same_new hL1), fun H7 vh k7 hP7 hvh => ?_⟩
      have k67 := (But.of (p := p) (same_new (o := .lst [.int 99, .int 10, .int 0]) hL1)).trans k7
      obtain ⟨h', hh, rfl⟩ := List.mem_map.mp (show vh ∈ ([99, 10, 0] : List Int).map V.int from hvh)
      have hh2 : 0 ≤ h' ∧ h' ≤ 99 := by
        simp only [List.mem_cons, List.not_mem_nil, or_false] at hh
        omega
      have fD7 := k67 _ _ nEp fD
      refine ⟨_, rfl, fD7, [(.inr "hand", .int h'), (.inr "lines", .ref Ls)], rfl, (by simp), ?_⟩
      refine k _ E0 Ls ps' ls' h' ((k6.trans k67).mut hE00) ?_ hE00 hLs upd_same ((upd_ne nLE).trans (k67 _ _ nLs r5)) ?_ ok' nm' hh2.1 hh2.2
      · obtain ⟨a1, b1, c1, e, r1⟩ := hP7.mono (by omega : t + 3 * (ls.length : Int) + 1 ≤ t + 40)
        exact ⟨a1, b1, c1, (upd_ne (Ne.symm nEp)).trans e, r1⟩
      · exact (hls6.map (tupB hP6 k67)).map fun a vs e => (upd_ne (fun z => by rw [z, fD7] at e; cases e)).trans e
end
end L2.K07

set_option Elab.async false
set_option linter.all false
set_option maxRecDepth 100000
set_option maxHeartbeats 8000000
namespace L2.K07
open PySem PySem.Spec PyProof.Rows L2.Vx
open PySem.W (Frag)
open TL (tl)
/-! ### what a plan tells of itself, as data -/
def dOf : V → PyData
  | .str s => .str s
  | .int i => .int i
  | _ => .none
def dOkAll (ds : List PyData) : Bool := PyData.showableAll ds && (!PyData.hasDictAll ds && PyData.leavesShortAll 8 ds)
theorem dOk_tuple {ds : List PyData} (h : dOkAll ds = true) : dOk (.tuple ds) = true := by
  unfold dOk PyData.showable PyData.hasDict PyData.leavesShort
  exact h
theorem dOk_nil : dOkAll [] = true := rfl
theorem dOk_cons {d : PyData} {ds : List PyData} (h : dOk d = true) (h2 : dOkAll ds = true) : dOkAll (d :: ds) = true := by
  unfold dOk at h
  unfold dOkAll at h2 ⊢
  obtain ⟨a1, h⟩ := Bool.and_eq_true_iff.mp h
  obtain ⟨a2, a3⟩ := Bool.and_eq_true_iff.mp h
  obtain ⟨b1, h2⟩ := Bool.and_eq_true_iff.mp h2
  obtain ⟨b2, b3⟩ := Bool.and_eq_true_iff.mp h2
  unfold PyData.showableAll PyData.hasDictAll PyData.leavesShortAll
  rw [a1, a3, b1, b3, Bool.not_or, a2, b2]
  rfl
theorem dOk_str {x : Str} (h : ∀ c ∈ tl x, c < 16 ^ 8) : dOk (.str x) = true := by
  unfold dOk PyData.showable PyData.hasDict PyData.leavesShort
  rw [plain_all h]
  rfl
theorem dOk_int {i : Int} (h0 : -1000 < i) (h1 : i < 1000) : dOk (.int i) = true := by
  obtain ⟨a, b⟩ := int_ok h0 h1
  unfold dOk
  rw [a, b]
  rfl
def tD (z : Str) (n : Int) : PyData := .tuple [.str z, .int n]
theorem tD_ok {z : Str} {n : Int} (h : ∀ c ∈ tl z, c < 16 ^ 8) (hl : z.length ≤ 7000) (h0 : 0 ≤ n) (h9 : n ≤ 99) : shOk (tD z n) = true ∧ (tD z n).depth ≤ 60 ∧ (tD z n).shown.length ≤ sizeLine := by
  refine show_ok (dOk_tuple (dOk_cons (dOk_str h) (dOk_cons (dOk_int (by omega) (by omega)) dOk_nil))) ?_ ?_
  · unfold tD
    simp [PyData.depth, PyData.depthAll]
  · unfold tD
    simp only [PyData.bulk, PyData.bulkAll]
    have : z.cps.size = z.length := rfl
    omega
def aimD (m : Aim) (b : Int) : PyData := .tuple [.tuple ((aimV m).map dOf), .int b]
theorem aimD_ok {m : Aim} {ns : List Str} {b : Int} (h : AimOk m ns) (hns : ∀ u ∈ ns, u ∈ poolN) (h0 : 0 ≤ b) (h9 : b ≤ 99) : shOk (aimD m b) = true ∧ (aimD m b).depth ≤ 60 ∧ (aimD m b).shown.length ≤ sizeLine := by
  have p20 : ∀ u ∈ poolN, u.cps.size ≤ 20 := by decide +kernel
  have n1000 : ∀ x ∈ numsL, -1000 < x ∧ x < 1000 := by decide +kernel
  have w20 : ("at" : Str).cps.size ≤ 20 ∧ ("by" : Str).cps.size ≤ 20 ∧ ("cross" : Str).cps.size ≤ 20 := by decide +kernel
  obtain ⟨f1, f2, f3, f4, f5, f6⟩ := words_free
  have ib := dOk_int (i := b) (by omega) (by omega)
  cases m with
  | «at» x y =>
    obtain ⟨hx, hy⟩ := h
    refine show_ok (dOk_tuple (dOk_cons (dOk_tuple (dOk_cons (dOk_str f4.2.2) (dOk_cons (dOk_int (n1000 x hx).1 (n1000 x hx).2) (dOk_cons (dOk_int (n1000 y hy).1 (n1000 y hy).2) dOk_nil)))) (dOk_cons ib dOk_nil))) ?_ ?_
    · unfold aimD
      simp [PyData.depth, PyData.depthAll, aimV, dOf]
    · unfold aimD
      simp only [PyData.bulk, PyData.bulkAll, aimV, dOf, List.map_cons, List.map_nil]
      omega
  | «by» o x y =>
    obtain ⟨ho, hx, hy⟩ := h
    have := p20 o (hns o ho)
    refine show_ok (dOk_tuple (dOk_cons (dOk_tuple (dOk_cons (dOk_str f5.2.2) (dOk_cons (dOk_str (pool_free o (hns o ho)).2.2) (dOk_cons (dOk_int (n1000 x hx).1 (n1000 x hx).2) (dOk_cons (dOk_int (n1000 y hy).1 (n1000 y hy).2) dOk_nil))))) (dOk_cons ib dOk_nil))) ?_ ?_
    · unfold aimD
      simp [PyData.depth, PyData.depthAll, aimV, dOf]
    · unfold aimD
      simp only [PyData.bulk, PyData.bulkAll, aimV, dOf, List.map_cons, List.map_nil]
      omega
  | cross a c =>
    obtain ⟨ha, hc⟩ := h
    have := p20 a (hns a ha)
    have := p20 c (hns c hc)
    refine show_ok (dOk_tuple (dOk_cons (dOk_tuple (dOk_cons (dOk_str f6.2.2) (dOk_cons (dOk_str (pool_free a (hns a ha)).2.2) (dOk_cons (dOk_str (pool_free c (hns c hc)).2.2) dOk_nil)))) (dOk_cons ib dOk_nil))) ?_ ?_
    · unfold aimD
      simp [PyData.depth, PyData.depthAll, aimV, dOf]
    · unfold aimD
      simp only [PyData.bulk, PyData.bulkAll, aimV, dOf, List.map_cons, List.map_nil]
      omega
theorem aim_dd {K : Frag} {H : Hp} (m : Aim) : DdAll K H (aimV m) ((aimV m).map dOf) := by
  cases m with
  | «at» x y => exact .cons (.str _) (.cons (.int _) (.cons (.int _) .nil))
  | «by» o x y => exact .cons (.str _) (.cons (.str _) (.cons (.int _) (.cons (.int _) .nil)))
  | cross a b => exact .cons (.str _) (.cons (.str _) (.cons (.str _) .nil))
def wallD (x : Str × Str) : PyData := .tuple [.str x.1, .str x.2]
def pwD (ns : List Str) (wl : List (Str × Str)) : PyData := .tuple [.tuple (ns.map PyData.str), .tuple (wl.map wallD)]
theorem strs_okD : ∀ ns : List Str, (∀ u ∈ ns, u ∈ poolN) → dOkAll (ns.map PyData.str) = true ∧ PyData.bulkAll (ns.map PyData.str) ≤ 21 * ns.length
  | [], _ => ⟨rfl, Nat.zero_le _⟩
  | u :: ns, h => by
    have p20 : ∀ u ∈ poolN, u.cps.size ≤ 20 := by decide +kernel
    obtain ⟨a, b⟩ := strs_okD ns fun x hx => h x (List.mem_cons_of_mem _ hx)
    have hu := h u (List.mem_cons_self ..)
    refine ⟨dOk_cons (dOk_str (pool_free u hu).2.2) a, ?_⟩
    rw [List.map_cons, List.length_cons]
    unfold PyData.bulkAll PyData.bulk
    have := p20 u hu
    omega
theorem walls_okD : ∀ wl : List (Str × Str), (∀ x ∈ wl, x.1 ∈ poolN ∧ x.2 ∈ poolN) → dOkAll (wl.map wallD) = true ∧ PyData.bulkAll (wl.map wallD) ≤ 50 * wl.length ∧ PyData.depthAll (wl.map wallD) ≤ 1
  | [], _ => ⟨rfl, Nat.zero_le _, Nat.zero_le _⟩
  | u :: wl, h => by
    have p20 : ∀ u ∈ poolN, u.cps.size ≤ 20 := by decide +kernel
    obtain ⟨a, b, c⟩ := walls_okD wl fun x hx => h x (List.mem_cons_of_mem _ hx)
    obtain ⟨h1, h2⟩ := h u (List.mem_cons_self ..)
    have q1 := p20 _ h1
    have q2 := p20 _ h2
    have e : (u :: wl).map wallD = PyData.tuple [.str u.1, .str u.2] :: wl.map wallD := rfl
    rw [e, List.length_cons]
    generalize wl.map wallD = L at a b c ⊢
    refine ⟨dOk_cons (dOk_tuple (dOk_cons (dOk_str (pool_free _ h1).2.2) (dOk_cons (dOk_str (pool_free _ h2).2.2) dOk_nil))) a, ?_, ?_⟩
    · simp only [PyData.bulk, PyData.bulkAll]
      omega
    · simp only [PyData.depth, PyData.depthAll]
      omega
theorem pwD_ok {ns : List Str} {wl : List (Str × Str)} (h1 : ∀ u ∈ ns, u ∈ poolN) (h2 : ∀ x ∈ wl, x.1 ∈ poolN ∧ x.2 ∈ poolN) (l1 : ns.length ≤ 6) (l2 : wl.length ≤ 4) : shOk (pwD ns wl) = true ∧ (pwD ns wl).depth ≤ 60 ∧ (pwD ns wl).shown.length ≤ sizeLine := by
  obtain ⟨a1, a2⟩ := strs_okD ns h1
  obtain ⟨b1, b2, b3⟩ := walls_okD wl h2
  have a3 := depthAll ns
  unfold pwD
  generalize ns.map PyData.str = A at a1 a2 a3
  generalize wl.map wallD = B at b1 b2 b3
  refine show_ok (dOk_tuple (dOk_cons (dOk_tuple a1) (dOk_cons (dOk_tuple b1) dOk_nil))) ?_ ?_
  · simp only [PyData.depth, PyData.depthAll]
    omega
  · simp only [PyData.bulk, PyData.bulkAll]
    omega
theorem ws_dd {K : Frag} {H : Hp} : ∀ {ps : List Addr} {wl : List (Str × Str)}, WsAt H ps wl → DdAll K H (ps.map V.ref) (wl.map wallD)
  | [], [], _ => .nil
  | [], _ :: _, h => by cases h.1
  | _ :: _, [], h => by cases h.1
  | p :: ps, r :: rs, h => .cons (.tup (SqT.of (h.2 0 p r rfl rfl)) (.cons (.str _) (.cons (.str _) .nil))) (ws_dd ⟨Nat.succ.inj h.1, fun i a b x y => h.2 (i + 1) a b x y⟩)
theorem strs_dd {K : Frag} {H : Hp} : ∀ ns : List Str, DdAll K H (ns.map V.str) (ns.map PyData.str)
  | [] => .nil
  | u :: ns => .cons (.str u) (strs_dd ns)
theorem okL_pool : ∀ (ls : List Ln) (ns : List Str) (nw : Nat), okL ns nw ls → (∀ u ∈ ns, u ∈ poolN) → (∀ u ∈ nmsOf ls, u ∈ poolN) ∧ ∀ x ∈ wlsOf ls, x.1 ∈ poolN ∧ x.2 ∈ poolN
  | [], _, _, _, _ => ⟨fun _ h => (by cases h), fun _ h => (by cases h)⟩
  | .pt n m o :: r, ns, nw, ok, hp => by
    obtain ⟨a, b⟩ := okL_pool r (ns ++ [n]) nw ok.2 (fun u hu => by
      rcases List.mem_append.mp hu with hu | hu
      · exact hp u hu
      · rw [List.mem_singleton.mp hu]; exact ok.1.1)
    refine ⟨fun u hu => ?_, b⟩
    rcases List.mem_cons.mp (show u ∈ n :: nmsOf r from hu) with rfl | hu
    · exact ok.1.1
    · exact a u hu
  | .wl x y :: r, ns, nw, ok, hp => by
    obtain ⟨a, b⟩ := okL_pool r ns (nw + 1) ok.2 hp
    refine ⟨a, fun z hz => ?_⟩
    rcases List.mem_cons.mp (show z ∈ (x, y) :: wlsOf r from hz) with rfl | hz
    · exact ⟨hp _ ok.1.1, hp _ ok.1.2.1⟩
    · exact b z hz
/-- each point's line: its click, its aim and bound -/
theorem clk_find (h : Int) : ∀ (ls : List Ln) (ns : List Str) (nw : Nat) (wl : List (Str × Str)), okL ns nw ls → (∀ u ∈ ns, u ∈ poolN) → ∀ n m o, Ln.pt n m o ∈ ls → n ∉ ns ∧ (∃ ns2, AimOk m ns2 ∧ ∀ u ∈ ns2, u ∈ poolN) ∧ (∀ b, o = some b → 0 ≤ b ∧ b ≤ 99) ∧
    ∃ c, findC (.str n) (clksOf h wl ls) = some c ∧ c.aim = m ∧ c.bound = o.getD h
  | [], _, _, _, _, _, _, _, _, hm => by cases hm
  | .pt n' m' o' :: r, ns, nw, wl, ok, hp, n, m, o, hm => by
    have hp2 : ∀ u ∈ ns ++ [n'], u ∈ poolN := fun u hu => by
      rcases List.mem_append.mp hu with hu | hu
      · exact hp u hu
      · rw [List.mem_singleton.mp hu]; exact ok.1.1
    rcases List.mem_cons.mp hm with e | hm
    · cases e
      exact ⟨ok.1.2.1, ⟨ns, ok.1.2.2.1, hp⟩, ok.1.2.2.2.1, ⟨_, _, _, _⟩, if_pos rfl, rfl, rfl⟩
    · obtain ⟨a, b, c, cl, d1, d2, d3⟩ := clk_find h r (ns ++ [n']) nw wl ok.2 hp2 n m o hm
      refine ⟨fun q => a (List.mem_append_left _ q), b, c, cl, ?_, d2, d3⟩
      refine (if_neg (fun q => a ?_)).trans d1
      rw [show n = n' from Option.some.inj q]
      exact List.mem_append_right _ (List.mem_singleton.mpr rfl)
  | .wl x y :: r, ns, nw, wl, ok, hp, n, m, o, hm => by
    rcases List.mem_cons.mp hm with e | hm
    · cases e
    · exact clk_find h r ns (nw + 1) (wl ++ [(x, y)]) ok.2 hp n m o hm
end L2.K07

set_option Elab.async false
set_option linter.all false
set_option maxRecDepth 100000
set_option maxHeartbeats 4000000
namespace L2.K07
open PySem PySem.Spec PyProof.Rows L2.Vx
open PySem.W (Frag)
open LamX (CodeO Tabs TabS TabB ExtN LamS lamEnv lamCx lamS_by)
/-! ### what goes on, the tables aside, and p aside -/
def ExtB (p : Addr) (H H' : Hp) : Prop := ∀ b o, b ≠ p → H b = some o → (∀ ps : Array Value, o ≠ .tbl ps) → H' b = some o
theorem ExtB.of {p : Addr} {H H' : Hp} (b : But p H H') : ExtB p H H' := fun a o n e _ => b a o n e
theorem ExtB.ofN {p : Addr} {H H' : Hp} (b : ExtN H H') : ExtB p H H' := fun a o _ e n => b a o e n
theorem ExtB.trans {p : Addr} {A B C : Hp} (x : ExtB p A B) (y : ExtB p B C) : ExtB p A C := fun a o n e t => y a o n (x a o n e t) t
theorem ExtB.refl {p : Addr} {A : Hp} : ExtB p A A := fun _ _ _ e _ => e
theorem ExtN.tr {A B C : Hp} (x : ExtN A B) (y : ExtN B C) : ExtN A C := fun a o e t => y a o (x a o e t) t
theorem tabs_but {T : List (Addr × Str)} {p : Addr} {H H' : Hp} {k : Int} (t : Tabs T H) (hP : Pot H p k) (b : But p H H') : Tabs T H' := fun x hx => by
  obtain ⟨ps, h1, h2, h3⟩ := t x hx
  obtain ⟨o, c, d, ep, _⟩ := hP
  refine ⟨ps, b _ _ (fun z => by rw [z, ep] at h1; cases h1) h1, h2, fun pos cv hc => ?_⟩
  obtain ⟨q, e1, e2⟩ := h3 pos cv hc
  exact ⟨q, e1, b _ _ (fun z => by rw [z, ep] at e2; cases e2) e2⟩
theorem Pot.ext {p : Addr} {H H' : Hp} {k : Int} (h : Pot H p k) (e : ExtN H H') : Pot H' p k := by
  obtain ⟨o, b, c, ep, r⟩ := h
  exact ⟨o, b, c, e _ _ ep (fun _ z => by cases z), r⟩
theorem sql_ext {K : Frag} {H H' : Hp} {a : Addr} {xs : List V} (e : ExtN H H') (h : SqL K H a xs) : SqL K H' a xs := by
  rcases h with (h | ⟨o, h⟩) | h
  · exact .inl (.inl (e _ _ h (fun _ z => by cases z)))
  · exact .inl (.inr ⟨o, e _ _ h (fun _ z => by cases z)⟩)
  · exact .inr h
theorem sqt_ext {K : Frag} {H H' : Hp} {a : Addr} {xs : List V} (e : ExtN H H') (h : SqT K H a xs) : SqT K H' a xs := by
  rcases h with (h | ⟨o, h⟩) | h
  · exact .inl (.inl (e _ _ h (fun _ z => by cases z)))
  · exact .inl (.inr ⟨o, e _ _ h (fun _ z => by cases z)⟩)
  · exact .inr h
mutual
theorem dd_ext {K : Frag} {H H' : Hp} (e : ExtN H H') : ∀ {v : V} {d : PyData}, Dd K H v d → Dd K H' v d
  | _, _, .non => .non
  | _, _, .bl b => .bl b
  | _, _, .int i => .int i
  | _, _, .str x => .str x
  | _, _, .lst h a => .lst (sql_ext e h) (ddAll_ext e a)
  | _, _, .tup h a => .tup (sqt_ext e h) (ddAll_ext e a)
  | _, _, .dct h a => .dct (e _ _ h (fun _ z => by cases z)) (ddAll_ext e a)
theorem ddAll_ext {K : Frag} {H H' : Hp} (e : ExtN H H') : ∀ {v : List V} {d : List PyData}, DdAll K H v d → DdAll K H' v d
  | _, _, .nil => .nil
  | _, _, .cons a t => .cons (dd_ext e a) (ddAll_ext e t)
end
/-! ### data without dicts -/
mutual
def noD : PyData → Bool
  | .none | .bool _ | .int _ | .str _ => true
  | .list xs => noDs xs
  | .tuple xs => noDs xs
  | .dict _ => false
def noDs : List PyData → Bool
  | [] => true
  | x :: xs => noD x && noDs xs
end
mutual
theorem dd_dp {K : Frag} {H : Hp} : ∀ {v : V} {d : PyData}, Dd K H v d → noD d = true → Dp K H v d
  | _, _, .non, _ => .non
  | _, _, .bl b, _ => .bl b
  | _, _, .int i, _ => .int i
  | _, _, .str x, _ => .str x
  | _, _, .lst h a, n => .lst h (ddAll_dp a n)
  | _, _, .tup h a, n => .tup h (ddAll_dp a n)
theorem ddAll_dp {K : Frag} {H : Hp} : ∀ {v : List V} {d : List PyData}, DdAll K H v d → noDs d = true → DpAll K H v d
  | _, _, .nil, _ => .nil
  | _, _, .cons a t, n => .cons (dd_dp a (Bool.and_eq_true_iff.mp n).1) (ddAll_dp t (Bool.and_eq_true_iff.mp n).2)
end
/-! ### a is not b, of bools -/
theorem op_isnotB {X : Cx} : OpR X (compareOp .IsNot) (fun x y H Q => ∃ b c, x = .bl b ∧ y = .bl c ∧ Q (.bl (!decide (b = c))) H) := by
  intro pins s σ H x y v u Q I rx ry h
  obtain ⟨b, c, rfl, rfl, q⟩ := h
  cases (show v = Value.bool b from rx)
  cases (show u = Value.bool c from ry)
  refine wpAny_of_eq (a := Value.bool (!decide (b = c))) ?_ ⟨V.bl (!decide (b = c)), H, I, rfl, q⟩
  cases b <;> cases c <;> rfl
/-! ### a value that is asked for -/
def okD (d : PyData) : Bool := shOk d && (decide (d.depth ≤ 60) && (decide (d.shown.length ≤ 1000) && ((SeqAt.shaped d && noD d) || match d with | .dict _ => true | _ => false)))
end L2.K07

set_option Elab.async false
set_option linter.all false
set_option maxRecDepth 100000
set_option maxHeartbeats 8000000
namespace L2.K07
open PySem PySem.Spec PyProof.Rows L2.Vx
open PySem.W (Frag)
open LamX (CodeO Tabs TabS TabB ExtN LamS lamEnv lamCx lamS_by)
section
variable {X : Cx} {CX : CXT} {C g : Addr} {n : Nat} {sp : Sp} {E : XK}
def rNotInOwn (C : Addr) (sp : Sp) (E : XK) : R2 := fun x y H Q => ∃ a dx fs, y = .ref a ∧ H a = some (.ins C dx fs) ∧ sp [.ref a, x] H (fun r H' => ∃ b, r = .bl b ∧ Q (.bl (!b)) H') E
theorem op_notInOwn (hs : PySem.W.findIn X.K (.ref C) "__contains__" = some (some (.ref g))) (hf : PySem.W.isFn X.K (.ref g) = true) (F : FnR X.prog X.w X.K X.mg X.base CX n g sp) (hr : Room n X.A) (hx : Passes CX X E) :
    OpR X (compareOp .NotIn) (rNotInOwn C sp E) := by
  intro pins s σ H x y v u Q I rx ry h
  obtain ⟨a, dx, fs, rfl, ha, q⟩ := h
  cases (show u = Value.ref a from ry)
  obtain ⟨od, J⟩ := ins_at I ha
  obtain ⟨m, hF⟩ := I.fr
  refine PySem.W.notIn_K hF I.ok.mod.kin J hs hf (wpAny_mono (wpAny_call (run_fnR (us := [.ref a, v]) (vs := [.ref a, x]) F hr hx I (.cons rfl (.cons rx .nil)) q)) (fun w s' z => ?_) fun _ _ e => e)
  obtain ⟨z', H', I', rz, b, eb, qz⟩ := z
  subst eb
  cases (show w = Value.bool b from rz)
  exact wpAny_truthy_bool ⟨.bl (!b), H', I', rfl, qz⟩
end
/-! ### one plan, as it is told: the term of the body (its reading is left) -/
def qR : Str := ("_law_right" ++ ".<locals>." : Str) ++ "<lambda>"
theorem raw0 {P : Program} {w : World} {K : Frag} {mg : Str → Option Value} {base : Heap} {CX : CXT} {k : Nat} {f : Addr} {sp : Sp} {fd : FuncData} {ps : List Str} (F : FnOk P w K mg base CX k f fd ps sp) (b : Binds K fd ps []) : FnR P w K mg base CX k f sp := by
  have h := F.raw b .nil
  simp only [List.append_nil] at h
  exact h
structure FxBk7 (K : Frag) (B gL gH gG gE : Addr) : Prop where
  sL : PySem.W.findIn K (.ref B) "__len__" = some (some (.ref gL))
  fL : PySem.W.isFn K (.ref gL) = true
  sH : PySem.W.findIn K (.ref B) "__contains__" = some (some (.ref gH))
  fH : PySem.W.isFn K (.ref gH) = true
  sG : PySem.W.findIn K (.ref B) "__getitem__" = some (some (.ref gG))
  nG : PySem.W.fnIn K gG = true
  fG : PySem.W.isFn K (.ref gG) = true
  sE : PySem.W.findIn K (.ref B) (cmpInfo .Eq).2.1 = some (some (.ref gE))
  fE : PySem.W.isFn K (.ref gE) = true
  nfN : PySem.W.notFirst K B (.type "NoneType") = true
  nfS : PySem.W.notFirst K B (.type "str") = true
  nfB : PySem.W.notFirst K B (.ref B) = true
section
variable {P : Program} {w : World} {K : Frag} {mg : Str → Option Value} {bs : Heap}
structure FxRt7 (K : Frag) (mg : Str → Option Value) (B CN D fIN fB : Addr) : Prop where
  pm : FxPMk K mg B fB
  non : ErrT K CN fIN
  gNon : mg "NoPoint" = some (.ref CN)
  gDraw : mg "DrawError" = some (.ref D)
  exm : PySem.W.exmOne K (.ref CN) (.ref D) = some true
  kit : PySem.W.kitOne K (.ref CN) (.ref CN) = some true
  rep : mg "repr" = none
  len : mg "len" = none
  tup : mg "tuple" = none
  str : mg "str" = none
  isi : mg "isinstance" = none
theorem scRight : FnScope ["pot", "lore", "other", "text", "names", "plan", "walls", "told", "line", "odd", "value", "caught"] ["pot"] (defScope sRight) := ⟨rfl, rfl, rfl, by decide +kernel, rfl, by decide +kernel, by decide +kernel⟩
/-! ### what stands there while one plan is looked at -/
/-- what does not change -/
structure Sta7 (p R1 R2 N : Addr) (ls1 ls2 : List Ln) (h1 h2 : Int) : Prop where
  nR1 : R1 ≠ p
  nR2 : R2 ≠ p
  nN : N ≠ p
  ok1 : okL [] 0 ls1
  ok2 : okL [] 0 ls2
  a1 : 0 ≤ h1
  b1 : h1 ≤ 99
  a2 : 0 ≤ h2
  b2 : h2 ≤ 99
  e1 : ∃ n0 r, nmsOf ls1 = n0 :: r
  e2 : ∃ n0 r, nmsOf ls2 = n0 :: r
structure Lay7 (B D1 R1 D2 R2 N x : Addr) (ps1 ps2 : List Addr) (ls1 ls2 : List Ln) (h1 h2 : Int) (H : Hp) : Prop where
  d1 : H D1 = some (.dK (lrD h1 R1))
  r1 : H R1 = some (.lst (ps1.map V.ref))
  l1 : LnsAt H ps1 ls1
  d2 : H D2 = some (.dK (lrD h2 R2))
  r2 : H R2 = some (.lst (ps2.map V.ref))
  l2 : LnsAt H ps2 ls2
  nm : H N = some (.lst ((nmsOf ls1).map V.str))
  pl : PlanAt B H x (planText h1 ls1) h1 (clksOf h1 [] ls1) (wlsOf ls1)
theorem PlanAt.via {B : Addr} {H H' : Hp} {a : Addr} {z : Str} {h : Int} {cs : List Clk} {wl : List (Str × Str)} (p : PlanAt B H a z h cs wl) (ki : ∀ b d fs, H b = some (.ins B d fs) → H' b = some (.ins B d fs)) (kt : ∀ b vs, H b = some (.tup vs) → H' b = some (.tup vs)) : PlanAt B H' a z h cs wl := by
  obtain ⟨dx, pt, wt, ct, ps, qs, h1, h2, h3, h4, h5, h6⟩ := p
  exact ⟨dx, pt, wt, ct, ps, qs, ki _ _ _ h1, kt _ _ h2, kt _ _ h3, kt _ _ h4, h5.map kt, h6.map kt⟩
theorem PlanAt.ext {B : Addr} {H H' : Hp} {a : Addr} {z : Str} {h : Int} {cs : List Clk} {wl : List (Str × Str)} (p : PlanAt B H a z h cs wl) (e : ExtN H H') : PlanAt B H' a z h cs wl :=
  p.via (fun b d fs q => e _ _ q (fun _ z => by cases z)) (fun b vs q => e _ _ q (fun _ z => by cases z))
theorem PlanAt.but {B p : Addr} {H H' : Hp} {a : Addr} {z : Str} {h k : Int} {cs : List Clk} {wl : List (Str × Str)} (l : PlanAt B H a z h cs wl) (hP : Pot H p k) (b : But p H H') : PlanAt B H' a z h cs wl := by
  obtain ⟨o, c, d, ep, _⟩ := hP
  exact l.via (fun y d fs q => b _ _ (fun z => by rw [z, ep] at q; cases q) q) (fun y vs q => b _ _ (fun z => by rw [z, ep] at q; cases q) q)
theorem Lay7.ext {B D1 R1 D2 R2 N x : Addr} {ps1 ps2 : List Addr} {ls1 ls2 : List Ln} {h1 h2 : Int} {H H' : Hp} (l : Lay7 B D1 R1 D2 R2 N x ps1 ps2 ls1 ls2 h1 h2 H) (e : ExtN H H') : Lay7 B D1 R1 D2 R2 N x ps1 ps2 ls1 ls2 h1 h2 H' :=
  have k : ∀ a o, H a = some o → (∀ ps : Array Value, o ≠ .tbl ps) → H' a = some o := e
  ⟨k _ _ l.d1 (fun _ z => by cases z), k _ _ l.r1 (fun _ z => by cases z), l.l1.map (fun p vs q => k _ _ q (fun _ z => by cases z)), k _ _ l.d2 (fun _ z => by cases z), k _ _ l.r2 (fun _ z => by cases z), l.l2.map (fun p vs q => k _ _ q (fun _ z => by cases z)), k _ _ l.nm (fun _ z => by cases z), l.pl.ext e⟩
theorem Lay7.same {B D1 R1 D2 R2 N x : Addr} {ps1 ps2 : List Addr} {ls1 ls2 : List Ln} {h1 h2 : Int} {H H' : Hp} (l : Lay7 B D1 R1 D2 R2 N x ps1 ps2 ls1 ls2 h1 h2 H) (s : Same H H') : Lay7 B D1 R1 D2 R2 N x ps1 ps2 ls1 ls2 h1 h2 H' := l.ext (ExtN.of s)
theorem Lay7.but {B D1 R1 D2 R2 N x p : Addr} {ps1 ps2 : List Addr} {ls1 ls2 : List Ln} {h1 h2 k : Int} {H H' : Hp} (l : Lay7 B D1 R1 D2 R2 N x ps1 ps2 ls1 ls2 h1 h2 H) (st : Sta7 p R1 R2 N ls1 ls2 h1 h2) (hP : Pot H p k) (b : But p H H') : Lay7 B D1 R1 D2 R2 N x ps1 ps2 ls1 ls2 h1 h2 H' := by
  have hP2 := hP
  obtain ⟨o, c, d, ep, _⟩ := hP2
  have kt : ∀ b vs, H b = some (.tup vs) → H' b = some (.tup vs) := fun y vs q => b _ _ (fun z => by rw [z, ep] at q; cases q) q
  have nd : ∀ a kvs, H a = some (.dK kvs) → a ≠ p := fun a kvs q z => by rw [z, ep] at q; cases q
  exact ⟨b _ _ (nd _ _ l.d1) l.d1, b _ _ st.nR1 l.r1, l.l1.map kt, b _ _ (nd _ _ l.d2) l.d2, b _ _ st.nR2 l.r2, l.l2.map kt, b _ _ st.nN l.nm, l.pl.but hP b⟩
/-- what the texts of a drawn plan are -/
theorem ln_small {ls : List Ln} (ok : okL [] 0 ls) : ∀ l ∈ ls, LnSmall l := fun l hl => (okL_small ls [] 0 ok (fun _ h => by cases h) l hl).1
theorem ln_20 {ls : List Ln} (ok : okL [] 0 ls) : ls.length ≤ 20 := Nat.le_trans (okL_len ok) (by decide)
end
end L2.K07

set_option Elab.async false
set_option linter.all false
set_option maxRecDepth 100000
set_option maxHeartbeats 8000000
namespace L2.K07
open PySem PySem.Spec PyProof.Rows L2.Vx
open PySem.W (Frag)
open LamX (CodeO Tabs TabS TabB ExtN LamS lamEnv lamCx lamS_by)
section
variable {P : Program} {w : World} {K : Frag} {mg : Str → Option Value} {bs : Heap}
variable {f c PT fB gL gH gG gE fTo fT fSP fPT fPN fLB fFr fOd B C CN D fIN : Addr} {fd fdB fdL fdH fdG fdE fdTo fdT fdSP fdPT fdPN fdLB fdFr fdOd : FuncData}
variable (TB : TabB bs mg c PT) (F : FxRt7 K mg B CN D fIN fB) (FK : FxBk7 K B gL gH gG gE) (FDx : Dx mg)
variable (FTo : FD K "_law_told" sTold fTo fdTo) (gTo : mg "_law_told" = some (.ref fTo)) (bTo : Binds K fdTo ["look"] [])
variable (GT : FnOk P w K mg bs CX0 1 fT fdT ["pot", "upto"] spTake) (kT : PySem.W.keepIn K (.ref fT) = true) (gT : mg "_law_take" = some (.ref fT)) (bT : Binds K fdT ["pot", "upto"] [])
variable (GSP : FnOk P w K mg bs CX0 4 fSP fdSP ["pot", "points", "walls", "most"] (spSomeP K)) (kSP : PySem.W.keepIn K (.ref fSP) = true) (gSP : mg "_law_some_plan" = some (.ref fSP)) (bSP : Binds K fdSP ["pot", "points", "walls", "most"] [])
variable (GPT : FnOk P w K mg bs CX0 2 fPT fdPT ["plan"] (spPText K)) (kPT : PySem.W.keepIn K (.ref fPT) = true) (gPT : mg "_law_plan_text" = some (.ref fPT)) (bPT : Binds K fdPT ["plan"] [])
variable (GPN : FnOk P w K mg bs CX0 1 fPN fdPN ["plan"] (spPNames K)) (kPN : PySem.W.keepIn K (.ref fPN) = true) (gPN : mg "_law_point_names" = some (.ref fPN)) (bPN : Binds K fdPN ["plan"] [])
variable (GLB : FnOk P w K mg bs CX0 1 fLB fdLB ["plan", "line"] (spLB K)) (kLB : PySem.W.keepIn K (.ref fLB) = true) (gLB : mg "_law_bound" = some (.ref fLB)) (bLB : Binds K fdLB ["plan", "line"] [])
variable (GFr : FnOk P w K mg bs CX0 3 fFr fdFr ["pot", "lore"] (spFar K)) (kFr : PySem.W.keepIn K (.ref fFr) = true) (gFr : mg "_law_far" = some (.ref fFr)) (bFr : Binds K fdFr ["pot", "lore"] [])
variable (GOd : FnOk P w K mg bs CX0 3 fOd fdOd ["pot"] (spOdd K)) (kOd : PySem.W.keepIn K (.ref fOd) = true) (gOd : mg "_law_odd" = some (.ref fOd)) (bOd : Binds K fdOd ["pot"] [])
variable (GB : FnOk P w K mg bs (L2.CX P w) 7 fB fdB ["self", "text"] (spPInit K B C)) (bB : Binds K fdB ["self", "text"] [])
variable (RL : FnR P w K mg bs CX0 1 gL (spPLen B)) (RH : FnR P w K mg bs CX0 1 gH (spPHas K B)) (RG : FnR P w K mg bs (L2.CX P w) 2 gG (spPGet K B CN)) (RE : FnR P w K mg bs CX0 1 gE (spPEq B))
variable (A : Around) (outer : List Env) (s : Shared) (H : Hp) (E : XK) (gd : A.guards = some []) (hr : Room 8 (A.deeper (envOfC "_law_right" (defScope sRight) s.heap.objs.size f (.ref c))))
include TB F FK FDx FTo gTo bTo GT kT gT bT GSP kSP gSP bSP GPT kPT gPT bPT GPN kPN gPN bPN GLB kLB gLB bLB GFr kFr gFr bFr GOd kOd gOd bOd GB bB RL RH RG RE gd hr
/-- ahead of the last two rows -/
def C9 (K : Frag) (B PT : Addr) (D : Ends) (σ : St) (H : Hp) : Prop := ∃ (p D1 R1 D2 R2 N x W U : Addr) (ps1 ps2 : List Addr) (ls1 ls2 : List Ln) (h1 h2 : Int) (v8 v9 v10 v11 : Option V),
  σ = [some (.ref p), some (.ref D1), some (.ref D2), some (.str (planText h1 ls1)), some (.ref N), some (.ref x), some (.ref W), some (.ref U), v8, v9, v10, v11] ∧ Sta7 p R1 R2 N ls1 ls2 h1 h2 ∧ Lay7 B D1 R1 D2 R2 N x ps1 ps2 ls1 ls2 h1 h2 H ∧
  ∀ H', Same H H' → D.rt (.bl true) H'
theorem right_nine : ∃ t, PSs (cxOf CX0 P w K mg bs ["pot", "lore", "other", "text", "names", "plan", "walls", "told", "line", "odd", "value", "caught"] "_law_right" (defScope sRight) f (.ref c) A outer s H E) ((defBody sRight).drop 9) t ∧ ∀ (D : Ends) (σ : St) (Hn : Hp), C9 K B PT D σ Hn → t D σ Hn := by
  have sc := scRight
  obtain ⟨oc, od, kV, doc, pm, an, cdv, ct, osl, rfl, lk, hcd⟩ := FTo.ex
  have hr1 : Room 1 (A.deeper (envOfC "_law_right" (defScope sRight) s.heap.objs.size f (.ref c))) := hr.mono (by decide)
  have hr2 : Room 2 (A.deeper (envOfC "_law_right" (defScope sRight) s.heap.objs.size f (.ref c))) := hr.mono (by decide)
  have hr3 : Room 3 (A.deeper (envOfC "_law_right" (defScope sRight) s.heap.objs.size f (.ref c))) := hr.mono (by decide)
  have hr4 : Room 4 (A.deeper (envOfC "_law_right" (defScope sRight) s.heap.objs.size f (.ref c))) := hr.mono (by decide)
  have hu := hu_of hr
  refine ⟨_, pss_cons (ps_if (PW.pt (pw_or (pt_cmpR (op_eqOwn FK.sE FK.fE RE hr1 pass0) (pv 5) (pv 3) (nomark _))
      (pw_or (pt_cmpR (op_eqOwn FK.sE FK.fE RE hr1 pass0) (pv 5) pe_non (nomark _))
      (pw_or1 (pt_not (pt_cmpR (op_eqOwn FK.sE FK.fE RE hr1 pass0) (pv 5) (pe_make F.pm.mkP GB hr (by rfl) F.pm.gP bB .nil passN (pa_cons (pv 3) pa_nil)) (nomark _))))))) (pss_one (ps_ret pe_bl)) pss_nil)
    (pss_one (ps_ret (pe_cmpR op_eq (pe_cmpR (op_eqOwn FK.sE FK.fE RE hr1 pass0) (pv 5) (pe_make F.pm.mkP GB hr (by rfl) F.pm.gP bB .nil passN (pa_cons (pe_call GPT hr2 (by rfl) gPT kPT bPT .nil pass0 (pa_cons (pv 2) pa_nil)) pa_nil)) (nomark _)) (pe_cmpR op_eq (pv 3) (pe_call GPT hr2 (by rfl) gPT kPT bPT .nil pass0 (pa_cons (pv 2) pa_nil)) (nomark _)) (nomark _)))), fun D σ Hn h => ?_⟩
  obtain ⟨p, D1, R1, D2, R2, N, x, W, U, ps1, ps2, ls1, ls2, h1, h2, v8, v9, v10, v11, rfl, st, ly, k⟩ := h
  have lb1 := plan_len st.a1 st.b1 st.ok1
  have rb1 := plan_round st.a1 st.b1 st.ok1 st.e1
  have lb2 := plan_len st.a2 st.b2 st.ok2
  have rb2 := plan_round st.a2 st.b2 st.ok2 st.e2
  obtain ⟨dx, pt, wt, ct, ps, qs, hx, hrest⟩ := ly.pl
  refine rd_seq (rd_if ?_)
  refine ⟨_, rfl, _, rfl, x, dx, _, rfl, hx, .inr (.inl ⟨⟨_, rfl⟩, FK.nfS⟩), ⟨x, _, _, _, _, _, rfl, ly.pl, .inl ⟨.inr ⟨_, rfl⟩, fun H6 s6 => ⟨_, rfl, ?_⟩⟩⟩⟩
  refine Eq.mpr (if_neg (by decide)) ?_
  refine ⟨_, rfl, x, dx, _, rfl, s6 _ _ hx, .inl ⟨rfl, FK.nfN⟩, ⟨x, _, _, _, _, _, rfl, ly.pl.same s6, .inl ⟨.inl rfl, fun H7 s7 => ⟨_, rfl, ?_⟩⟩⟩⟩
  refine Eq.mpr (if_neg (by decide)) ?_
  refine ⟨_, rfl, _, rfl, ?_⟩
  dsimp only [tNil]
  refine rd_plan (K := K) (Nat.le_trans lb1 (by decide)) rb1 fun y H8 hy0 s8 bky => ?_
  have s58 := (s6.trans s7).trans s8
  obtain ⟨dy, pty, wty, cty, psy, qsy, hy, hyr⟩ := bky
  refine ⟨x, dx, _, rfl, s58 _ _ hx, .inr (.inr ⟨y, B, dy, _, rfl, hy, FK.nfB⟩), ⟨x, _, _, _, _, _, rfl, ly.pl.same s58, .inr ⟨y, _, _, _, _, rfl, ⟨dy, pty, wty, cty, psy, qsy, hy, hyr⟩, fun H9 s9 => ⟨_, rfl, ?_⟩⟩⟩⟩
  refine Eq.mpr (if_neg (nt rfl)) ?_
  have s59 := s58.trans s9
  have ly9 := ly.same s59
  dsimp only [tNext]
  refine ⟨_, rfl, _, rfl, D2, R2, ps2, ls2, h2, rfl, ly9.d2, ly9.r2, ly9.l2, st.a2, st.b2, ln_small st.ok2, ln_20 st.ok2, fun Ga sA => ?_⟩
  dsimp only [tNil]
  refine rd_plan (K := K) (Nat.le_trans lb2 (by decide)) rb2 fun u Gb hu0 sB bku => ?_
  obtain ⟨du, ptu, wtu, ctu, psu, qsu, hu1, hur⟩ := bku
  have s5b := (s59.trans sA).trans sB
  refine ⟨x, dx, _, rfl, s5b _ _ hx, .inr (.inr ⟨u, B, du, _, rfl, hu1, FK.nfB⟩), ⟨x, _, _, _, _, _, rfl, ly.pl.same s5b, .inr ⟨u, _, _, _, _, rfl, ⟨du, ptu, wtu, ctu, psu, qsu, hu1, hur⟩, fun Gc sC => ?_⟩⟩⟩
  have s5c := s5b.trans sC
  have lyc := ly.same s5c
  refine ⟨_, rfl, _, rfl, D2, R2, ps2, ls2, h2, rfl, lyc.d2, lyc.r2, lyc.l2, st.a2, st.b2, ln_small st.ok2, ln_20 st.ok2, fun Gd sD => ⟨rfl, rfl, ?_⟩⟩
  have fin := k Gd (s5c.trans sD)
  have e : decide (V.bl (decide (planText h1 ls1 = planText h2 ls2)) = V.bl (decide (V.str (planText h1 ls1) = V.str (planText h2 ls2)))) = true := by
    refine decide_eq_true (congrArg V.bl ?_)
    rw [Bool.eq_iff_iff, decide_eq_true_iff, decide_eq_true_iff]
    exact ⟨fun q => congrArg V.str q, fun q => V.str.inj q⟩
  rw [e]
  exact fin
end
end L2.K07

set_option Elab.async false
set_option linter.all false
set_option maxRecDepth 100000
set_option maxHeartbeats 8000000
namespace L2.K07
open PySem PySem.Spec PyProof.Rows L2.Vx
open PySem.W (Frag)
open LamX (CodeO Tabs TabS TabB ExtN LamS lamEnv lamCx lamS_by)
theorem dp_ref0 {K : Frag} {H : Hp} {v : V} {d : PyData} (h : Dd K H v d) (hs : isS d = false) : wordOf v = none := by
  cases h <;> first | rfl | cases hs
theorem odd_ok : ∀ d ∈ odd1 ++ odd2, okD d = true := by decide +kernel
theorem pool_shaped : ∀ u ∈ poolN, SeqAt.shaped (.str u) = true := by decide +kernel
theorem findC_none {v : V} : ∀ (cs : List Clk), (∀ u, v = .str u → u ∉ cs.map Clk.name) → findC v cs = none
  | [], _ => rfl
  | c :: cs, h => (if_neg (fun q => by
      cases v <;> cases q
      exact h _ rfl (List.mem_cons_self ..))).trans (findC_none cs fun u e z => h u e (List.mem_cons_of_mem _ z))
def Val8 (K : Frag) (H : Hp) (v : V) : Prop := ∃ d, Dd K H v d ∧ okD d = true
theorem Val8.ext {K : Frag} {H H' : Hp} {v : V} (h : Val8 K H v) (e : ExtN H H') : Val8 K H' v := by
  obtain ⟨d, h1, h2⟩ := h
  exact ⟨d, dd_ext e h1, h2⟩
theorem Val8.parts {K : Frag} {H : Hp} {v : V} (h : Val8 K H v) : ∃ d, Dd K H v d ∧ shOk d = true ∧ d.depth ≤ 60 ∧ d.shown.length ≤ sizeLine ∧ AskV K H v ∧ ((∃ u, v = .str u) ∨ NoStr K H v) := by
  obtain ⟨d, h1, h2⟩ := h
  unfold okD at h2
  obtain ⟨a1, h2⟩ := Bool.and_eq_true_iff.mp h2
  obtain ⟨a2, h2⟩ := Bool.and_eq_true_iff.mp h2
  obtain ⟨a3, h2⟩ := Bool.and_eq_true_iff.mp h2
  refine ⟨d, h1, a1, of_decide_eq_true a2, Nat.le_trans (of_decide_eq_true a3) (by decide), ?_⟩
  by_cases hS : isS d = true
  · obtain ⟨u, rfl⟩ : ∃ u, d = .str u := by cases d <;> first | exact ⟨_, rfl⟩ | cases hS
    cases h1
    exact ⟨.inl ⟨u, rfl⟩, .inl ⟨u, rfl⟩⟩
  · have hS2 : isS d = false := by simpa using hS
    refine ⟨?_, .inr (noStr_of h1 hS2)⟩
    rcases Bool.or_eq_true_iff.mp h2 with h2 | h2
    · obtain ⟨b1, b2⟩ := Bool.and_eq_true_iff.mp h2
      exact .inr (.inl ⟨d, dd_dp h1 b2, b1, hS2⟩)
    · cases h1 <;> first | cases h2 | skip
      exact .inr (.inr ⟨_, _, rfl, by assumption⟩)
theorem ask7 {K : Frag} {σ : St} {H : Hp} {F : Bool → Hp → Prop} {v : V} {N : Addr} {ns : List Str} (h10 : σ[10]? = some (some v)) (h4 : σ[4]? = some (some (.ref N))) (f : SqL K H N (ns.map V.str))
    (hk : (∃ u, v = .str u) ∨ NoStr K H v) (h1 : (∀ u, v = .str u → u ∉ ns) → F true H) (h0 : F false H) : (tOr (tNot (tB (tCB (rIsi K) (tCons (tVar 10) (tCons (tC (.ty "str")) tNil))))) (tTest (tOp (rIn K true) (tVar 10) (tVar 4)))) σ H F := by
  rcases hk with ⟨u, rfl⟩ | ⟨n, hT, hk⟩
  · refine ⟨_, h10, .str u, .ty "str", .type "str", _, true, rfl, .ty "str", .base (.str u), kit_ty (by decide +kernel), _, rfl, ?_⟩
    refine Eq.mpr (if_neg (by decide)) ?_
    refine ⟨_, h10, _, h4, N, _, rfl, .inl f, rfl, flat_strs _, _, rfl, ?_⟩
    rw [if_pos rfl, inV_str]
    by_cases hu : u ∈ ns
    · rw [decide_eq_true hu]
      exact h0
    · rw [decide_eq_false hu]
      exact h1 (fun x e q => by cases e; exact hu q)
  · refine ⟨_, h10, v, .ty "str", _, _, false, rfl, .ty "str", hT, kit_ty hk, _, rfl, ?_⟩
    refine Eq.mpr (if_pos rfl) (h1 (fun x e _ => ?_))
    subst e
    cases hT with
    | base h => cases h; exact absurd hk (by decide +kernel)
section
variable {P : Program} {w : World} {K : Frag} {mg : Str → Option Value} {bs : Heap}
variable {f c PT fB gL gH gG gE fTo fT fSP fPT fPN fLB fFr fOd B C CN D fIN : Addr} {fd fdB fdL fdH fdG fdE fdTo fdT fdSP fdPT fdPN fdLB fdFr fdOd : FuncData}
variable (TB : TabB bs mg c PT) (F : FxRt7 K mg B CN D fIN fB) (FK : FxBk7 K B gL gH gG gE) (FDx : Dx mg)
variable (FTo : FD K "_law_told" sTold fTo fdTo) (gTo : mg "_law_told" = some (.ref fTo)) (bTo : Binds K fdTo ["look"] [])
variable (GT : FnOk P w K mg bs CX0 1 fT fdT ["pot", "upto"] spTake) (kT : PySem.W.keepIn K (.ref fT) = true) (gT : mg "_law_take" = some (.ref fT)) (bT : Binds K fdT ["pot", "upto"] [])
variable (GSP : FnOk P w K mg bs CX0 4 fSP fdSP ["pot", "points", "walls", "most"] (spSomeP K)) (kSP : PySem.W.keepIn K (.ref fSP) = true) (gSP : mg "_law_some_plan" = some (.ref fSP)) (bSP : Binds K fdSP ["pot", "points", "walls", "most"] [])
variable (GPT : FnOk P w K mg bs CX0 2 fPT fdPT ["plan"] (spPText K)) (kPT : PySem.W.keepIn K (.ref fPT) = true) (gPT : mg "_law_plan_text" = some (.ref fPT)) (bPT : Binds K fdPT ["plan"] [])
variable (GPN : FnOk P w K mg bs CX0 1 fPN fdPN ["plan"] (spPNames K)) (kPN : PySem.W.keepIn K (.ref fPN) = true) (gPN : mg "_law_point_names" = some (.ref fPN)) (bPN : Binds K fdPN ["plan"] [])
variable (GLB : FnOk P w K mg bs CX0 1 fLB fdLB ["plan", "line"] (spLB K)) (kLB : PySem.W.keepIn K (.ref fLB) = true) (gLB : mg "_law_bound" = some (.ref fLB)) (bLB : Binds K fdLB ["plan", "line"] [])
variable (GFr : FnOk P w K mg bs CX0 3 fFr fdFr ["pot", "lore"] (spFar K)) (kFr : PySem.W.keepIn K (.ref fFr) = true) (gFr : mg "_law_far" = some (.ref fFr)) (bFr : Binds K fdFr ["pot", "lore"] [])
variable (GOd : FnOk P w K mg bs CX0 3 fOd fdOd ["pot"] (spOdd K)) (kOd : PySem.W.keepIn K (.ref fOd) = true) (gOd : mg "_law_odd" = some (.ref fOd)) (bOd : Binds K fdOd ["pot"] [])
variable (GB : FnOk P w K mg bs (L2.CX P w) 7 fB fdB ["self", "text"] (spPInit K B C)) (bB : Binds K fdB ["self", "text"] [])
variable (RL : FnR P w K mg bs CX0 1 gL (spPLen B)) (RH : FnR P w K mg bs CX0 1 gH (spPHas K B)) (RG : FnR P w K mg bs (L2.CX P w) 2 gG (spPGet K B CN)) (RE : FnR P w K mg bs CX0 1 gE (spPEq B))
variable (A : Around) (outer : List Env) (s : Shared) (H : Hp) (E : XK) (gd : A.guards = some []) (hr : Room 8 (A.deeper (envOfC "_law_right" (defScope sRight) s.heap.objs.size f (.ref c))))
include TB F FK FDx FTo gTo bTo GT kT gT bT GSP kSP gSP bSP GPT kPT gPT bPT GPN kPN gPN bPN GLB kLB gLB bLB GFr kFr gFr bFr GOd kOd gOd bOd GB bB RL RH RG RE gd hr
/-- ahead of the loop over the values -/
def C8 (K : Frag) (B PT : Addr) (D : Ends) (σ : St) (H : Hp) : Prop := ∃ (p D1 R1 D2 R2 N x W U O : Addr) (ps1 ps2 : List Addr) (ls1 ls2 : List Ln) (h1 h2 : Int) (vals : List V) (v8 v10 v11 : Option V),
  σ = [some (.ref p), some (.ref D1), some (.ref D2), some (.str (planText h1 ls1)), some (.ref N), some (.ref x), some (.ref W), some (.ref U), v8, some (.ref O), v10, v11] ∧ Sta7 p R1 R2 N ls1 ls2 h1 h2 ∧ Lay7 B D1 R1 D2 R2 N x ps1 ps2 ls1 ls2 h1 h2 H ∧
  H O = some (.lst vals) ∧ (∀ v ∈ vals, Val8 K H v) ∧ Tabs [(PT, qR)] H ∧ ∀ H', ExtN H H' → Tabs [(PT, qR)] H' → D.rt (.bl true) H'
theorem right_eight (REST : ∃ t, PSs (cxOf CX0 P w K mg bs ["pot", "lore", "other", "text", "names", "plan", "walls", "told", "line", "odd", "value", "caught"] "_law_right" (defScope sRight) f (.ref c) A outer s H E) ((defBody sRight).drop 9) t ∧ ∀ (D : Ends) (σ : St) (Hn : Hp), C9 K B PT D σ Hn → t D σ Hn) : ∃ t, PSs (cxOf CX0 P w K mg bs ["pot", "lore", "other", "text", "names", "plan", "walls", "told", "line", "odd", "value", "caught"] "_law_right" (defScope sRight) f (.ref c) A outer s H E) ((defBody sRight).drop 8) t ∧ ∀ (D : Ends) (σ : St) (Hn : Hp), C8 K B PT D σ Hn → t D σ Hn := by
  obtain ⟨t9, p9, q9⟩ := REST
  have sc := scRight
  obtain ⟨oc, od, kV, doc, pm, an, cdv, ct, osl, rfl, lk, hcd⟩ := FTo.ex
  have hr1 : Room 1 (A.deeper (envOfC "_law_right" (defScope sRight) s.heap.objs.size f (.ref c))) := hr.mono (by decide)
  have hr2 : Room 2 (A.deeper (envOfC "_law_right" (defScope sRight) s.heap.objs.size f (.ref c))) := hr.mono (by decide)
  have hr3 : Room 3 (A.deeper (envOfC "_law_right" (defScope sRight) s.heap.objs.size f (.ref c))) := hr.mono (by decide)
  have hr4 : Room 4 (A.deeper (envOfC "_law_right" (defScope sRight) s.heap.objs.size f (.ref c))) := hr.mono (by decide)
  have hu := hu_of hr
  refine ⟨_, pss_cons (ps_for (passes_of rfl) rfl (pi_list (pv 9)) (pg_name (i := 10) sc.nd rfl (Or.inr rfl))
        (pss_one (ps_if (PW.pt (pw_or (pt_not (pt_val (pe_callB call_isi (by rfl) F.isi boot_isinstance (pa_cons (pv 10) (pa_cons (pe_bltn (v := .ty "str") (by rfl) F.str boot_str rfl) pa_nil)))))
            (pw_or1 (pt_cmpR op_notIn_seq (pv 10) (pv 4) rfl))))
          (pss_cons (ps_set (i := 11) sc.nd rfl (Or.inl rfl) (pe_ix ix_tup (pe_lam2 (T := [(PT, qR)]) (TT := TTold K D) (Ng := toldN) (k := 3) (t := fun E => tItemOwn B (spPGet K B CN) E (tVar 5) (tVar 10)) (by rfl) gTo FTo.kp lk hcd bTo ⟨rfl, rfl, rfl, by decide +kernel, rfl, by decide +kernel, by decide +kernel⟩ rfl (.inl rfl)
              (told_gives2 F.gDraw (fun _ => rfl)) TB rfl (List.mem_singleton.mpr rfl) (fun p hp _ => by rw [List.mem_singleton.mp hp]; rfl) (hr.mono (by decide)) (show LamS (defScope sRight) _ from lamS_by (by decide +kernel)) rfl (fun _ _ _ _ _ => rfl)
              (fun A outer s H E f c' hr => pe_itemOwn FK.sG FK.nG FK.fG RG (hr.mono (by decide)) (fun pins σ H s e s' I z => (takes_of rfl rfl rfl rfl) e s' (XE.of_call I (fun _ _ _ h => h) z)) (pv 5) (pv 10))) pe_int (fun _ _ => rfl)))
          (pss_cons (ps_if (PW.pt (pw_or (pt_not (pt_val (pe_callB call_isX (by rfl) F.isi boot_isinstance (pa_cons (pv 11) (pa_cons (pe_ref F.gNon) pa_nil)))))
              (pw_or1 (pt_cmpR op_ne (pe_callB (call_repr gd hr.units) (by rfl) F.rep boot_repr (pa_cons (pe_val (pv 11)) pa_nil)) (pe_callB (call_repr gd hr.units) (by rfl) F.rep boot_repr (pa_cons (pv 10) pa_nil)) (nomark _)))))
            (pss_one (ps_ret pe_bl)) pss_nil)
          (pss_one (ps_if (pt_cmpR op_isnotB (pe_cmpR (op_inOwn FK.sH FK.fH RH hr1 pass0) (pv 10) (pv 5) rfl) pe_bl (nomark _))
            (pss_one (ps_ret pe_bl)) pss_nil))))
          pss_nil))) p9, fun DD σ Hn h => ?_⟩
  obtain ⟨p, D1, R1, D2, R2, N, x, W, U, O, ps1, ps2, ls1, ls2, h1, h2, vals, v8, v10, v11, rfl, st, ly, hO, hvals, hT, k⟩ := h
  have hnm := clks_names h1 ls1 []
  have hshp : ∀ c ∈ clksOf h1 [] ls1, SeqAt.shaped (.str c.name) = true := fun c hc => pool_shaped _ ((okL_pool ls1 [] 0 st.ok1 (fun _ h => by cases h)).1 _ (by rw [← hnm]; exact List.mem_map_of_mem hc))
  refine rd_seq ?_
  refine ⟨_, rfl, O, rfl, ⟨_, SqL.of hO⟩, for_it (walk_list (K := K) (a := O) (xs := vals)) (fun i σ H' => ∃ v10 v11 : Option V, σ = [some (.ref p), some (.ref D1), some (.ref D2), some (.str (planText h1 ls1)), some (.ref N), some (.ref x), some (.ref W), some (.ref U), v8, some (.ref O), v10, v11] ∧ ExtN Hn H' ∧ Tabs [(PT, qR)] H') ⟨v10, v11, rfl, fun _ _ e _ => e, hT⟩ (fun i σ H' _ u => ?_) ?_ ?_⟩
  · obtain ⟨_, _, _, u, _⟩ := u
    exact sql_ext u (SqL.of hO)
  · rintro i v σ G5 G6 hi ⟨v10, v11, rfl, eG, hT5⟩ ⟨rfl, hy⟩
    have hv6 := (hvals v (List.mem_of_getElem? hy)).ext eG
    obtain ⟨d, hd, o1, o2, o3, hask, hkind⟩ := hv6.parts
    have ly6 := ly.ext eG
    obtain ⟨dx, pt, wt, ct, ps, qs, hx, hrest⟩ := ly6.pl
    refine rd_if ?_
    refine ask7 rfl rfl (SqL.of ly6.nm) hkind (fun hnot => ?_) ?_
    · refine Eq.mpr (if_pos rfl) ?_
      have hfv : findC v (clksOf h1 [] ls1) = none := findC_none _ fun u e q => hnot u e (by rw [← hnm]; exact q)
      refine rd_seq (rd_set ?_)
      refine ⟨hT5, fun H1 e1 T1 q0 hq0 => ?_⟩
      have sq0 : Same H1 (upd H1 q0 (.tup [.non, .non])) := same_new hq0
      generalize upd H1 q0 (.tup [.non, .non]) = Z0 at sq0 ⊢
      have eZ0 : ExtN G6 Z0 := ExtN.tr e1 (ExtN.of sq0)
      obtain ⟨_, _, _, _, _, haskZ, _⟩ := (hv6.ext eZ0).parts
      refine ⟨_, rfl, _, rfl, x, dx, _, rfl, eZ0 _ _ hx (fun _ z => by cases z), ⟨x, v, _, _, _, _, rfl, ly6.pl.ext eZ0, haskZ, hshp, fun n hn => (by rw [hfv] at hn; cases hn), fun hn Z1 dv sv fv => ?_⟩⟩
      refine ⟨F.exm, fun a ha q1 hq1 => ?_⟩
      have sa : Same Z1 (upd Z1 a (EX a (.ref CN) (some dv))) := same_new ha
      have fa : upd Z1 a (EX a (.ref CN) (some dv)) a = some (EX a (.ref CN) (some dv)) := upd_same
      have fva := sa _ _ fv
      generalize upd Z1 a (EX a (.ref CN) (some dv)) = Z2 at sa fa hq1 fva ⊢
      have sq1 : Same Z2 (upd Z2 q1 (.tup [.ref a, .non])) := same_new hq1
      have fq1 : upd Z2 q1 (.tup [.ref a, .non]) q1 = some (.tup [.ref a, .non]) := upd_same
      have fab := sq1 _ _ fa
      have fvb := sq1 _ _ fva
      generalize upd Z2 q1 (.tup [.ref a, .non]) = Z3 at sq1 fq1 fab fvb ⊢
      have sZ := (sv.trans sa).trans sq1
      have eZ : ExtN G6 Z3 := ExtN.tr eZ0 (ExtN.of sZ)
      have TZ := (T1.ext sq0).ext sZ
      refine ⟨q1, _, 0, .ref a, rfl, rfl, SqT.of fq1, rfl, ?_⟩
      dsimp only
      refine rd_seq (rd_if ?_)
      refine ⟨_, rfl, a, .ref CN, .ref CN, .ref CN, true, rfl, .inl ⟨CN, dv, fIN, v, rfl, fab, fvb, F.non⟩, fun u r => r, F.kit, _, rfl, ?_⟩
      refine Eq.mpr (if_neg (by decide)) ?_
      have hdZ := dd_ext eZ hd
      refine ⟨_, rfl, a, CN, dv, fIN, v, rfl, fab, F.non, fvb, v, d, rfl, hdZ, o1, o2, o3, _, rfl, v, d, rfl, hdZ, o1, o2, o3, rfl, _, rfl, ?_⟩
      refine Eq.mpr (if_neg (nt rfl)) ?_
      dsimp only [tNext]
      refine rd_if ?_
      refine ⟨_, rfl, _, rfl, x, dx, _, rfl, eZ _ _ hx (fun _ z => by cases z), ⟨x, v, _, _, _, _, rfl, ly6.pl.ext eZ, ?_⟩⟩
      obtain ⟨_, _, _, _, _, _, hkZ⟩ := (hv6.ext eZ).parts
      rcases hkZ with ⟨u, rfl⟩ | hns
      · refine .inr ⟨u, rfl, fun Z4 s4 => ⟨_, rfl, _, _, rfl, rfl, _, rfl, ?_⟩⟩
        have e : decide (u ∈ (clksOf h1 [] ls1).map Clk.name) = false := decide_eq_false (by rw [hnm]; exact hnot u rfl)
        rw [e]
        exact ⟨_, _, rfl, ExtN.tr (ExtN.tr eG eZ) (ExtN.of s4), TZ.ext s4⟩
      · refine .inl ⟨hns, fun Z4 s4 => ⟨_, rfl, _, _, rfl, rfl, _, rfl, ?_⟩⟩
        exact ⟨_, _, rfl, ExtN.tr (ExtN.tr eG eZ) (ExtN.of s4), TZ.ext s4⟩
    · refine Eq.mpr (if_neg Bool.false_ne_true) ?_
      exact ⟨_, _, rfl, eG, hT5⟩
  · rintro σ G5 ⟨v10, v11, rfl, eG, hT5⟩
    exact q9 _ _ _ ⟨p, D1, R1, D2, R2, N, x, W, U, ps1, ps2, ls1, ls2, h1, h2, _, _, _, _, rfl, st, ly.ext eG, fun H' s' => k H' (ExtN.tr eG (ExtN.of s')) (hT5.ext s')⟩
end
end L2.K07

set_option Elab.async false
set_option linter.all false
set_option maxRecDepth 100000
set_option maxHeartbeats 8000000
namespace L2.K07
open PySem PySem.Spec PyProof.Rows L2.Vx
open PySem.W (Frag)
open LamX (CodeO Tabs TabS TabB ExtN LamS lamEnv lamCx lamS_by)
theorem pool_ok8 : ∀ u ∈ poolN, okD (.str (u ++ "!")) = true ∧ okD (.str (Txt.upper u)) = true ∧ okD (.tuple [.str u]) = true ∧ okD (.list [.str u]) = true := by decide +kernel
theorem pool_len8 : ∀ u ∈ poolN, u.length ≤ 8 := by decide +kernel
theorem word_ok8 : okD (.str "nobody") = true ∧ okD (.str "") = true ∧ okD (.str "0") = true ∧ okD .none = true ∧ okD (.int 0) = true := by decide +kernel
section
variable {P : Program} {w : World} {K : Frag} {mg : Str → Option Value} {bs : Heap}
variable {f c PT fB gL gH gG gE fTo fT fSP fPT fPN fLB fFr fOd B C CN D fIN : Addr} {fd fdB fdL fdH fdG fdE fdTo fdT fdSP fdPT fdPN fdLB fdFr fdOd : FuncData}
variable (TB : TabB bs mg c PT) (F : FxRt7 K mg B CN D fIN fB) (FK : FxBk7 K B gL gH gG gE) (FDx : Dx mg)
variable (FTo : FD K "_law_told" sTold fTo fdTo) (gTo : mg "_law_told" = some (.ref fTo)) (bTo : Binds K fdTo ["look"] [])
variable (GT : FnOk P w K mg bs CX0 1 fT fdT ["pot", "upto"] spTake) (kT : PySem.W.keepIn K (.ref fT) = true) (gT : mg "_law_take" = some (.ref fT)) (bT : Binds K fdT ["pot", "upto"] [])
variable (GSP : FnOk P w K mg bs CX0 4 fSP fdSP ["pot", "points", "walls", "most"] (spSomeP K)) (kSP : PySem.W.keepIn K (.ref fSP) = true) (gSP : mg "_law_some_plan" = some (.ref fSP)) (bSP : Binds K fdSP ["pot", "points", "walls", "most"] [])
variable (GPT : FnOk P w K mg bs CX0 2 fPT fdPT ["plan"] (spPText K)) (kPT : PySem.W.keepIn K (.ref fPT) = true) (gPT : mg "_law_plan_text" = some (.ref fPT)) (bPT : Binds K fdPT ["plan"] [])
variable (GPN : FnOk P w K mg bs CX0 1 fPN fdPN ["plan"] (spPNames K)) (kPN : PySem.W.keepIn K (.ref fPN) = true) (gPN : mg "_law_point_names" = some (.ref fPN)) (bPN : Binds K fdPN ["plan"] [])
variable (GLB : FnOk P w K mg bs CX0 1 fLB fdLB ["plan", "line"] (spLB K)) (kLB : PySem.W.keepIn K (.ref fLB) = true) (gLB : mg "_law_bound" = some (.ref fLB)) (bLB : Binds K fdLB ["plan", "line"] [])
variable (GFr : FnOk P w K mg bs CX0 3 fFr fdFr ["pot", "lore"] (spFar K)) (kFr : PySem.W.keepIn K (.ref fFr) = true) (gFr : mg "_law_far" = some (.ref fFr)) (bFr : Binds K fdFr ["pot", "lore"] [])
variable (GOd : FnOk P w K mg bs CX0 3 fOd fdOd ["pot"] (spOdd K)) (kOd : PySem.W.keepIn K (.ref fOd) = true) (gOd : mg "_law_odd" = some (.ref fOd)) (bOd : Binds K fdOd ["pot"] [])
variable (GB : FnOk P w K mg bs (L2.CX P w) 7 fB fdB ["self", "text"] (spPInit K B C)) (bB : Binds K fdB ["self", "text"] [])
variable (RL : FnR P w K mg bs CX0 1 gL (spPLen B)) (RH : FnR P w K mg bs CX0 1 gH (spPHas K B)) (RG : FnR P w K mg bs (L2.CX P w) 2 gG (spPGet K B CN)) (RE : FnR P w K mg bs CX0 1 gE (spPEq B))
variable (A : Around) (outer : List Env) (s : Shared) (H : Hp) (E : XK) (gd : A.guards = some []) (hr : Room 8 (A.deeper (envOfC "_law_right" (defScope sRight) s.heap.objs.size f (.ref c))))
include TB F FK FDx FTo gTo bTo GT kT gT bT GSP kSP gSP bSP GPT kPT gPT bPT GPN kPN gPN bPN GLB kLB gLB bLB GFr kFr gFr bFr GOd kOd gOd bOd GB bB RL RH RG RE gd hr
/-- ahead of the ten values -/
def C7 (K : Frag) (B PT : Addr) (D : Ends) (σ : St) (H : Hp) : Prop := ∃ (p D1 R1 D2 R2 N x W U : Addr) (ps1 ps2 : List Addr) (ls1 ls2 : List Ln) (h1 h2 k : Int) (v8 v9 v10 v11 : Option V),
  σ = [some (.ref p), some (.ref D1), some (.ref D2), some (.str (planText h1 ls1)), some (.ref N), some (.ref x), some (.ref W), some (.ref U), v8, v9, v10, v11] ∧ Sta7 p R1 R2 N ls1 ls2 h1 h2 ∧ Lay7 B D1 R1 D2 R2 N x ps1 ps2 ls1 ls2 h1 h2 H ∧
  0 ≤ k ∧ k < 1000000 ∧ Pot H p k ∧ Tabs [(PT, qR)] H ∧ ∀ H', ExtB p H H' → Pot H' p (k + 1) → Tabs [(PT, qR)] H' → D.rt (.bl true) H'
theorem right_seven (REST : ∃ t, PSs (cxOf CX0 P w K mg bs ["pot", "lore", "other", "text", "names", "plan", "walls", "told", "line", "odd", "value", "caught"] "_law_right" (defScope sRight) f (.ref c) A outer s H E) ((defBody sRight).drop 8) t ∧ ∀ (D : Ends) (σ : St) (Hn : Hp), C8 K B PT D σ Hn → t D σ Hn) : ∃ t, PSs (cxOf CX0 P w K mg bs ["pot", "lore", "other", "text", "names", "plan", "walls", "told", "line", "odd", "value", "caught"] "_law_right" (defScope sRight) f (.ref c) A outer s H E) ((defBody sRight).drop 7) t ∧ ∀ (D : Ends) (σ : St) (Hn : Hp), C7 K B PT D σ Hn → t D σ Hn := by
  obtain ⟨t9, p9, q9⟩ := REST
  have sc := scRight
  obtain ⟨oc, od, kV, doc, pm, an, cdv, ct, osl, rfl, lk, hcd⟩ := FTo.ex
  have hr1 : Room 1 (A.deeper (envOfC "_law_right" (defScope sRight) s.heap.objs.size f (.ref c))) := hr.mono (by decide)
  have hr2 : Room 2 (A.deeper (envOfC "_law_right" (defScope sRight) s.heap.objs.size f (.ref c))) := hr.mono (by decide)
  have hr3 : Room 3 (A.deeper (envOfC "_law_right" (defScope sRight) s.heap.objs.size f (.ref c))) := hr.mono (by decide)
  have hr4 : Room 4 (A.deeper (envOfC "_law_right" (defScope sRight) s.heap.objs.size f (.ref c))) := hr.mono (by decide)
  have hu := hu_of hr
  refine ⟨_, pss_cons (ps_set (i := 9) sc.nd rfl (Or.inl rfl) (pe_lst (pa_cons pe_str (pa_cons pe_str (pa_cons pe_str (pa_cons (pe_op op_add_str (pe_ix (r := rIxL K) ix_list (pv 4) pe_int (fun _ _ => rfl)) pe_str) (pa_cons (pe_upper (pe_ix (r := rIxL K) ix_list (pv 4) pe_int (fun _ _ => rfl))) (pa_cons pe_non (pa_cons pe_int (pa_cons (pe_tup (pa_cons (pe_ix (r := rIxL K) ix_list (pv 4) pe_int (fun _ _ => rfl)) pa_nil)) (pa_cons (pe_lst (pa_cons (pe_ix (r := rIxL K) ix_list (pv 4) pe_int (fun _ _ => rfl)) pa_nil)) (pa_cons (pe_call GOd hr3 (by rfl) gOd kOd bOd .nil pass0 (pa_cons (pv 0) pa_nil)) pa_nil)))))))))))) p9, fun DD σ Hn h => ?_⟩
  obtain ⟨p, D1, R1, D2, R2, N, x, W, U, ps1, ps2, ls1, ls2, h1, h2, t, v8, v9, v10, v11, rfl, st, ly, t0, ht, hP, hT, k⟩ := h
  obtain ⟨n0, nr, en⟩ := st.e1
  have hnm := ly.nm
  rw [en] at hnm
  have hin : n0 ∈ poolN := (okL_pool ls1 [] 0 st.ok1 (fun _ h => by cases h)).1 _ (by rw [en]; exact List.mem_cons_self ..)
  obtain ⟨w1, w2, w3, w4⟩ := pool_ok8 n0 hin
  obtain ⟨x1, x2, x3, x4, x5⟩ := word_ok8
  have l8 := pool_len8 n0 hin
  refine rd_seq (rd_set ?_)
  refine ⟨_, rfl, N, _, 0, .str n0, rfl, rfl, SqL.of hnm, at0 _ _, n0, "!", rfl, rfl, Nat.le_trans (Nat.add_le_add_right l8 _) (by decide +kernel), ?_⟩
  refine ⟨_, rfl, N, _, 0, .str n0, rfl, rfl, SqL.of hnm, at0 _ _, ⟨n0, rfl⟩, n0, rfl, rfl, Nat.le_trans l8 (by decide), ?_⟩
  refine ⟨_, rfl, N, _, 0, .str n0, rfl, rfl, SqL.of hnm, at0 _ _, (by exact (by decide : 1 ≤ sizeLine)), fun A1 hA1 => ?_⟩
  have t1 : Same Hn (upd Hn A1 (.tup [.str n0])) := same_new hA1
  have f1 : upd Hn A1 (.tup [.str n0]) A1 = some (.tup [.str n0]) := upd_same
  have nA1 : A1 ≠ p := hP.ne hA1
  generalize upd Hn A1 (.tup [.str n0]) = G1 at t1 f1 ⊢
  refine ⟨_, rfl, N, _, 0, .str n0, rfl, rfl, SqL.of (t1 _ _ hnm), at0 _ _, (by exact (by decide : 1 ≤ sizeLine)), fun A2 hA2 => ?_⟩
  have t2 : Same G1 (upd G1 A2 (.lst [.str n0])) := same_new hA2
  have f2 : upd G1 A2 (.lst [.str n0]) A2 = some (.lst [.str n0]) := upd_same
  have nA2 : A2 ≠ p := (hP.same t1).ne hA2
  have hP2 := (hP.same t1).same t2
  have f1' := t2 _ _ f1
  generalize upd G1 A2 (.lst [.str n0]) = G2 at t2 f2 hP2 f1' ⊢
  refine ⟨_, rfl, p, t, rfl, ht, hP2, fun G3 vO dO k3 hP3 hdO hvO => ?_⟩
  have f1'' := k3 _ _ nA1 f1'
  have f2' := k3 _ _ nA2 f2
  have kE : But p Hn G3 := (But.of t1).trans ((But.of t2).trans k3)
  refine ⟨(by exact (by decide : 10 ≤ sizeLine)), fun O hO => ?_⟩
  have e10 : [V.str "nobody", .str "", .str "0", .str (n0 ++ "!"), .str (Txt.upper n0), .non, .int 0, .ref A1, .ref A2, vO] = [V.str "nobody", .str "", .str "0", .str (n0 ++ "!"), .str (Txt.upper n0), .non, .int 0, .ref A1, .ref A2, vO] := rfl
  have t9 : Same G3 (upd G3 O (.lst [.str "nobody", .str "", .str "0", .str (n0 ++ "!"), .str (Txt.upper n0), .non, .int 0, .ref A1, .ref A2, vO])) := same_new hO
  have f9 : upd G3 O (.lst [.str "nobody", .str "", .str "0", .str (n0 ++ "!"), .str (Txt.upper n0), .non, .int 0, .ref A1, .ref A2, vO]) O = some (.lst [.str "nobody", .str "", .str "0", .str (n0 ++ "!"), .str (Txt.upper n0), .non, .int 0, .ref A1, .ref A2, vO]) := upd_same
  have f1g := t9 _ _ f1''
  have f2g := t9 _ _ f2'
  have hvg := Dd_keep (awy_le.trans t9) hvO
  have kG : But p Hn (upd G3 O (.lst [.str "nobody", .str "", .str "0", .str (n0 ++ "!"), .str (Txt.upper n0), .non, .int 0, .ref A1, .ref A2, vO])) := kE.trans (But.of t9)
  have hPg := hP3.same t9
  generalize upd G3 O (.lst [.str "nobody", .str "", .str "0", .str (n0 ++ "!"), .str (Txt.upper n0), .non, .int 0, .ref A1, .ref A2, vO]) = G4 at f9 f1g f2g hvg kG hPg ⊢
  have hTg : Tabs [(PT, qR)] G4 := tabs_but hT hP kG
  have hvals : ∀ v ∈ [V.str "nobody", .str "", .str "0", .str (n0 ++ "!"), .str (Txt.upper n0), .non, .int 0, .ref A1, .ref A2, vO], Val8 K G4 v := by
    intro v hv
    simp only [List.mem_cons, List.not_mem_nil, or_false] at hv
    rcases hv with rfl | rfl | rfl | rfl | rfl | rfl | rfl | rfl | rfl | rfl
    · exact ⟨_, .str _, x1⟩
    · exact ⟨_, .str _, x2⟩
    · exact ⟨_, .str _, x3⟩
    · exact ⟨_, .str _, w1⟩
    · exact ⟨_, .str _, w2⟩
    · exact ⟨_, .non, x4⟩
    · exact ⟨_, .int _, x5⟩
    · exact ⟨_, .tup (SqT.of f1g) (.cons (.str _) .nil), w3⟩
    · exact ⟨_, .lst (SqL.of f2g) (.cons (.str _) .nil), w4⟩
    · exact ⟨_, hvg, odd_ok _ hdO⟩
  exact q9 _ _ _ ⟨p, D1, R1, D2, R2, N, x, W, U, O, ps1, ps2, ls1, ls2, h1, h2, _, _, _, _, rfl, st, ly.but st hP kG, f9, hvals, hTg, fun H' e hT' => k H' ((ExtB.of kG).trans (ExtB.ofN e)) (hPg.ext e) hT'⟩
end
end L2.K07

set_option Elab.async false
set_option linter.all false
set_option maxRecDepth 100000
set_option maxHeartbeats 8000000
namespace L2.K07
open PySem PySem.Spec PyProof.Rows L2.Vx
open PySem.W (Frag)
open LamX (CodeO Tabs TabS TabB ExtN LamS lamEnv lamCx lamS_by)
section
variable {P : Program} {w : World} {K : Frag} {mg : Str → Option Value} {bs : Heap}
variable {f c PT fB gL gH gG gE fTo fT fSP fPT fPN fLB fFr fOd B C CN D fIN : Addr} {fd fdB fdL fdH fdG fdE fdTo fdT fdSP fdPT fdPN fdLB fdFr fdOd : FuncData}
variable (TB : TabB bs mg c PT) (F : FxRt7 K mg B CN D fIN fB) (FK : FxBk7 K B gL gH gG gE) (FDx : Dx mg)
variable (FTo : FD K "_law_told" sTold fTo fdTo) (gTo : mg "_law_told" = some (.ref fTo)) (bTo : Binds K fdTo ["look"] [])
variable (GT : FnOk P w K mg bs CX0 1 fT fdT ["pot", "upto"] spTake) (kT : PySem.W.keepIn K (.ref fT) = true) (gT : mg "_law_take" = some (.ref fT)) (bT : Binds K fdT ["pot", "upto"] [])
variable (GSP : FnOk P w K mg bs CX0 4 fSP fdSP ["pot", "points", "walls", "most"] (spSomeP K)) (kSP : PySem.W.keepIn K (.ref fSP) = true) (gSP : mg "_law_some_plan" = some (.ref fSP)) (bSP : Binds K fdSP ["pot", "points", "walls", "most"] [])
variable (GPT : FnOk P w K mg bs CX0 2 fPT fdPT ["plan"] (spPText K)) (kPT : PySem.W.keepIn K (.ref fPT) = true) (gPT : mg "_law_plan_text" = some (.ref fPT)) (bPT : Binds K fdPT ["plan"] [])
variable (GPN : FnOk P w K mg bs CX0 1 fPN fdPN ["plan"] (spPNames K)) (kPN : PySem.W.keepIn K (.ref fPN) = true) (gPN : mg "_law_point_names" = some (.ref fPN)) (bPN : Binds K fdPN ["plan"] [])
variable (GLB : FnOk P w K mg bs CX0 1 fLB fdLB ["plan", "line"] (spLB K)) (kLB : PySem.W.keepIn K (.ref fLB) = true) (gLB : mg "_law_bound" = some (.ref fLB)) (bLB : Binds K fdLB ["plan", "line"] [])
variable (GFr : FnOk P w K mg bs CX0 3 fFr fdFr ["pot", "lore"] (spFar K)) (kFr : PySem.W.keepIn K (.ref fFr) = true) (gFr : mg "_law_far" = some (.ref fFr)) (bFr : Binds K fdFr ["pot", "lore"] [])
variable (GOd : FnOk P w K mg bs CX0 3 fOd fdOd ["pot"] (spOdd K)) (kOd : PySem.W.keepIn K (.ref fOd) = true) (gOd : mg "_law_odd" = some (.ref fOd)) (bOd : Binds K fdOd ["pot"] [])
variable (GB : FnOk P w K mg bs (L2.CX P w) 7 fB fdB ["self", "text"] (spPInit K B C)) (bB : Binds K fdB ["self", "text"] [])
variable (RL : FnR P w K mg bs CX0 1 gL (spPLen B)) (RH : FnR P w K mg bs CX0 1 gH (spPHas K B)) (RG : FnR P w K mg bs (L2.CX P w) 2 gG (spPGet K B CN)) (RE : FnR P w K mg bs CX0 1 gE (spPEq B))
variable (A : Around) (outer : List Env) (s : Shared) (H : Hp) (E : XK) (gd : A.guards = some []) (hr : Room 8 (A.deeper (envOfC "_law_right" (defScope sRight) s.heap.objs.size f (.ref c))))
include TB F FK FDx FTo gTo bTo GT kT gT bT GSP kSP gSP bSP GPT kPT gPT bPT GPN kPN gPN bPN GLB kLB gLB bLB GFr kFr gFr bFr GOd kOd gOd bOd GB bB RL RH RG RE gd hr
/-- ahead of the loop over the lines -/
theorem right_six (REST : ∃ t, PSs (cxOf CX0 P w K mg bs ["pot", "lore", "other", "text", "names", "plan", "walls", "told", "line", "odd", "value", "caught"] "_law_right" (defScope sRight) f (.ref c) A outer s H E) ((defBody sRight).drop 7) t ∧ ∀ (D : Ends) (σ : St) (Hn : Hp), C7 K B PT D σ Hn → t D σ Hn) : ∃ t, PSs (cxOf CX0 P w K mg bs ["pot", "lore", "other", "text", "names", "plan", "walls", "told", "line", "odd", "value", "caught"] "_law_right" (defScope sRight) f (.ref c) A outer s H E) ((defBody sRight).drop 6) t ∧ ∀ (D : Ends) (σ : St) (Hn : Hp), C7 K B PT D σ Hn → t D σ Hn := by
  obtain ⟨t9, p9, q9⟩ := REST
  have sc := scRight
  obtain ⟨oc, od, kV, doc, pm, an, cdv, ct, osl, rfl, lk, hcd⟩ := FTo.ex
  have hr1 : Room 1 (A.deeper (envOfC "_law_right" (defScope sRight) s.heap.objs.size f (.ref c))) := hr.mono (by decide)
  have hr2 : Room 2 (A.deeper (envOfC "_law_right" (defScope sRight) s.heap.objs.size f (.ref c))) := hr.mono (by decide)
  have hr3 : Room 3 (A.deeper (envOfC "_law_right" (defScope sRight) s.heap.objs.size f (.ref c))) := hr.mono (by decide)
  have hr4 : Room 4 (A.deeper (envOfC "_law_right" (defScope sRight) s.heap.objs.size f (.ref c))) := hr.mono (by decide)
  have hu := hu_of hr
  refine ⟨_, pss_cons (ps_for (passes_of rfl) rfl (pi_list (pe_dget hu (pv 1) pe_str (fun _ _ => rfl))) (pg_name (i := 8) sc.nd rfl (Or.inl rfl))
    (pss_cons (ps_if (PW.pt (pw_and (pt_cmpR op_eq (pe_ix (r := rIxT K) ix_tup (pv 8) pe_int (fun _ _ => rfl)) pe_str (nomark _)) (pw_and1 (pt_cmpR (op_notInOwn FK.sH FK.fH RH hr1 pass0) (pe_ix (r := rIxT K) ix_tup (pv 8) pe_int (fun _ _ => rfl)) (pv 5) rfl)))) (pss_one (ps_ret pe_bl)) pss_nil)
    (pss_one (ps_if (PW.pt (pw_and (pt_cmpR op_eq (pe_ix (r := rIxT K) ix_tup (pv 8) pe_int (fun _ _ => rfl)) pe_str (nomark _)) (pw_and1 (pt_cmpR op_ne (pe_callB (call_repr gd hr.units) (by rfl) F.rep boot_repr (pa_cons (pe_itemOwn FK.sG FK.nG FK.fG RG hr3 passN (pv 5) (pe_ix (r := rIxT K) ix_tup (pv 8) pe_int (fun _ _ => rfl))) pa_nil)) (pe_callB (call_repr gd hr.units) (by rfl) F.rep boot_repr (pa_cons (pe_tup (pa_cons (pe_ix (r := rIxT K) ix_tup (pv 8) pe_int (fun _ _ => rfl)) (pa_cons (pe_call GLB hr1 (by rfl) gLB kLB bLB .nil pass0 (pa_cons (pv 1) (pa_cons (pv 8) pa_nil))) pa_nil))) pa_nil)) (nomark _))))) (pss_one (ps_ret pe_bl)) pss_nil)))) p9, fun DD σ Hn h => ?_⟩
  obtain ⟨p, D1, R1, D2, R2, N, x, W, U, ps1, ps2, ls1, ls2, h1, h2, t, v8, v9, v10, v11, rfl, st, ly, t0, ht, hP, hT, k⟩ := h
  have hnm := clks_names h1 ls1 []
  have hshp : ∀ c ∈ clksOf h1 [] ls1, SeqAt.shaped (.str c.name) = true := fun c hc => pool_shaped _ ((okL_pool ls1 [] 0 st.ok1 (fun _ h => by cases h)).1 _ (by rw [← hnm]; exact List.mem_map_of_mem hc))
  refine rd_seq ?_
  refine ⟨_, rfl, D1, .ref R1, rfl, DGet.k (k := Sum.inr "lines") ly.d1, R1, rfl, ⟨_, SqL.of ly.r1⟩, for_it (walk_list (K := K) (a := R1) (xs := ps1.map V.ref)) (fun i σ H' => ∃ v8 : Option V, σ = [some (.ref p), some (.ref D1), some (.ref D2), some (.str (planText h1 ls1)), some (.ref N), some (.ref x), some (.ref W), some (.ref U), v8, v9, v10, v11] ∧ Same Hn H') ⟨v8, rfl, Same.refl _⟩ (fun i σ H' _ u => ?_) ?_ ?_⟩
  · obtain ⟨_, _, u⟩ := u
    exact SqL.of (u _ _ ly.r1)
  · rintro i v σ G5 G6 hi ⟨v8, rfl, sG⟩ ⟨rfl, hy⟩
    have hi' : i < ps1.length := by simpa using hi
    have hi2 : i < ls1.length := by rw [← ly.l1.1]; exact hi'
    rw [List.getElem?_map, List.getElem?_eq_getElem hi'] at hy
    cases hy
    have ly6 := ly.same sG
    have la := ly6.l1.2 i _ _ (List.getElem?_eq_getElem hi') (List.getElem?_eq_getElem hi2)
    have hmem : ls1[i] ∈ ls1 := List.getElem_mem hi2
    generalize ls1[i] = l at la hmem
    generalize ps1[i] = q at la
    obtain ⟨dx, pt, wt, ct, ps, qs, hx, hrest⟩ := ly6.pl
    cases l with
    | wl a b =>
      have la : G6 q = some (.tup [.str "wall", .str a, .str b]) := la
      refine rd_seq (rd_if ?_)
      refine ⟨_, rfl, q, _, 0, .str "wall", rfl, rfl, SqT.of la, rfl, rfl, _, rfl, ?_⟩
      refine Eq.mpr (if_neg (by decide +kernel)) ?_
      refine Eq.mpr (if_neg (by decide)) ?_
      dsimp only [tNext]
      refine rd_if ?_
      refine ⟨_, rfl, q, _, 0, .str "wall", rfl, rfl, SqT.of la, rfl, rfl, _, rfl, ?_⟩
      refine Eq.mpr (if_neg (by decide +kernel)) ?_
      refine Eq.mpr (if_neg (by decide)) ?_
      exact ⟨_, rfl, sG⟩
    | pt n m o =>
      obtain ⟨qa, la, lb⟩ := la
      obtain ⟨_, ⟨ns2, ha1, ha2⟩, ho, c, hc1, hc2, hc3⟩ := clk_find h1 ls1 [] 0 [] st.ok1 (fun _ h => by cases h) n m o hmem
      have hn1 : n ∈ (clksOf h1 [] ls1).map Clk.name := by
        by_cases hq : n ∈ (clksOf h1 [] ls1).map Clk.name
        · exact hq
        · rw [findC_none _ (fun u e => by cases e; exact hq)] at hc1
          cases hc1
      refine rd_seq (rd_if ?_)
      refine ⟨_, rfl, q, _, 0, .str "point", rfl, rfl, SqT.of la, rfl, rfl, _, rfl, ?_⟩
      refine Eq.mpr (if_pos rfl) ?_
      refine ⟨_, rfl, q, _, 1, .str n, rfl, rfl, SqT.of la, rfl, _, rfl, x, dx, _, rfl, hx, ⟨x, .str n, _, _, _, _, rfl, ly6.pl, .inr ⟨n, rfl, fun H5 s5 => ⟨_, rfl, _, rfl, ?_⟩⟩⟩⟩
      rw [decide_eq_true hn1]
      refine Eq.mpr (if_neg (by decide)) ?_
      dsimp only [tNext]
      refine rd_if ?_
      have la5 := s5 _ _ la
      have ly5 := ly6.same s5
      have hx5 := s5 _ _ hx
      refine ⟨_, rfl, q, _, 0, .str "point", rfl, rfl, SqT.of la5, rfl, rfl, _, rfl, ?_⟩
      refine Eq.mpr (if_pos rfl) ?_
      refine ⟨_, rfl, _, rfl, q, _, 1, .str n, rfl, rfl, SqT.of la5, rfl, x, dx, _, rfl, hx5, ⟨x, .str n, _, _, _, _, rfl, ly5.pl, .inl ⟨n, rfl⟩, hshp, fun c' hc' H7 qa2 T s7 hT0 hq2 hT2 => ?_, fun hn => (by rw [hc1] at hn; cases hn)⟩⟩
      rw [hc1] at hc'
      cases hc'
      rw [hc2] at hq2
      rw [hc3] at hT2
      have hob : 0 ≤ o.getD h1 ∧ o.getD h1 ≤ 99 := by
        cases o with
        | none => exact ⟨st.a1, st.b1⟩
        | some b => exact ho b rfl
      obtain ⟨o1, o2, o3⟩ := aimD_ok ha1 ha2 hob.1 hob.2
      refine ⟨.ref T, aimD m (o.getD h1), rfl, .tup (SqT.of hT2) (.cons (.tup (SqT.of hq2) (aim_dd m)) (.cons (.int _) .nil)), o1, o2, o3, ?_⟩
      have la7 := s7 _ _ la5
      have ly7 := ly5.same s7
      refine ⟨_, rfl, q, _, 2, .ref qa, rfl, rfl, SqT.of la7, rfl, ?_⟩
      refine ⟨_, rfl, _, rfl, D1, R1, q, h1, n, m, o, rfl, ly7.d1, ⟨qa, la7, s7 _ _ (s5 _ _ lb)⟩, ?_⟩
      refine ⟨(by exact (by decide : 2 ≤ sizeLine)), fun U2 hU2 => ?_⟩
      have sU2 : Same H7 (upd H7 U2 (.tup [.ref qa, .int (o.getD h1)])) := same_new hU2
      have fU2 : upd H7 U2 (.tup [.ref qa, .int (o.getD h1)]) U2 = some (.tup [.ref qa, .int (o.getD h1)]) := upd_same
      generalize upd H7 U2 (.tup [.ref qa, .int (o.getD h1)]) = H8 at sU2 fU2 ⊢
      refine ⟨.ref U2, aimD m (o.getD h1), rfl, .tup (SqT.of fU2) (.cons (.tup (SqT.of (sU2 _ _ (s7 _ _ (s5 _ _ lb)))) (aim_dd m)) (.cons (.int _) .nil)), o1, o2, o3, rfl, _, rfl, ?_⟩
      refine Eq.mpr (if_neg (nt rfl)) ?_
      exact ⟨_, rfl, ((sG.trans s5).trans s7).trans sU2⟩
  · rintro σ G5 ⟨v8, rfl, sG⟩
    exact q9 _ _ _ ⟨p, D1, R1, D2, R2, N, x, W, U, ps1, ps2, ls1, ls2, h1, h2, t, _, _, _, _, rfl, st, ly.same sG, t0, ht, hP.same sG, hT.ext sG, fun H' e => k H' ((ExtB.of (But.of sG)).trans e)⟩
end
end L2.K07

set_option Elab.async false
set_option linter.all false
set_option maxRecDepth 100000
set_option maxHeartbeats 4000000
namespace L2.K07
open PySem PySem.Spec PyProof.Rows L2.Vx
open PySem.W (Frag)
open TL (tl)
open LamX (CodeO Tabs TabS TabB ExtN LamS lamEnv lamCx lamS_by)
def toldD (z : Str) (h : Int) (ns : List Str) (wl : List (Str × Str)) : PyData := .tuple [.str z, .int h, .tuple (ns.map PyData.str), .tuple (wl.map wallD), .int (ns.length : Nat)]
theorem nt_self (v : V) : ¬ (!decide (v = v)) = true := by simp
theorem toldD_ok {z : Str} {h : Int} {ns : List Str} {wl : List (Str × Str)} (pz : ∀ c ∈ tl z, c < 16 ^ 8) (lz : z.length ≤ 7000) (h0 : 0 ≤ h) (h9 : h ≤ 99) (h1 : ∀ u ∈ ns, u ∈ poolN) (h2 : ∀ x ∈ wl, x.1 ∈ poolN ∧ x.2 ∈ poolN) (l1 : ns.length ≤ 6) (l2 : wl.length ≤ 4) :
    shOk (toldD z h ns wl) = true ∧ (toldD z h ns wl).depth ≤ 60 ∧ (toldD z h ns wl).shown.length ≤ sizeLine := by
  obtain ⟨a1, a2⟩ := strs_okD ns h1
  obtain ⟨b1, b2, b3⟩ := walls_okD wl h2
  have a3 := depthAll ns
  unfold toldD
  generalize ns.map PyData.str = A at a1 a2 a3
  generalize wl.map wallD = B at b1 b2 b3
  have : z.cps.size = z.length := rfl
  refine show_ok (dOk_tuple (dOk_cons (dOk_str pz) (dOk_cons (dOk_int (by omega) (by omega)) (dOk_cons (dOk_tuple a1) (dOk_cons (dOk_tuple b1) (dOk_cons (dOk_int (by omega) (by omega)) dOk_nil)))))) ?_ ?_
  · simp only [PyData.depth, PyData.depthAll]
    omega
  · simp only [PyData.bulk, PyData.bulkAll]
    omega
section
variable {P : Program} {w : World} {K : Frag} {mg : Str → Option Value} {bs : Heap}
variable {f c PT fB gL gH gG gE fTo fT fSP fPT fPN fLB fFr fOd B C CN D fIN : Addr} {fd fdB fdL fdH fdG fdE fdTo fdT fdSP fdPT fdPN fdLB fdFr fdOd : FuncData}
variable (TB : TabB bs mg c PT) (F : FxRt7 K mg B CN D fIN fB) (FK : FxBk7 K B gL gH gG gE) (FDx : Dx mg)
variable (FTo : FD K "_law_told" sTold fTo fdTo) (gTo : mg "_law_told" = some (.ref fTo)) (bTo : Binds K fdTo ["look"] [])
variable (GT : FnOk P w K mg bs CX0 1 fT fdT ["pot", "upto"] spTake) (kT : PySem.W.keepIn K (.ref fT) = true) (gT : mg "_law_take" = some (.ref fT)) (bT : Binds K fdT ["pot", "upto"] [])
variable (GSP : FnOk P w K mg bs CX0 4 fSP fdSP ["pot", "points", "walls", "most"] (spSomeP K)) (kSP : PySem.W.keepIn K (.ref fSP) = true) (gSP : mg "_law_some_plan" = some (.ref fSP)) (bSP : Binds K fdSP ["pot", "points", "walls", "most"] [])
variable (GPT : FnOk P w K mg bs CX0 2 fPT fdPT ["plan"] (spPText K)) (kPT : PySem.W.keepIn K (.ref fPT) = true) (gPT : mg "_law_plan_text" = some (.ref fPT)) (bPT : Binds K fdPT ["plan"] [])
variable (GPN : FnOk P w K mg bs CX0 1 fPN fdPN ["plan"] (spPNames K)) (kPN : PySem.W.keepIn K (.ref fPN) = true) (gPN : mg "_law_point_names" = some (.ref fPN)) (bPN : Binds K fdPN ["plan"] [])
variable (GLB : FnOk P w K mg bs CX0 1 fLB fdLB ["plan", "line"] (spLB K)) (kLB : PySem.W.keepIn K (.ref fLB) = true) (gLB : mg "_law_bound" = some (.ref fLB)) (bLB : Binds K fdLB ["plan", "line"] [])
variable (GFr : FnOk P w K mg bs CX0 3 fFr fdFr ["pot", "lore"] (spFar K)) (kFr : PySem.W.keepIn K (.ref fFr) = true) (gFr : mg "_law_far" = some (.ref fFr)) (bFr : Binds K fdFr ["pot", "lore"] [])
variable (GOd : FnOk P w K mg bs CX0 3 fOd fdOd ["pot"] (spOdd K)) (kOd : PySem.W.keepIn K (.ref fOd) = true) (gOd : mg "_law_odd" = some (.ref fOd)) (bOd : Binds K fdOd ["pot"] [])
variable (GB : FnOk P w K mg bs (L2.CX P w) 7 fB fdB ["self", "text"] (spPInit K B C)) (bB : Binds K fdB ["self", "text"] [])
variable (RL : FnR P w K mg bs CX0 1 gL (spPLen B)) (RH : FnR P w K mg bs CX0 1 gH (spPHas K B)) (RG : FnR P w K mg bs (L2.CX P w) 2 gG (spPGet K B CN)) (RE : FnR P w K mg bs CX0 1 gE (spPEq B))
variable (A : Around) (outer : List Env) (s : Shared) (H : Hp) (E : XK) (gd : A.guards = some []) (hr : Room 8 (A.deeper (envOfC "_law_right" (defScope sRight) s.heap.objs.size f (.ref c))))
include TB F FK FDx FTo gTo bTo GT kT gT bT GSP kSP gSP bSP GPT kPT gPT bPT GPN kPN gPN bPN GLB kLB gLB bLB GFr kFr gFr bFr GOd kOd gOd bOd GB bB RL RH RG RE gd hr
/-- ahead of what is told of the plan as a whole -/
def C5 (K : Frag) (B PT : Addr) (D : Ends) (σ : St) (H : Hp) : Prop := ∃ (p D1 R1 D2 R2 N x W U pt wt : Addr) (ps1 ps2 qs ws : List Addr) (ls1 ls2 : List Ln) (h1 h2 k : Int) (v8 v9 v10 v11 : Option V),
  σ = [some (.ref p), some (.ref D1), some (.ref D2), some (.str (planText h1 ls1)), some (.ref N), some (.ref x), some (.ref W), some (.ref U), v8, v9, v10, v11] ∧ Sta7 p R1 R2 N ls1 ls2 h1 h2 ∧ Lay7 B D1 R1 D2 R2 N x ps1 ps2 ls1 ls2 h1 h2 H ∧
  H U = some (.tup [.str (planText h1 ls1), .int h1, .ref pt, .ref wt, .int ((nmsOf ls1).length : Nat)]) ∧ H pt = some (.tup ((nmsOf ls1).map V.str)) ∧ H wt = some (.tup (qs.map V.ref)) ∧ WsAt H qs (wlsOf ls1) ∧ H W = some (.lst (ws.map V.ref)) ∧ WsAt H ws (wlsOf ls1) ∧
  0 ≤ k ∧ k < 1000000 ∧ Pot H p k ∧ Tabs [(PT, qR)] H ∧ ∀ H', ExtB p H H' → Pot H' p (k + 1) → Tabs [(PT, qR)] H' → D.rt (.bl true) H'
theorem right_five (REST : ∃ t, PSs (cxOf CX0 P w K mg bs ["pot", "lore", "other", "text", "names", "plan", "walls", "told", "line", "odd", "value", "caught"] "_law_right" (defScope sRight) f (.ref c) A outer s H E) ((defBody sRight).drop 6) t ∧ ∀ (D : Ends) (σ : St) (Hn : Hp), C7 K B PT D σ Hn → t D σ Hn) : ∃ t, PSs (cxOf CX0 P w K mg bs ["pot", "lore", "other", "text", "names", "plan", "walls", "told", "line", "odd", "value", "caught"] "_law_right" (defScope sRight) f (.ref c) A outer s H E) ((defBody sRight).drop 5) t ∧ ∀ (D : Ends) (σ : St) (Hn : Hp), C5 K B PT D σ Hn → t D σ Hn := by
  obtain ⟨t9, p9, q9⟩ := REST
  have sc := scRight
  obtain ⟨oc, od, kV, doc, pm, an, cdv, ct, osl, rfl, lk, hcd⟩ := FTo.ex
  have hr1 : Room 1 (A.deeper (envOfC "_law_right" (defScope sRight) s.heap.objs.size f (.ref c))) := hr.mono (by decide)
  have hr2 : Room 2 (A.deeper (envOfC "_law_right" (defScope sRight) s.heap.objs.size f (.ref c))) := hr.mono (by decide)
  have hr3 : Room 3 (A.deeper (envOfC "_law_right" (defScope sRight) s.heap.objs.size f (.ref c))) := hr.mono (by decide)
  have hr4 : Room 4 (A.deeper (envOfC "_law_right" (defScope sRight) s.heap.objs.size f (.ref c))) := hr.mono (by decide)
  have hu := hu_of hr
  refine ⟨_, pss_cons (ps_if (pt_cmpR op_ne (pe_callB (call_repr gd hr.units) (by rfl) F.rep boot_repr (pa_cons (pv 7) pa_nil)) (pe_callB (call_repr gd hr.units) (by rfl) F.rep boot_repr (pa_cons (pe_tup (pa_cons (pv 3) (pa_cons (pe_dget hu (pv 1) pe_str (fun _ _ => rfl)) (pa_cons (pe_callTy call_tuple_of (by rfl) F.tup boot_tuple (pa_cons (pv 4) pa_nil)) (pa_cons (pe_callTy call_tuple_of (by rfl) F.tup boot_tuple (pa_cons (pv 6) pa_nil)) (pa_cons (pe_callB call_len_seq (by rfl) F.len boot_len (pa_cons (pv 4) pa_nil)) pa_nil)))))) pa_nil)) (nomark _)) (pss_one (ps_ret pe_bl)) pss_nil) p9, fun DD σ Hn h => ?_⟩
  obtain ⟨p, D1, R1, D2, R2, N, x, W, U, pt, wt, ps1, ps2, qs, ws, ls1, ls2, h1, h2, t, v8, v9, v10, v11, rfl, st, ly, hU, hpt, hwt, hqs, hW, hws, t0, ht, hP, hT, k⟩ := h
  obtain ⟨pn, pw⟩ := okL_pool ls1 [] 0 st.ok1 (fun _ h => by cases h)
  obtain ⟨c1, c2⟩ := okL_count ls1 [] 0 st.ok1 (by decide) (by decide)
  obtain ⟨o1, o2, o3⟩ := toldD_ok (plan_plain st.a1 st.b1 st.ok1) (plan_len st.a1 st.b1 st.ok1) st.a1 st.b1 pn pw (by simpa using c1) (by simpa using c2)
  refine rd_seq (rd_if ?_)
  have eD : toldD (planText h1 ls1) h1 (nmsOf ls1) (wlsOf ls1) = .tuple [.str (planText h1 ls1), .int h1, .tuple ((nmsOf ls1).map PyData.str), .tuple ((wlsOf ls1).map wallD), .int ((nmsOf ls1).length : Nat)] := rfl
  have dU : Dd K Hn (.ref U) (toldD (planText h1 ls1) h1 (nmsOf ls1) (wlsOf ls1)) := eD ▸ .tup (SqT.of hU) (.cons (.str _) (.cons (.int _) (.cons (.tup (SqT.of hpt) (strs_dd _)) (.cons (.tup (SqT.of hwt) (ws_dd hqs)) (.cons (.int _) .nil)))))
  generalize toldD (planText h1 ls1) h1 (nmsOf ls1) (wlsOf ls1) = dT at eD dU o1 o2 o3
  refine ⟨_, rfl, .ref U, dT, rfl, dU, o1, o2, o3, ?_⟩
  refine ⟨_, rfl, _, rfl, D1, .int h1, rfl, DGet.k (k := Sum.inr "hand") ly.d1, _, rfl, N, _, rfl, .inl ⟨SqL.of ly.nm, fun V0 hV0 => ?_⟩⟩
  have s1 : Same Hn (upd Hn V0 (.tup ((nmsOf ls1).map V.str))) := same_new hV0
  have f1 : upd Hn V0 (.tup ((nmsOf ls1).map V.str)) V0 = some (.tup ((nmsOf ls1).map V.str)) := upd_same
  generalize upd Hn V0 (.tup ((nmsOf ls1).map V.str)) = G1 at s1 f1 ⊢
  refine ⟨_, rfl, W, _, rfl, .inl ⟨SqL.of (s1 _ _ hW), fun V1 hV1 => ?_⟩⟩
  have s2 : Same G1 (upd G1 V1 (.tup (ws.map V.ref))) := same_new hV1
  have f2 : upd G1 V1 (.tup (ws.map V.ref)) V1 = some (.tup (ws.map V.ref)) := upd_same
  generalize upd G1 V1 (.tup (ws.map V.ref)) = G2 at s2 f2 ⊢
  have s12 := s1.trans s2
  refine ⟨_, rfl, N, _, rfl, .inl (SqL.of (s12 _ _ ly.nm)), (by exact (by decide : 5 ≤ sizeLine)), fun V2 hV2 => ?_⟩
  rw [List.length_map]
  have s3 : Same G2 (upd G2 V2 (.tup [.str (planText h1 ls1), .int h1, .ref V0, .ref V1, .int ((nmsOf ls1).length : Nat)])) := same_new hV2
  have f3 : upd G2 V2 (.tup [.str (planText h1 ls1), .int h1, .ref V0, .ref V1, .int ((nmsOf ls1).length : Nat)]) V2 = some (.tup [.str (planText h1 ls1), .int h1, .ref V0, .ref V1, .int ((nmsOf ls1).length : Nat)]) := upd_same
  generalize upd G2 V2 (.tup [.str (planText h1 ls1), .int h1, .ref V0, .ref V1, .int ((nmsOf ls1).length : Nat)]) = G3 at s3 f3 ⊢
  have s13 := s12.trans s3
  have dV : Dd K G3 (.ref V2) dT := eD ▸ .tup (SqT.of f3) (.cons (.str _) (.cons (.int _) (.cons (.tup (SqT.of (s3 _ _ (s2 _ _ f1))) (strs_dd _)) (.cons (.tup (SqT.of (s3 _ _ f2)) (ws_dd (hws.map (tup_same s13)))) (.cons (.int _) .nil)))))
  refine ⟨.ref V2, dT, rfl, dV, o1, o2, o3, rfl, _, rfl, ?_⟩
  refine Eq.mpr (if_neg (nt_self _)) ?_
  exact q9 _ _ _ ⟨p, D1, R1, D2, R2, N, x, W, U, ps1, ps2, ls1, ls2, h1, h2, t, _, _, _, _, rfl, st, ly.same s13, t0, ht, hP.same s13, hT.ext s13, fun H' e => k H' ((ExtB.of (But.of s13)).trans e)⟩
end
end L2.K07

set_option Elab.async false
set_option linter.all false
set_option maxRecDepth 100000
set_option maxHeartbeats 400000
namespace L2.K07
open PySem PySem.Spec PyProof.Rows L2.Vx
open PySem.W (Frag)
open LamX (CodeO Tabs TabS TabB ExtN LamS lamEnv lamCx lamS_by)
/-- the drawn plan, or the same with great numbers -/
theorem far_step {P : Program} {w : World} {K : Frag} {p D R : Addr} {ps : List Addr} {ls : List Ln} {h t : Int} {σ : St} {H : Hp} {Q : VK} (h0 : σ[0]? = some (some (.ref p))) (h1 : σ[1]? = some (some (.ref D))) (hD : H D = some (.dK (lrD h R))) (nD : D ≠ p) (nR : R ≠ p) (hR : H R = some (.lst (ps.map V.ref))) (hl : LnsAt H ps ls)
    (ok : okL [] 0 ls) (a : 0 ≤ h) (b : h ≤ 99) (t0 : 0 ≤ t) (ht : t < 600000) (hP : Pot H p t)
    (q : ∀ H' D' R' ps' ls' h', But p H H' → Pot H' p (t + 50) → R' ≠ p → H' D' = some (.dK (lrD h' R')) → H' R' = some (.lst (ps'.map V.ref)) → LnsAt H' ps' ls' → okL [] 0 ls' → nmsOf ls' = nmsOf ls → 0 ≤ h' → h' ≤ 99 → Q (.ref D') H') :
    (tIf (tTest (tOp rEq (tCall spTake [] E0 (tCons (tVar 0) (tCons (tC (.int 3)) tNil))) (tC (.int 0)))) (tCall (spFar K) [] E0 (tCons (tVar 0) (tCons (tVar 1) tNil))) (tVar 1)) σ H Q := by
  refine ⟨_, h0, p, 3, t, rfl, by decide, by decide, by omega, hP, fun H1 i k1 hP1 i0 i3 => ⟨rfl, _, rfl, ?_⟩⟩
  have hD1 := k1 _ _ nD hD
  have hR1 := k1 _ _ nR hR
  have kt : ∀ y vs, H y = some (.tup vs) → H1 y = some (.tup vs) := by
    obtain ⟨o, c, d, ep, _⟩ := hP
    exact fun y vs q => k1 _ _ (fun z => by rw [z, ep] at q; cases q) q
  have hl1 := hl.map kt
  by_cases hi : V.int i = V.int 0
  · refine Eq.mpr (if_pos (decide_eq_true hi)) ?_
    refine ⟨_, h0, _, h1, p, D, R, ps, ls, h, t + 1, rfl, hD1, nD, nR, hR1, hl1, ok, by omega, by omega, hP1, fun H2 D' R' ps' ls' h' k2 hP2 hD0 hR0 hD' hR' hl' ok' e a' b' => ?_⟩
    exact q H2 D' R' ps' ls' h' (k1.trans k2) (hP2.mono (by omega)) (hP1.ne hR0) hD' hR' hl' ok' e a' b'
  · refine Eq.mpr (if_neg (fun z => hi (of_decide_eq_true z))) ?_
    exact ⟨_, h1, q H1 D R ps ls h k1 (hP1.mono (by omega)) nR hD1 hR1 hl1 ok rfl a b⟩
theorem lns_but {H H' : Hp} {p : Addr} {k : Int} {ps : List Addr} {ls : List Ln} (l : LnsAt H ps ls) (hP : Pot H p k) (b : But p H H') : LnsAt H' ps ls := by
  obtain ⟨o, c, d, ep, _⟩ := hP
  exact l.map fun y vs q => b _ _ (fun z => by rw [z, ep] at q; cases q) q
theorem wls_take {ls : List Ln} {j : Nat} (h : j < ls.length) : wlsOf (ls.take (j + 1)) = wlsOf (ls.take j) ++ wlsOf [ls[j]] := by
  rw [List.take_succ, List.getElem?_eq_getElem h, wls_app]
  rfl
section
variable {P : Program} {w : World} {K : Frag} {mg : Str → Option Value} {bs : Heap}
variable {f c PT fB gL gH gG gE fTo fT fSP fPT fPN fLB fFr fOd B C CN D fIN : Addr} {fd fdB fdL fdH fdG fdE fdTo fdT fdSP fdPT fdPN fdLB fdFr fdOd : FuncData}
variable (TB : TabB bs mg c PT) (F : FxRt7 K mg B CN D fIN fB) (FK : FxBk7 K B gL gH gG gE) (FDx : Dx mg)
variable (FTo : FD K "_law_told" sTold fTo fdTo) (gTo : mg "_law_told" = some (.ref fTo)) (bTo : Binds K fdTo ["look"] [])
variable (GT : FnOk P w K mg bs CX0 1 fT fdT ["pot", "upto"] spTake) (kT : PySem.W.keepIn K (.ref fT) = true) (gT : mg "_law_take" = some (.ref fT)) (bT : Binds K fdT ["pot", "upto"] [])
variable (GSP : FnOk P w K mg bs CX0 4 fSP fdSP ["pot", "points", "walls", "most"] (spSomeP K)) (kSP : PySem.W.keepIn K (.ref fSP) = true) (gSP : mg "_law_some_plan" = some (.ref fSP)) (bSP : Binds K fdSP ["pot", "points", "walls", "most"] [])
variable (GPT : FnOk P w K mg bs CX0 2 fPT fdPT ["plan"] (spPText K)) (kPT : PySem.W.keepIn K (.ref fPT) = true) (gPT : mg "_law_plan_text" = some (.ref fPT)) (bPT : Binds K fdPT ["plan"] [])
variable (GPN : FnOk P w K mg bs CX0 1 fPN fdPN ["plan"] (spPNames K)) (kPN : PySem.W.keepIn K (.ref fPN) = true) (gPN : mg "_law_point_names" = some (.ref fPN)) (bPN : Binds K fdPN ["plan"] [])
variable (GLB : FnOk P w K mg bs CX0 1 fLB fdLB ["plan", "line"] (spLB K)) (kLB : PySem.W.keepIn K (.ref fLB) = true) (gLB : mg "_law_bound" = some (.ref fLB)) (bLB : Binds K fdLB ["plan", "line"] [])
variable (GFr : FnOk P w K mg bs CX0 3 fFr fdFr ["pot", "lore"] (spFar K)) (kFr : PySem.W.keepIn K (.ref fFr) = true) (gFr : mg "_law_far" = some (.ref fFr)) (bFr : Binds K fdFr ["pot", "lore"] [])
variable (GOd : FnOk P w K mg bs CX0 3 fOd fdOd ["pot"] (spOdd K)) (kOd : PySem.W.keepIn K (.ref fOd) = true) (gOd : mg "_law_odd" = some (.ref fOd)) (bOd : Binds K fdOd ["pot"] [])
variable (GB : FnOk P w K mg bs (L2.CX P w) 7 fB fdB ["self", "text"] (spPInit K B C)) (bB : Binds K fdB ["self", "text"] [])
variable (RL : FnR P w K mg bs CX0 1 gL (spPLen B)) (RH : FnR P w K mg bs CX0 1 gH (spPHas K B)) (RG : FnR P w K mg bs (L2.CX P w) 2 gG (spPGet K B CN)) (RE : FnR P w K mg bs CX0 1 gE (spPEq B))
variable (A : Around) (outer : List Env) (s : Shared) (H : Hp) (E : XK) (gd : A.guards = some []) (hr : Room 8 (A.deeper (envOfC "_law_right" (defScope sRight) s.heap.objs.size f (.ref c))))
include TB F FK FDx FTo gTo bTo GT kT gT bT GSP kSP gSP bSP GPT kPT gPT bPT GPN kPN gPN bPN GLB kLB gLB bLB GFr kFr gFr bFr GOd kOd gOd bOd GB bB RL RH RG RE gd hr
/-- at the start -/
def C0 (K : Frag) (PT : Addr) (D : Ends) (σ : St) (H : Hp) : Prop := ∃ (p : Addr) (k : Int),
  σ = [some (.ref p), none, none, none, none, none, none, none, none, none, none, none] ∧ 0 ≤ k ∧ k < 400000 ∧ Pot H p k ∧ Tabs [(PT, qR)] H ∧ ∀ H', ExtB p H H' → Pot H' p (k + 200) → Tabs [(PT, qR)] H' → D.rt (.bl true) H'
theorem right_front (REST : ∃ t, PSs (cxOf CX0 P w K mg bs ["pot", "lore", "other", "text", "names", "plan", "walls", "told", "line", "odd", "value", "caught"] "_law_right" (defScope sRight) f (.ref c) A outer s H E) ((defBody sRight).drop 5) t ∧ ∀ (D : Ends) (σ : St) (Hn : Hp), C5 K B PT D σ Hn → t D σ Hn) : ∃ t, PSs (cxOf CX0 P w K mg bs ["pot", "lore", "other", "text", "names", "plan", "walls", "told", "line", "odd", "value", "caught"] "_law_right" (defScope sRight) f (.ref c) A outer s H E) (defBody sRight) t ∧ ∀ (D : Ends) (σ : St) (Hn : Hp), C0 K PT D σ Hn → t D σ Hn := by
  obtain ⟨t9, p9, q9⟩ := REST
  have sc := scRight
  obtain ⟨oc, od, kV, doc, pm, an, cdv, ct, osl, rfl, lk, hcd⟩ := FTo.ex
  have hr1 : Room 1 (A.deeper (envOfC "_law_right" (defScope sRight) s.heap.objs.size f (.ref c))) := hr.mono (by decide)
  have hr2 : Room 2 (A.deeper (envOfC "_law_right" (defScope sRight) s.heap.objs.size f (.ref c))) := hr.mono (by decide)
  have hr3 : Room 3 (A.deeper (envOfC "_law_right" (defScope sRight) s.heap.objs.size f (.ref c))) := hr.mono (by decide)
  have hr4 : Room 4 (A.deeper (envOfC "_law_right" (defScope sRight) s.heap.objs.size f (.ref c))) := hr.mono (by decide)
  have hu := hu_of hr
  refine ⟨_, pss_cons (ps_par (i := 1) (j := 2) rfl sc.nd rfl rfl (by decide) rfl rfl
      (pa_cons (pe_call GSP hr4 (by rfl) gSP kSP bSP .nil pass0 (pa_cons (pv 0) (pa_cons pe_int (pa_cons pe_int (pa_cons (pe_op op_pow pe_int pe_int) pa_nil)))))
        (pa_cons (pe_call GSP hr4 (by rfl) gSP kSP bSP .nil pass0 (pa_cons (pv 0) (pa_cons pe_int (pa_cons pe_int (pa_cons (pe_op op_pow pe_int pe_int) pa_nil))))) pa_nil)) rfl)
    (pss_cons (ps_set (i := 1) sc.nd rfl (Or.inl rfl) (pe_ifExp (pt_cmpR op_eq (pe_call GT hr1 (by rfl) gT kT bT .nil pass0 (pa_cons (pv 0) (pa_cons pe_int pa_nil))) pe_int (nomark _)) (pe_call GFr hr3 (by rfl) gFr kFr bFr .nil pass0 (pa_cons (pv 0) (pa_cons (pv 1) pa_nil))) (pv 1)))
    (pss_cons (ps_par (i := 3) (j := 4) rfl sc.nd rfl rfl (by decide) rfl rfl (pa_cons (pe_call GPT hr2 (by rfl) gPT kPT bPT .nil pass0 (pa_cons (pv 1) pa_nil)) (pa_cons (pe_call GPN hr1 (by rfl) gPN kPN bPN .nil pass0 (pa_cons (pv 1) pa_nil)) pa_nil)) rfl)
    (pss_cons (ps_asg (pe_tup (pa_cons (pe_make F.pm.mkP GB hr (by rfl) F.pm.gP bB .nil passN (pa_cons (pv 3) pa_nil))
          (pa_cons (pe_lc (own := [("line", 8)]) (g := gName 8) (by rfl) sc.nd (pi_list (pe_dget hu (pv 1) pe_str (fun _ _ => rfl))) (blkOk_by (N := ["pot", "lore", "other", "text", "names", "plan", "walls", "told", "line", "odd", "value", "caught"]) (sc := defScope sRight) (by decide +kernel))
            (fun _ _ _ _ _ => pg_name (i := 8) sc.nd rfl (Or.inl rfl)) (fun _ _ _ _ _ => pts_one (pt_cmpR op_eq (pe_ix (r := rIxT K) ix_tup (pv 8) pe_int (fun _ _ => rfl)) pe_str (nomark _)))
            (fun _ _ _ _ _ => pe_slice (r := rSlT K) sl_tup (pv 8) (po_some pe_int) po_none)) pa_nil)))
        (pg_tup rfl (pgs_cons (pg_name (i := 5) sc.nd rfl (Or.inr rfl)) (pgs_cons (pg_name (i := 6) sc.nd rfl (Or.inl rfl)) pgs_nil))))
    (pss_cons (ps_set (i := 7) sc.nd rfl (Or.inl rfl) (pe_tup (pa_cons (pe_fld (pv 5) rfl) (pa_cons (pe_fld (pv 5) rfl) (pa_cons (pe_fld (pv 5) rfl) (pa_cons (pe_fld (pv 5) rfl) (pa_cons (pe_callB (call_lenOwn FK.sL FK.fL RL hr2 pass0) (by rfl) F.len boot_len (pa_cons (pv 5) pa_nil)) pa_nil)))))))
    p9)))), fun DD σ Hn h => ?_⟩
  obtain ⟨p, t, rfl, t0, ht, hP, hT, k⟩ := h
  refine rd_seq ?_
  refine ⟨_, rfl, 10, 9, rfl, rfl, ⟨by decide, by decide, by decide⟩, p, 6, 4, _, t, rfl, by decide, by decide, by decide, by decide, by decide, by decide, t0, by omega, hP, fun H1 D1 R1 ps1 ls1 h1 k1 hP1 hD10 hR10 hD1 hR1 hl1 a1 b1 ok1 e1 => ?_⟩
  refine ⟨_, rfl, 10, 9, rfl, rfl, ⟨by decide, by decide, by decide⟩, p, 2, 1, _, t + 70, rfl, by decide, by decide, by decide, by decide, by decide, by decide, by omega, by omega, hP1, fun H2 D2 R2 ps2 ls2 h2 k2 hP2 hD20 hR20 hD2 hR2 hl2 a2 b2 ok2 e2 => ?_⟩
  refine ⟨_, _, rfl, ?_⟩
  have nD1 : D1 ≠ p := hP.ne hD10
  have nR1 : R1 ≠ p := hP.ne hR10
  have nD2 : D2 ≠ p := hP1.ne hD20
  have nR2 : R2 ≠ p := hP1.ne hR20
  have hD1' := k2 _ _ nD1 hD1
  have hR1' := k2 _ _ nR1 hR1
  have hl1' := lns_but hl1 hP1 k2
  have hT2 := tabs_but (tabs_but hT hP k1) hP1 k2
  have e02 : ExtB p Hn H2 := ExtB.of (k1.trans k2)
  clear hD1 hR1 hl1 hT k1 k2 hP hP1 hD10 hR10 hD20 hR20
  dsimp only
  refine rd_seq (rd_set ?_)
  refine far_step (P := P) (w := w) rfl rfl hD1' nD1 nR1 hR1' hl1' ok1 a1 (by omega) (t := t + 140) (by omega) (by omega) (hP2.mono (by omega)) fun H3 D3 R3 ps3 ls3 h3 k3 hP3 nR3 hD3 hR3 hl3 ok3 e3 a3 b3 => ?_
  have hT3 := tabs_but hT2 hP2 k3
  have hD2' := k3 _ _ nD2 hD2
  have hR2' := k3 _ _ nR2 hR2
  have hl2' := lns_but hl2 hP2 k3
  have e03 : ExtB p Hn H3 := e02.trans (ExtB.of k3)
  rw [← e3] at e1
  clear hD2 hR2 hl2 hT2 k3 hP2 hD1' hR1' hl1' e02 e3 ok1
  dsimp only
  refine rd_seq ?_
  refine ⟨_, rfl, D3, R3, ps3, ls3, h3, rfl, hD3, hR3, hl3, a3, b3, ln_small ok3, ln_20 ok3, fun H4 s4 => ?_⟩
  refine ⟨_, rfl, D3, R3, ps3, ls3, h3, rfl, s4 _ _ hD3, s4 _ _ hR3, hl3.map (tup_same s4), ln_20 ok3, fun H5 N s5 hN0 hN => ?_⟩
  refine ⟨_, _, rfl, ?_⟩
  have s35 := s4.trans s5
  have nN : N ≠ p := ((hP3.same s4)).ne hN0
  have hP5 := hP3.same s35
  have hD5 := s35 _ _ hD3
  have hR5 := s35 _ _ hR3
  have hl5 := hl3.map (tup_same s35)
  have hD25 := s35 _ _ hD2'
  have hR25 := s35 _ _ hR2'
  have hl25 := hl2'.map (tup_same s35)
  have hT5 := hT3.ext s35
  have e05 : ExtB p Hn H5 := e03.trans (ExtB.of (But.of s35))
  clear hD3 hR3 hl3 hD2' hR2' hl2' hT3 e03 hP3 s4 s5 s35 hN0
  have lb := plan_len a3 b3 ok3
  have rb := plan_round a3 b3 ok3 e1
  have hnm := clks_names h3 ls3 []
  dsimp only
  refine rd_seq ?_
  refine ⟨_, rfl, ?_⟩
  dsimp only [tNil]
  refine rd_plan (K := K) (Nat.le_trans lb (by decide)) rb fun x H6 hx0 s6 hpl => ?_
  have hD6 := s6 _ _ hD5
  have hR6 := s6 _ _ hR5
  have hl6 := hl5.map (tup_same s6)
  refine ⟨_, rfl, D3, .ref R3, rfl, DGet.k (k := Sum.inr "lines") hD6, R3, rfl, ⟨_, SqL.of hR6⟩, fun W hW => lc_it (walk_list (K := K) (a := R3) (xs := ps3.map V.ref)) (fun j H' => ∃ ws, Same H6 H' ∧ H' W = some (.lst (ws.map V.ref)) ∧ WsAt H' ws (wlsOf (ls3.take j))) ⟨[], same_new hW, upd_same, rfl, fun i a b h => by cases h⟩ (fun _ _ _ u => by obtain ⟨_, u, _⟩ := u; exact SqL.of (u _ _ hR6)) ?_ ?_⟩
  · rintro j y H7 H8 hj ⟨ws, s7, d7, w7⟩ ⟨rfl, hy⟩
    have hj' : j < ps3.length := by simpa using hj
    have hj2 : j < ls3.length := by rw [← hl6.1]; exact hj'
    rw [List.getElem?_map, List.getElem?_eq_getElem hj'] at hy
    cases hy
    rw [wls_take hj2]
    have la := (hl6.map (tup_same s7)).2 j _ _ (List.getElem?_eq_getElem hj') (List.getElem?_eq_getElem hj2)
    generalize ls3[j] = l at la
    generalize ps3[j] = q at la
    refine ⟨rfl, ?_⟩
    cases l with
    | pt n m o =>
      obtain ⟨qa, la, _⟩ := la
      refine ⟨_, rfl, q, _, 0, .str "point", rfl, rfl, SqT.of la, rfl, rfl, _, rfl, ?_⟩
      refine Eq.mpr (if_neg (by decide +kernel)) ?_
      refine ⟨ws, s7, d7, ?_⟩
      rw [show wlsOf [Ln.pt n m o] = [] from rfl, List.append_nil]
      exact w7
    | wl a b =>
      have la : H8 q = some (.tup [.str "wall", .str a, .str b]) := la
      refine ⟨_, rfl, q, _, 0, .str "wall", rfl, rfl, SqT.of la, rfl, rfl, _, rfl, ?_⟩
      refine Eq.mpr (if_pos rfl) ?_
      refine ⟨_, rfl, _, rfl, q, _, rfl, SqT.of la, (fun h => absurd (show (1 : Nat) = 0 from h.1) (by decide)), fun p2 hp2 => ?_⟩
      have ec : cutV [V.str "wall", .str a, .str b] (some 1) none = [.str a, .str b] := rfl
      rw [ec]
      have nW2 : W ≠ p2 := fun z => by rw [z, hp2] at d7; cases d7
      have s8 : Same H8 (upd H8 p2 (.tup [.str a, .str b])) := same_new hp2
      have f8 : upd H8 p2 (.tup [.str a, .str b]) p2 = some (.tup [.str a, .str b]) := upd_same
      generalize upd H8 p2 (.tup [.str a, .str b]) = H9 at s8 f8 ⊢
      have d9 := s8 _ _ d7
      have w9 := w7.map (tup_same s8)
      have lw : (ws.map V.ref).length < sizeLine := by
        rw [List.length_map, w7.1]
        have c2 := (okL_count ls3 [] 0 ok3 (by decide) (by decide)).2
        have : (wlsOf (ls3.take j)).length ≤ (wlsOf ls3).length := by
          have e := wls_app (ls3.take j) (ls3.drop j)
          rw [List.take_append_drop] at e
          rw [e, List.length_append]
          omega
        exact Nat.lt_of_le_of_lt (by omega : _ ≤ 4) (by decide)
      have nd2 : ∀ y vs, H9 y = some (.tup vs) → upd H9 W (.lst (ws.map V.ref ++ [V.ref p2])) y = some (.tup vs) := tup_upd d9
      refine ⟨_, d9, lw, ws ++ [p2], (s7.trans s8).mut hW, ?_, ?_⟩
      · rw [upd_same, List.map_append]
        rfl
      · exact snoc_at (F := fun p (x : Str × Str) => upd H9 W (.lst (ws.map V.ref ++ [V.ref p2])) p = some (.tup [.str x.1, .str x.2])) (w9.map nd2) (r := (a, b)) (nd2 _ _ f8)
  · rintro H7 ⟨ws, s7, d7, w7⟩
    rw [List.length_map, hl6.1, List.take_length] at w7
    have s57 := s6.trans s7
    have pl7 := hpl.same s7
    have hD7 := s57 _ _ hD5
    have hR7 := s57 _ _ hR5
    have hl7 := hl5.map (tup_same s57)
    have hD27 := s57 _ _ hD25
    have hR27 := s57 _ _ hR25
    have hl27 := hl25.map (tup_same s57)
    have hN7 := s57 _ _ hN
    refine ⟨(by exact (by decide : 2 ≤ sizeLine)), fun T0 hT0 => ?_⟩
    have s8 : Same H7 (upd H7 T0 (.tup [.ref x, .ref W])) := same_new hT0
    have fT0 : upd H7 T0 (.tup [.ref x, .ref W]) T0 = some (.tup [.ref x, .ref W]) := upd_same
    generalize upd H7 T0 (.tup [.ref x, .ref W]) = H8 at s8 fT0 ⊢
    refine ⟨T0, [.ref x, .ref W], rfl, SqT.of fT0, rfl, _, _, rfl, _, _, rfl, rfl, ?_⟩
    have s58 := s57.trans s8
    have pl8 := pl7.same s8
    have d8 := s8 _ _ d7
    have w8 := w7.map (tup_same s8)
    have hD8 := s58 _ _ hD5
    have hR8 := s58 _ _ hR5
    have hl8 := hl5.map (tup_same s58)
    have hD28 := s58 _ _ hD25
    have hR28 := s58 _ _ hR25
    have hl28 := hl25.map (tup_same s58)
    have hN8 := s58 _ _ hN
    have hP8 := hP5.same s58
    have hT8 := hT5.ext s58
    have e08 : ExtB p Hn H8 := e05.trans (ExtB.of (But.of s58))
    clear fT0 hT0 s7 d7 w7 hl7 hD7 hR7 hl27 hD27 hR27 hN7 pl7
    refine rd_seq (rd_set ?_)
    have pl9 := pl8
    obtain ⟨dx, pt, wt, ct, ps, qs, hx, hpt, hwt, hct, hcs, hws⟩ := pl8
    refine ⟨_, rfl, x, B, dx, _, _, rfl, hx, F.pm.init.cls, F.pm.init.nT, planF_text _ _ _ _ _, ?_⟩
    refine ⟨_, rfl, x, B, dx, _, _, rfl, hx, F.pm.init.cls, F.pm.init.nH, planF_hand _ _ _ _ _, ?_⟩
    refine ⟨_, rfl, x, B, dx, _, _, rfl, hx, F.pm.init.cls, F.pm.init.nP, planF_points _ _ _ _ _, ?_⟩
    refine ⟨_, rfl, x, B, dx, _, _, rfl, hx, F.pm.init.cls, F.pm.init.nW, planF_walls _ _ _ _ _, ?_⟩
    have lc : (clksOf h3 [] ls3).length = (nmsOf ls3).length := by rw [← hnm, List.length_map]
    have l6 : (nmsOf ls3).length ≤ 6 := by
      have := (okL_count ls3 [] 0 ok3 (by decide) (by decide)).1
      simpa using this
    have l6' : (clksOf h3 [] ls3).length ≤ 6 := by omega
    refine ⟨_, rfl, x, dx, _, rfl, hx, x, _, _, _, _, rfl, pl9, fun H9 s9 => ⟨_, rfl, by omega, by omega, ?_⟩⟩
    refine ⟨(by exact (by decide : 5 ≤ sizeLine)), fun U hU => ?_⟩
    rw [lc]
    have sA : Same H9 (upd H9 U (.tup [.str (planText h3 ls3), .int h3, .ref pt, .ref wt, .int ((nmsOf ls3).length : Nat)])) := same_new hU
    have fU : upd H9 U (.tup [.str (planText h3 ls3), .int h3, .ref pt, .ref wt, .int ((nmsOf ls3).length : Nat)]) U = some (.tup [.str (planText h3 ls3), .int h3, .ref pt, .ref wt, .int ((nmsOf ls3).length : Nat)]) := upd_same
    generalize upd H9 U (.tup [.str (planText h3 ls3), .int h3, .ref pt, .ref wt, .int ((nmsOf ls3).length : Nat)]) = HA at sA fU ⊢
    have s8A := s9.trans sA
    rw [hnm] at hpt
    exact q9 _ _ _ ⟨p, D3, R3, D2, R2, N, x, W, U, pt, wt, ps3, ps2, qs, _, ls3, ls2, h3, h2, t + 190, none, none, none, none, rfl,
      ⟨nR3, nR2, nN, ok3, ok2, a3, b3, a2, by omega, e1, e2⟩,
      ⟨s8A _ _ hD8, s8A _ _ hR8, hl8.map (tup_same s8A), s8A _ _ hD28, s8A _ _ hR28, hl28.map (tup_same s8A), s8A _ _ hN8, pl9.same s8A⟩,
      fU, s8A _ _ hpt, s8A _ _ hwt, hws.map (tup_same s8A), s8A _ _ d8, w8.map (tup_same s8A), by omega, by omega, (hP8.same s8A).mono (by omega), hT8.ext s8A,
      fun H' e hP' hT' => k H' (e08.trans ((ExtB.of (But.of s8A)).trans e)) (hP'.mono (by omega)) hT'⟩
end
end L2.K07

set_option Elab.async false
set_option linter.all false
set_option maxRecDepth 100000
set_option maxHeartbeats 4000000
namespace L2.K07
open PySem PySem.Spec PyProof.Rows L2.Vx
open PySem.W (Frag)
open LamX (CodeO Tabs TabS TabB ExtN LamS lamEnv lamCx lamS_by)
section
variable {P : Program} {w : World} {K : Frag} {mg : Str → Option Value} {bs : Heap}
def spRight (K : Frag) (PT : Addr) : Sp := fun vs H Q _ => ∃ (p : Addr) (k : Int), vs = [.ref p] ∧ 0 ≤ k ∧ k < 400000 ∧ Pot H p k ∧ Tabs [(PT, qR)] H ∧
  ∀ H', ExtB p H H' → Pot H' p (k + 200) → Tabs [(PT, qR)] H' → Q (.bl true) H'
variable {f c PT fB gL gH gG gE fTo fT fSP fPT fPN fLB fFr fOd B C CN D fIN : Addr} {fd fdB fdL fdH fdG fdE fdTo fdT fdSP fdPT fdPN fdLB fdFr fdOd : FuncData}
variable (TB : TabB bs mg c PT) (F : FxRt7 K mg B CN D fIN fB) (FK : FxBk7 K B gL gH gG gE) (FDx : Dx mg)
variable (FTo : FD K "_law_told" sTold fTo fdTo) (gTo : mg "_law_told" = some (.ref fTo)) (bTo : Binds K fdTo ["look"] [])
variable (GT : FnOk P w K mg bs CX0 1 fT fdT ["pot", "upto"] spTake) (kT : PySem.W.keepIn K (.ref fT) = true) (gT : mg "_law_take" = some (.ref fT)) (bT : Binds K fdT ["pot", "upto"] [])
variable (GSP : FnOk P w K mg bs CX0 4 fSP fdSP ["pot", "points", "walls", "most"] (spSomeP K)) (kSP : PySem.W.keepIn K (.ref fSP) = true) (gSP : mg "_law_some_plan" = some (.ref fSP)) (bSP : Binds K fdSP ["pot", "points", "walls", "most"] [])
variable (GPT : FnOk P w K mg bs CX0 2 fPT fdPT ["plan"] (spPText K)) (kPT : PySem.W.keepIn K (.ref fPT) = true) (gPT : mg "_law_plan_text" = some (.ref fPT)) (bPT : Binds K fdPT ["plan"] [])
variable (GPN : FnOk P w K mg bs CX0 1 fPN fdPN ["plan"] (spPNames K)) (kPN : PySem.W.keepIn K (.ref fPN) = true) (gPN : mg "_law_point_names" = some (.ref fPN)) (bPN : Binds K fdPN ["plan"] [])
variable (GLB : FnOk P w K mg bs CX0 1 fLB fdLB ["plan", "line"] (spLB K)) (kLB : PySem.W.keepIn K (.ref fLB) = true) (gLB : mg "_law_bound" = some (.ref fLB)) (bLB : Binds K fdLB ["plan", "line"] [])
variable (GFr : FnOk P w K mg bs CX0 3 fFr fdFr ["pot", "lore"] (spFar K)) (kFr : PySem.W.keepIn K (.ref fFr) = true) (gFr : mg "_law_far" = some (.ref fFr)) (bFr : Binds K fdFr ["pot", "lore"] [])
variable (GOd : FnOk P w K mg bs CX0 3 fOd fdOd ["pot"] (spOdd K)) (kOd : PySem.W.keepIn K (.ref fOd) = true) (gOd : mg "_law_odd" = some (.ref fOd)) (bOd : Binds K fdOd ["pot"] [])
variable (GB : FnOk P w K mg bs (L2.CX P w) 7 fB fdB ["self", "text"] (spPInit K B C)) (bB : Binds K fdB ["self", "text"] [])
variable (RL : FnR P w K mg bs CX0 1 gL (spPLen B)) (RH : FnR P w K mg bs CX0 1 gH (spPHas K B)) (RG : FnR P w K mg bs (L2.CX P w) 2 gG (spPGet K B CN)) (RE : FnR P w K mg bs CX0 1 gE (spPEq B))
include TB F FK FDx FTo gTo bTo GT kT gT bT GSP kSP gSP bSP GPT kPT gPT bPT GPN kPN gPN bPN GLB kLB gLB bLB GFr kFr gFr bFr GOd kOd gOd bOd GB bB RL RH RG RE
theorem ok_right (FP : FD K "_law_right" sRight f fd) (hc : fd.code = .ref c) : FnG P w K mg bs CX0 9 f fd ["pot"] (spRight K PT) := by
  refine okGC FP hc scRight (fun vs H Q E h => ?_) (fun A outer s H vs Q E gd hr h => ?_)
  · obtain ⟨p, k, rfl, _⟩ := h
    rfl
  · obtain ⟨p, t, rfl, t0, ht, hP, hT, k⟩ := h
    obtain ⟨tt, pt, qt⟩ := right_front TB F FK FDx FTo gTo bTo GT kT gT bT GSP kSP gSP bSP GPT kPT gPT bPT GPN kPN gPN bPN GLB kLB gLB bLB GFr kFr gFr bFr GOd kOd gOd bOd GB bB RL RH RG RE A outer s H E gd hr (right_five TB F FK FDx FTo gTo bTo GT kT gT bT GSP kSP gSP bSP GPT kPT gPT bPT GPN kPN gPN bPN GLB kLB gLB bLB GFr kFr gFr bFr GOd kOd gOd bOd GB bB RL RH RG RE A outer s H E gd hr (right_six TB F FK FDx FTo gTo bTo GT kT gT bT GSP kSP gSP bSP GPT kPT gPT bPT GPN kPN gPN bPN GLB kLB gLB bLB GFr kFr gFr bFr GOd kOd gOd bOd GB bB RL RH RG RE A outer s H E gd hr (right_seven TB F FK FDx FTo gTo bTo GT kT gT bT GSP kSP gSP bSP GPT kPT gPT bPT GPN kPN gPN bPN GLB kLB gLB bLB GFr kFr gFr bFr GOd kOd gOd bOd GB bB RL RH RG RE A outer s H E gd hr (right_eight TB F FK FDx FTo gTo bTo GT kT gT bT GSP kSP gSP bSP GPT kPT gPT bPT GPN kPN gPN bPN GLB kLB gLB bLB GFr kFr gFr bFr GOd kOd gOd bOd GB bB RL RH RG RE A outer s H E gd hr (right_nine (PT := PT) TB F FK FDx FTo gTo bTo GT kT gT bT GSP kSP gSP bSP GPT kPT gPT bPT GPN kPN gPN bPN GLB kLB gLB bLB GFr kFr gFr bFr GOd kOd gOd bOd GB bB RL RH RG RE A outer s H E gd hr)))))
    exact ⟨tt, pt, qt _ _ _ ⟨p, t, rfl, t0, ht, hP, hT, k⟩⟩
end
end L2.K07

set_option Elab.async false
set_option linter.all false
set_option maxRecDepth 100000
set_option maxHeartbeats 4000000
namespace L2.K07
open PySem PySem.Spec PyProof.Rows L2.Vx
open PySem.W (Frag)
open LamX (CodeO Tabs TabS TabB ExtN)
/-! ### the law -/
section
variable {P : Program} {w : World} {K : Frag} {mg : Str → Option Value} {bs : Heap}
def spLaw (K : Frag) (PT : Addr) : Sp := fun vs H Q _ => ∃ (a : Addr) (ns : List Int), vs = [.ref a] ∧ SqL K H a (ns.map V.int) ∧ ns.length ≤ 63 ∧ Tabs [(PT, qR)] H ∧ ∀ H', Q (.bl true) H'
theorem scLaw : FnScope ["script", "place", "pot"] ["script"] (defScope sLaw) := ⟨rfl, rfl, rfl, by decide +kernel, rfl, by decide +kernel, by decide +kernel⟩
theorem extB_new {p : Addr} {A B C : Hp} (s : Same A B) (h : A p = none) (k : ExtB p B C) : ExtN A C := fun b o e n => k b o (fun z => by rw [z, h] at e; cases e) (s _ _ e) n
theorem ok_law {f fRt fPo fCe PT : Addr} {fd fdRt fdPo fdCe : FuncData} (FP : FD K "law" sLaw f fd) (F : Dx mg)
    (GRt : FnG P w K mg bs CX0 9 fRt fdRt ["pot"] (spRight K PT)) (kRt : PySem.W.keepIn K (.ref fRt) = true) (gRt : mg "_law_right" = some (.ref fRt)) (bRt : Binds K fdRt ["pot"] [])
    (FPo : FD K "_law_pot" sPot fPo fdPo) (gPo : mg "_law_pot" = some (.ref fPo)) (bPo : Binds K fdPo ["script", "place"] [])
    (FCe : FD K "_law_cells" sCells fCe fdCe) (gCe : mg "_law_cells" = some (.ref fCe)) (bCe : Binds K fdCe ["script", "most"] []) : FnG P w K mg bs CX0 10 f fd ["script"] (spLaw K PT) := by
  have sc := scLaw
  have GPo : FnOk P w K mg bs CX0 1 fPo fdPo ["script", "place"] (spPot K) := ok_pot FPo F
  have GCe : FnOk P w K mg bs CX0 1 fCe fdCe ["script", "most"] (spCells K) := ok_cells FCe F
  refine okG0 FP scLaw (fun vs H Q E h => ?_) (fun cdv A outer s H vs Q E gd hr h => ?_)
  · obtain ⟨a, ns, rfl, _⟩ := h
    rfl
  · obtain ⟨a, ns, rfl, hS, hlen, hT, k⟩ := h
    have hr1 : Room 1 (A.deeper (envOfC "law" (defScope sLaw) s.heap.objs.size f cdv)) := hr.mono (by decide)
    refine ⟨_, pss_cons (ps_for PassesOwn.never rfl (pi_list (pe_call GCe hr1 (by rfl) gCe FCe.kp bCe .nil pass0 (pa_cons (pv 0) (pa_cons pe_int pa_nil)))) (pg_name (i := 1) sc.nd rfl (Or.inl rfl))
        (pss_cons (ps_set (i := 2) sc.nd rfl (Or.inl rfl) (pe_call GPo hr1 (by rfl) gPo FPo.kp bPo .nil pass0 (pa_cons (pv 0) (pa_cons (pv 1) pa_nil))))
        (pss_one (ps_if (PW.pt (pw_or (pt_not (pt_val (pe_callG GRt gd hr (by rfl) gRt kRt bRt .nil pass0 (pa_cons (pv 2) pa_nil)))) (pw_or1 (pt_not (pt_val (pe_callG GRt gd hr (by rfl) gRt kRt bRt .nil pass0 (pa_cons (pv 2) pa_nil)))))))
            (pss_one (ps_ret pe_bl)) pss_nil))))
      (pss_one (ps_ret pe_bl)), ?_⟩
    refine rd_seq ?_
    refine ⟨_, rfl, a, ns, 8, rfl, hS, hlen, by decide, fun H3 q n s3 hq0 hn hq => ⟨q, rfl, ⟨_, SqL.of hq⟩, for_it (walk_list (K := K) (a := q) (xs := (List.range n).map fun i : Nat => V.int (i : Int))) (fun i σ H' => ∃ v1 v2 : Option V,
      σ = [some (.ref a), v1, v2] ∧ ExtN H3 H' ∧ Tabs [(PT, qR)] H') ⟨none, none, rfl, ExtN.refl _, hT.ext s3⟩ (fun i σ H' _ u => ?_) ?_ ?_⟩⟩
    · obtain ⟨_, _, _, e, _⟩ := u
      exact sql_ext e (SqL.of hq)
    · rintro i x σ H4 H5 hi ⟨v1, v2, rfl, eN, hT4⟩ ⟨rfl, hx⟩
      have hi' : i < n := by simpa using hi
      have hx2 : x = .int (i : Int) := by
        rw [List.getElem?_map, List.getElem?_range hi'] at hx
        exact (Option.some.inj hx).symm
      subst hx2
      have hS4 := sql_ext eN (s3.seq hS)
      refine rd_seq (rd_set ?_)
      refine ⟨_, rfl, _, rfl, a, ns, (i : Int), rfl, hS4, hlen, by omega, by omega, fun H5 p s5 hp0 hP => ?_⟩
      dsimp only
      refine rd_if ?_
      refine ⟨_, rfl, p, 0, rfl, by decide, by decide, hP, hT4.ext s5, fun H6 e6 hP6 hT6 => ⟨_, rfl, ?_⟩⟩
      refine Eq.mpr (if_neg (by decide)) ?_
      refine ⟨_, rfl, p, 200, rfl, by decide, by decide, hP6, hT6, fun H7 e7 hP7 hT7 => ⟨_, rfl, ?_⟩⟩
      refine Eq.mpr (if_neg (by decide)) ?_
      exact ⟨_, _, rfl, ExtN.tr eN (extB_new s5 hp0 (e6.trans e7)), hT7⟩
    · rintro σ H4 ⟨v1, v2, rfl, eN, hT4⟩
      exact k H4
end
end L2.K07

set_option Elab.async false
set_option linter.all false
set_option maxRecDepth 100000
set_option maxHeartbeats 0
namespace L2.K07
open PySem PySem.Spec PyProof.Rows L2.Vx
open PySem.W (Frag)
open LamX (CodeO Tabs TabS TabB ExtN)
open He (ga ma)
def fI (K : Frag) : Addr := ma K (ga K "DrawError") "__init__"
/-- the written dict of the words -/
def kvOf (e : DictEntry) : Option (Str × Int) := match e.key, e.val with
  | .str x _, .int i _ => some (x, i)
  | _, _ => none
def wordsL : List (Option (Str × Int)) := [some ("at", 5), some ("by", 6), some ("cross", 5)]
def wordsB (K : Frag) : Bool := match K.lookup (ga K "WORDS") with
  | some ⟨_, _, .dict es _, _⟩ => decide (es.toList.map kvOf = wordsL)
  | _ => false
abbrev bK (K : Frag) : Addr := ga K "Plan"
def planB (K : Frag) : Bool :=
  (decide (PySem.W.findIn K (.ref (bK K)) "__len__" = some (some (.ref (ma K (bK K) "__len__")))) && (PySem.W.isFn K (.ref (ma K (bK K) "__len__")) &&
  (decide (PySem.W.findIn K (.ref (bK K)) "__contains__" = some (some (.ref (ma K (bK K) "__contains__")))) && (PySem.W.isFn K (.ref (ma K (bK K) "__contains__")) &&
  (decide (PySem.W.findIn K (.ref (bK K)) "__getitem__" = some (some (.ref (ma K (bK K) "__getitem__")))) && (PySem.W.fnIn K (ma K (bK K) "__getitem__") && (PySem.W.isFn K (.ref (ma K (bK K) "__getitem__")) &&
  (decide (PySem.W.findIn K (.ref (bK K)) (cmpInfo .Eq).2.1 = some (some (.ref (ma K (bK K) "__eq__")))) && (PySem.W.isFn K (.ref (ma K (bK K) "__eq__")) &&
  (PySem.W.notFirst K (bK K) (.type "NoneType") && (PySem.W.notFirst K (bK K) (.type "str") && PySem.W.notFirst K (bK K) (.ref (bK K)))))))))))))
def isiB (K : Frag) : Bool :=
  (decide (PySem.W.findIn K (.ref (bK K)) "__class__" = some (some (.builtin "object.__class__"))) && (decide (PySem.W.specialIn K (.builtin "object.__class__") "__get__" = some (some (.builtin "getset_descriptor.__get__"))) &&
  (decide (PySem.W.takesIn K (.builtin "object.__class__") = some true) && (decide (PySem.W.mroIn K (bK K) (.type "object") = some true) &&
  (decide (PySem.W.kitOne K (.ref (bK K)) (.ref (bK K)) = some true) && (decide (PySem.W.kitOne K (.type "str") (.ref (bK K)) = some false) && decide (PySem.W.kitOne K (.type "NoneType") (.ref (bK K)) = some false)))))))
def exK (K : Frag) : Bool :=
  errB K (ga K "BadPlan") (fI K) && (errB K (ga K "NoPoint") (fI K) && (decide (PySem.W.kitOne K (.ref (ga K "NoPoint")) (.ref (ga K "NoPoint")) = some true) &&
    (decide (PySem.W.exmOne K (.ref (ga K "NoPoint")) (.ref (ga K "DrawError")) = some true) && (wordsB K && (planB K && isiB K)))))
abbrev dD (x : Str) (s : Stmt) : He.DefD := ⟨(x, none), x, x, defArgs s, defBody s, defScope s, [], []⟩
abbrev sInit : Stmt := sDErr
def dInit : He.DefD := ⟨("DrawError", some "__init__"), "__init__", "DrawError.__init__", defArgs sInit, defBody sInit, defScope sInit, [], []⟩
def dPlan : He.DefD := ⟨("Plan", some "__init__"), "__init__", "Plan.__init__", defArgs sPlan, defBody sPlan, defScope sPlan, [], []⟩
def dEq : He.DefD := ⟨("Plan", some "__eq__"), "__eq__", "Plan.__eq__", defArgs sPEq, defBody sPEq, defScope sPEq, [], []⟩
def dGet : He.DefD := ⟨("Plan", some "__getitem__"), "__getitem__", "Plan.__getitem__", defArgs sPGet, defBody sPGet, defScope sPGet, [], []⟩
def dLen : He.DefD := ⟨("Plan", some "__len__"), "__len__", "Plan.__len__", defArgs sPLen, defBody sPLen, defScope sPLen, [], []⟩
def dHas : He.DefD := ⟨("Plan", some "__contains__"), "__contains__", "Plan.__contains__", defArgs sPHas, defBody sPHas, defScope sPHas, [], []⟩
def dHand : He.DefD := dD "read_hand" sHand
def dClicks : He.DefD := dD "read_clicks" sClicks
def dWall : He.DefD := dD "wall_in" sWall
def dPoint : He.DefD := dD "point_in" sPoint
def dAim : He.DefD := dD "aim_in" sAim
def dCross : He.DefD := dD "cross_in" sCross
def dBound : He.DefD := dD "bound_in" sBound
def dIsName : He.DefD := dD "is_name" sIsName
def dCons : He.DefD := dD "consists_of" sCons
def dNum : He.DefD := dD "number_in" sNum
def dSgn : He.DefD := dD "signed_number_in" sSgn
def dPot : He.DefD := dD "_law_pot" sPot
def dTake : He.DefD := dD "_law_take" sTake
def dOfD : He.DefD := dD "_law_of" sOf
def dSome : He.DefD := dD "_law_some" sSome
def dCells : He.DefD := dD "_law_cells" sCells
def dTold : He.DefD := dD "_law_told" sTold
def dOdd : He.DefD := dD "_law_odd" sOdd
def dNames : He.DefD := dD "_law_names" sNames
def dLAim : He.DefD := dD "_law_aim" sLAim
def dSomeP : He.DefD := dD "_law_some_plan" sSomeP
def dLine : He.DefD := dD "_law_line_text" sLine
def dPText : He.DefD := dD "_law_plan_text" sPText
def dPNames : He.DefD := dD "_law_point_names" sPNames
def dLBound : He.DefD := dD "_law_bound" sLBound
def dFar : He.DefD := dD "_law_far" sFar
def dRight : He.DefD := dD "_law_right" sRight
def dLaw : He.DefD := dD "law" sLaw
def fn : List He.DefD := ([dInit, dPlan, dEq, dGet, dLen, dHas, dHand, dClicks, dWall, dPoint, dAim, dCross, dBound, dIsName, dCons] : List He.DefD) ++ ([dNum, dSgn, dPot, dTake, dOfD, dSome, dCells, dTold, dOdd, dNames, dLAim, dSomeP, dLine, dPText, dPNames] : List He.DefD) ++ ([dLBound, dFar, dRight, dLaw] : List He.DefD)
def glos : List Str := (["DrawError", "BadPlan", "NoPoint", "Plan", "WORDS", "read_hand", "read_clicks", "wall_in", "point_in", "aim_in", "cross_in", "bound_in", "is_name", "consists_of", "number_in"] : List Str) ++ (["signed_number_in", "_law_pot", "_law_take", "_law_of", "_law_some", "_law_cells", "_law_told", "_law_odd", "_law_names", "_law_aim", "_law_some_plan", "_law_line_text", "_law_plan_text", "_law_point_names", "_law_bound"] : List Str) ++ (["_law_far", "_law_right", "law"] : List Str)
def frees : List Str := ["len", "abs", "int", "max", "min", "range", "list", "str", "all", "isinstance", "enumerate", "tuple", "repr", "bool"]
def fa : List He.Fa := glos.map He.Fa.glo ++ (frees.map He.Fa.free ++ [.int "LONGEST_NUMBER" 9, .int "LONGEST_NAME" 8, .int "GREATEST_BOUND" 99, .int "MOST_POINTS" 6, .int "MOST_WALLS" 4, .int "FARTHEST" 999, .str "DIGITS" "0123456789", .str "LETTERS" "abcdefghijklmnopqrstuvwxyz", .cls "Plan", .noat "Plan" "text", .noat "Plan" "hand", .noat "Plan" "points", .noat "Plan" "walls", .noat "Plan" "clicks", .mkr "Plan"])
def ts : List He.Tab := [(fun K => ga K "WORDS", ["at", "by", "cross"])]
def tf : List He.Defn := [("_law_right", none)]
abbrev R : PySem.W.OpenRow := PySem.W.OpenLaw.row PySem.Challenge.rw_wobblesnap_k07_plans_as_told
abbrev hk : PySem.W.Hook := He.hookX 5 fa fn ts tf exK
def ob (s : PySem.W.SharedT) : He.AlX := He.obsX 5 fa fn ts tf exK (HandSHeadRun.getT s)
theorem ob_eq (s : PySem.W.SharedT) : ob s = hk.obs s.abs := He.obsX_eq (HandSHeadRun.getT_eq s)
def loose : List Str := (["_wall", "DrawError", "BadPlan", "NoPoint", "Plan", "WORDS", "LETTERS", "DIGITS", "LONGEST_NAME", "LONGEST_NUMBER", "GREATEST_BOUND", "MOST_POINTS", "MOST_WALLS", "FARTHEST", "read_hand"] : List Str) ++ (["read_clicks", "wall_in", "point_in", "aim_in", "cross_in", "bound_in", "is_name", "consists_of", "number_in", "signed_number_in", "_law_pot", "_law_take", "_law_of", "_law_some", "_law_cells"] : List Str) ++ (["_law_told", "_law_odd", "_law_names", "_law_aim", "_law_some_plan", "_law_line_text", "_law_plan_text", "_law_point_names", "_law_bound", "_law_far", "_law_right"] : List Str)
theorem runF (w : World) : HandSHeadRun.RunEq R (PySem.W.view R.prog [45]) hk ob 6000 loose (w.withFollow "special-get-raises" false) := by
  intro os
  kernel_rfl
theorem runT (w : World) : HandSHeadRun.RunEq R (PySem.W.view R.prog [45]) hk ob 6000 loose (w.withFollow "special-get-raises" true) := by
  intro os
  kernel_rfl
theorem run (w : World) : HandSHeadRun.RunEq R (PySem.W.view R.prog [45]) hk ob 6000 loose w := PySem.W.byRow2 "special-get-raises" (P := fun w => HandSHeadRun.RunEq R (PySem.W.view R.prog [45]) hk ob 6000 loose w) runF runT w
end L2.K07

set_option Elab.async false
set_option linter.all false
set_option maxRecDepth 100000
set_option maxHeartbeats 4000000
namespace L2.K07
open PySem PySem.Spec PyProof.Rows L2.Vx
open PySem.W (Frag)
open LamX (CodeO Tabs TabS TabB ExtN)
open He (ga ma)
/-- a def's own words from the hook's -/
theorem fun_of {K : Frag} {x qual : Str} {st : Stmt} {f : Addr} {fd : FuncData} (h : FunD K x qual (defArgs st) (defBody st) (defScope st) [] [] f fd) : Fun K x qual st f fd := by
  obtain ⟨oc, od, dV, kV, doc, pm, an, cdv, ct, osl, e, lk, hc, hD, _⟩ := h.ex
  rcases hD with ⟨_, rfl⟩ | ⟨z, _⟩
  · exact ⟨⟨oc, od, kV, doc, pm, an, cdv, ct, osl, e, lk, hc⟩, h.kp⟩
  · exact absurd rfl z
theorem init_of {K : Frag} {fd : FuncData} (h : FunD K "__init__" "DrawError.__init__" (defArgs sInit) (defBody sInit) (defScope sInit) [] [] (fI K) fd) : InitF K (fI K) := by
  obtain ⟨oc, od, dV, kV, doc, pm, an, cdv, ct, osl, e, lk, hc, hD, hK⟩ := h.ex
  rcases hD with ⟨_, rfl⟩ | ⟨z, _⟩
  · exact ⟨oc, od, kV, doc, pm, an, cdv, ct, osl, _, _, _, _, _, _, by rw [lk, e]; rfl, hc⟩
  · exact absurd rfl z
/-- the code object that a def holds -/
theorem code_of {K : Frag} {x qual : Str} {st : Stmt} {fd : FuncData} {p : He.Defn} (F : Fun K x qual st (He.fAd K p) fd) : fd.code = .ref (He.codeOf K p) := by
  obtain ⟨oc, od, kV, doc, pm, an, cdv, ct, osl, rfl, lk, hcd⟩ := F.ex
  obtain ⟨c, rfl⟩ := He.codeIn_ref hcd
  have e := He.codeOf_eq lk (c := c) rfl
  rw [e]
theorem kvOf_some {e : DictEntry} {x : Str} {i : Int} (h : kvOf e = some (x, i)) : ∃ t u, e.key = .str x t ∧ e.val = .int i u := by
  unfold kvOf at h
  split at h
  · rename_i y t j u h1 h2
    cases h
    exact ⟨t, u, h1, h2⟩
  · cases h
theorem look_of {l : List DictEntry} (h : l.map kvOf = wordsL) (z : Str) :
    ∃ r, (match l.find? (·.key.isStr z) with
      | some e => (some (some e.val) : Option (Option Value))
      | none => if l.any (·.refKey) then none else some none) = some r ∧ (z ∈ aimWords → ∃ t, r = some (.int (manyOf z : Nat) t)) ∧ (z ∉ aimWords → r = none) := by
  unfold wordsL at h
  have hl : l.length = 3 := by rw [← List.length_map (f := kvOf), h]; rfl
  match l, hl, h with
  | [a, b, c], _, h =>
    simp only [List.map_cons, List.map_nil, List.cons.injEq, and_true] at h
    obtain ⟨ha, hb, hc⟩ := h
    obtain ⟨t1, u1, a1, a2⟩ := kvOf_some ha
    obtain ⟨t2, u2, b1, b2⟩ := kvOf_some hb
    obtain ⟨t3, u3, c1, c2⟩ := kvOf_some hc
    have key : ∀ (w x : Str) (t : Tok), Value.isStr (.str w t) x = (w == x) := fun _ _ _ => rfl
    by_cases z1 : (("at" : Str) == z) = true
    · have n1 := z1
      refine ⟨some a.val, by simp only [List.find?, a1, key, n1], fun _ => ⟨u1, ?_⟩, fun n => absurd ?_ n⟩
      · have e0 : ("at" : Str) = z := by simpa using z1
        rw [a2, ← e0]
        rfl
      · have e0 : ("at" : Str) = z := by simpa using z1
        rw [← e0]
        decide +kernel
    have n1 : (("at" : Str) == z) = false := by simpa using z1
    by_cases z2 : (("by" : Str) == z) = true
    · have n2 := z2
      refine ⟨some b.val, by simp only [List.find?, a1, b1, key, n1, n2], fun _ => ⟨u2, ?_⟩, fun n => absurd ?_ n⟩
      · have e0 : ("by" : Str) = z := by simpa using z2
        rw [b2, ← e0]
        rfl
      · have e0 : ("by" : Str) = z := by simpa using z2
        rw [← e0]
        decide +kernel
    have n2 : (("by" : Str) == z) = false := by simpa using z2
    by_cases z3 : (("cross" : Str) == z) = true
    · have n3 := z3
      refine ⟨some c.val, by simp only [List.find?, a1, b1, c1, key, n1, n2, n3], fun _ => ⟨u3, ?_⟩, fun n => absurd ?_ n⟩
      · have e0 : ("cross" : Str) = z := by simpa using z3
        rw [c2, ← e0]
        rfl
      · have e0 : ("cross" : Str) = z := by simpa using z3
        rw [← e0]
        decide +kernel
    have n3 : (("cross" : Str) == z) = false := by simpa using z3
    refine ⟨none, by simp [List.find?, a1, b1, c1, key, n1, n2, n3, DictEntry.refKey], fun n => ?_, fun _ => rfl⟩
    exfalso
    simp only [aimWords, List.mem_cons, List.not_mem_nil, or_false] at n
    rcases n with n | n | n
    · rw [n] at n1; exact absurd n1 (by decide +kernel)
    · rw [n] at n2; exact absurd n2 (by decide +kernel)
    · rw [n] at n3; exact absurd n3 (by decide +kernel)
theorem words_of {K : Frag} {w : World} {mg : Str → Option Value} (hm : mg "WORDS" = some (.ref (ga K "WORDS"))) (hk : ∃ es n, KDict K w (ga K "WORDS") es n) (h : wordsB K = true) : FxWords K w mg := by
  obtain ⟨es, n, D⟩ := hk
  refine ⟨_, es, n, hm, D, fun z => ?_⟩
  unfold wordsB at h
  rw [D.at_] at h
  have h2 : es.toList.map kvOf = wordsL := of_decide_eq_true h
  have q := look_of h2 z
  unfold PySem.W.nsIn
  rw [D.at_]
  exact q
end L2.K07

set_option Elab.async false
set_option linter.all false
set_option maxRecDepth 100000
set_option maxHeartbeats 4000000
namespace L2.K07
open PySem PySem.Spec PyProof.Rows L2.Vx
open PySem.W (Frag)
open LamX (CodeO Tabs TabS TabB ExtN)
open He (ga ma)
theorem facts {w : World} {K : Frag} {h : Heap} {mg : Str → Option Value} {f : Addr} (X : K.In h) (G : h.Ns mainGlobals mg) (hfa : mg ("law" : Str) = some (.ref f)) (c : He.SaysX fa fn ts tf exK w h K) :
    ∃ (K : Frag) (c PT : Addr) (fd : FuncData) (sp : Sp), K.In h ∧ h.get? PT = some { cls := .none, data := .fields #[] } ∧ K.lookup PT = none ∧ PySem.W.CodeHd h c PT ∧
      (∀ (s : Shared) (u : Value), BindsTo s fd ⟨[u], []⟩ [("script", u)]) ∧
      (∀ (H : Hp) (a : Addr) (ns : List Int), ns.length ≤ 63 → H PT = some (.tbl #[]) → SqL K H a (ns.map V.int) → sp [.ref a] H (fun v _ => v = .bl true) fun _ _ _ => False) ∧
      ∀ base : Heap, K.In base → base.Ns mainGlobals mg → TabB base mg c PT → FnG PySem.Challenge.rw_wobblesnap_k07_plans_as_told.prog w K mg base CX0 10 f fd ["script"] sp := by
  have fact : ∀ f ∈ fa, f.ok K = true := fun f hf => c.t.d.facts hf
  have glo : ∀ x ∈ glos, mg x = some (.ref (ga K x)) := fun x hx => He.glo_ok X G (fact _ (List.mem_append_left _ (List.mem_map.mpr ⟨x, hx, rfl⟩)))
  have free : ∀ x ∈ frees, mg x = none := fun x hx => He.free_ok X G (fact _ (List.mem_append_right _ (List.mem_append_left _ (List.mem_map.mpr ⟨x, hx, rfl⟩))))
  have rest : ∀ q ∈ ([.int "LONGEST_NUMBER" 9, .int "LONGEST_NAME" 8, .int "GREATEST_BOUND" 99, .int "MOST_POINTS" 6, .int "MOST_WALLS" 4, .int "FARTHEST" 999, .str "DIGITS" "0123456789", .str "LETTERS" "abcdefghijklmnopqrstuvwxyz", .cls "Plan", .noat "Plan" "text", .noat "Plan" "hand", .noat "Plan" "points", .noat "Plan" "walls", .noat "Plan" "clicks", .mkr "Plan"] : List He.Fa), q.ok K = true :=
    fun q hq => fact _ (List.mem_append_right _ (List.mem_append_right _ hq))
  have i9 := He.int_ok X G (rest (.int "LONGEST_NUMBER" 9) (by simp))
  have i8 := He.int_ok X G (rest (.int "LONGEST_NAME" 8) (by simp))
  have i99 := He.int_ok X G (rest (.int "GREATEST_BOUND" 99) (by simp))
  have i6 := He.int_ok X G (rest (.int "MOST_POINTS" 6) (by simp))
  have i4 := He.int_ok X G (rest (.int "MOST_WALLS" 4) (by simp))
  have i999 := He.int_ok X G (rest (.int "FARTHEST" 999) (by simp))
  have sD := He.str_ok X G (rest (.str "DIGITS" "0123456789") (by simp))
  have sL := He.str_ok X G (rest (.str "LETTERS" "abcdefghijklmnopqrstuvwxyz") (by simp))
  have cB := He.cls_ok (rest (.cls "Plan") (by simp))
  have nT := He.noat_ok (rest (.noat "Plan" "text") (by simp))
  have nH := He.noat_ok (rest (.noat "Plan" "hand") (by simp))
  have nP := He.noat_ok (rest (.noat "Plan" "points") (by simp))
  have nW := He.noat_ok (rest (.noat "Plan" "walls") (by simp))
  have nC := He.noat_ok (rest (.noat "Plan" "clicks") (by simp))
  have mk := He.mkr_ok (rest (.mkr "Plan") (by simp))
  obtain ⟨m1, m⟩ := Bool.and_eq_true_iff.mp c.more
  obtain ⟨m2, m⟩ := Bool.and_eq_true_iff.mp m
  obtain ⟨m3, m⟩ := Bool.and_eq_true_iff.mp m
  obtain ⟨m4, m⟩ := Bool.and_eq_true_iff.mp m
  obtain ⟨m5, m⟩ := Bool.and_eq_true_iff.mp m
  obtain ⟨m6, m7⟩ := Bool.and_eq_true_iff.mp m
  unfold planB at m6
  obtain ⟨q1, m6⟩ := Bool.and_eq_true_iff.mp m6
  obtain ⟨q2, m6⟩ := Bool.and_eq_true_iff.mp m6
  obtain ⟨q3, m6⟩ := Bool.and_eq_true_iff.mp m6
  obtain ⟨q4, m6⟩ := Bool.and_eq_true_iff.mp m6
  obtain ⟨q5, m6⟩ := Bool.and_eq_true_iff.mp m6
  obtain ⟨q6, m6⟩ := Bool.and_eq_true_iff.mp m6
  obtain ⟨q7, m6⟩ := Bool.and_eq_true_iff.mp m6
  obtain ⟨q8, m6⟩ := Bool.and_eq_true_iff.mp m6
  obtain ⟨q9, m6⟩ := Bool.and_eq_true_iff.mp m6
  obtain ⟨q10, m6⟩ := Bool.and_eq_true_iff.mp m6
  obtain ⟨q11, q12⟩ := Bool.and_eq_true_iff.mp m6
  unfold isiB at m7
  obtain ⟨r1, m7⟩ := Bool.and_eq_true_iff.mp m7
  obtain ⟨r2, m7⟩ := Bool.and_eq_true_iff.mp m7
  obtain ⟨r3, m7⟩ := Bool.and_eq_true_iff.mp m7
  obtain ⟨r4, m7⟩ := Bool.and_eq_true_iff.mp m7
  obtain ⟨r5, m7⟩ := Bool.and_eq_true_iff.mp m7
  obtain ⟨r6, r7⟩ := Bool.and_eq_true_iff.mp m7
  obtain ⟨fd0, F0⟩ := c.t.d.def_ 0 (d := dInit) rfl
  obtain ⟨fd1, F1⟩ := c.t.d.def_ 1 (d := dPlan) rfl
  obtain ⟨fd2, F2⟩ := c.t.d.def_ 2 (d := dEq) rfl
  obtain ⟨fd3, F3⟩ := c.t.d.def_ 3 (d := dGet) rfl
  obtain ⟨fd4, F4⟩ := c.t.d.def_ 4 (d := dLen) rfl
  obtain ⟨fd5, F5⟩ := c.t.d.def_ 5 (d := dHas) rfl
  obtain ⟨fd6, F6⟩ := c.t.d.def_ 6 (d := dHand) rfl
  obtain ⟨fd7, F7⟩ := c.t.d.def_ 7 (d := dClicks) rfl
  obtain ⟨fd8, F8⟩ := c.t.d.def_ 8 (d := dWall) rfl
  obtain ⟨fd9, F9⟩ := c.t.d.def_ 9 (d := dPoint) rfl
  obtain ⟨fd10, F10⟩ := c.t.d.def_ 10 (d := dAim) rfl
  obtain ⟨fd11, F11⟩ := c.t.d.def_ 11 (d := dCross) rfl
  obtain ⟨fd12, F12⟩ := c.t.d.def_ 12 (d := dBound) rfl
  obtain ⟨fd13, F13⟩ := c.t.d.def_ 13 (d := dIsName) rfl
  obtain ⟨fd14, F14⟩ := c.t.d.def_ 14 (d := dCons) rfl
  obtain ⟨fd15, F15⟩ := c.t.d.def_ 15 (d := dNum) rfl
  obtain ⟨fd16, F16⟩ := c.t.d.def_ 16 (d := dSgn) rfl
  obtain ⟨fd17, F17⟩ := c.t.d.def_ 17 (d := dPot) rfl
  obtain ⟨fd18, F18⟩ := c.t.d.def_ 18 (d := dTake) rfl
  obtain ⟨fd19, F19⟩ := c.t.d.def_ 19 (d := dOfD) rfl
  obtain ⟨fd20, F20⟩ := c.t.d.def_ 20 (d := dSome) rfl
  obtain ⟨fd21, F21⟩ := c.t.d.def_ 21 (d := dCells) rfl
  obtain ⟨fd22, F22⟩ := c.t.d.def_ 22 (d := dTold) rfl
  obtain ⟨fd23, F23⟩ := c.t.d.def_ 23 (d := dOdd) rfl
  obtain ⟨fd24, F24⟩ := c.t.d.def_ 24 (d := dNames) rfl
  obtain ⟨fd25, F25⟩ := c.t.d.def_ 25 (d := dLAim) rfl
  obtain ⟨fd26, F26⟩ := c.t.d.def_ 26 (d := dSomeP) rfl
  obtain ⟨fd27, F27⟩ := c.t.d.def_ 27 (d := dLine) rfl
  obtain ⟨fd28, F28⟩ := c.t.d.def_ 28 (d := dPText) rfl
  obtain ⟨fd29, F29⟩ := c.t.d.def_ 29 (d := dPNames) rfl
  obtain ⟨fd30, F30⟩ := c.t.d.def_ 30 (d := dLBound) rfl
  obtain ⟨fd31, F31⟩ := c.t.d.def_ 31 (d := dFar) rfl
  obtain ⟨fd32, F32⟩ := c.t.d.def_ 32 (d := dRight) rfl
  obtain ⟨fd33, F33⟩ := c.t.d.def_ 33 (d := dLaw) rfl
  have b1 : Binds K fd1 ["self", "text"] [] := F1.bindsN fun _ _ _ _ _ _ us hl => match us, hl with | [_, _], _ => rfl
  have b2 : Binds K fd2 ["self", "other"] [] := F2.bindsN fun _ _ _ _ _ _ us hl => match us, hl with | [_, _], _ => rfl
  have b3 : Binds K fd3 ["self", "name"] [] := F3.bindsN fun _ _ _ _ _ _ us hl => match us, hl with | [_, _], _ => rfl
  have b4 : Binds K fd4 ["self"] [] := F4.bindsN fun _ _ _ _ _ _ us hl => match us, hl with | [_], _ => rfl
  have b5 : Binds K fd5 ["self", "value"] [] := F5.bindsN fun _ _ _ _ _ _ us hl => match us, hl with | [_, _], _ => rfl
  have b6 : Binds K fd6 ["line", "most"] [] := F6.bindsN fun _ _ _ _ _ _ us hl => match us, hl with | [_, _], _ => rfl
  have b7 : Binds K fd7 ["lines", "first", "hand"] [] := F7.bindsN fun _ _ _ _ _ _ us hl => match us, hl with | [_, _, _], _ => rfl
  have b8 : Binds K fd8 ["words", "names"] [] := F8.bindsN fun _ _ _ _ _ _ us hl => match us, hl with | [_, _], _ => rfl
  have b9 : Binds K fd9 ["words", "names", "hand"] [] := F9.bindsN fun _ _ _ _ _ _ us hl => match us, hl with | [_, _, _], _ => rfl
  have b10 : Binds K fd10 ["words", "names"] [] := F10.bindsN fun _ _ _ _ _ _ us hl => match us, hl with | [_, _], _ => rfl
  have b11 : Binds K fd11 ["words", "names"] [] := F11.bindsN fun _ _ _ _ _ _ us hl => match us, hl with | [_, _], _ => rfl
  have b12 : Binds K fd12 ["words", "hand"] [] := F12.bindsN fun _ _ _ _ _ _ us hl => match us, hl with | [_, _], _ => rfl
  have b13 : Binds K fd13 ["value"] [] := F13.bindsN fun _ _ _ _ _ _ us hl => match us, hl with | [_], _ => rfl
  have b14 : Binds K fd14 ["text", "signs"] [] := F14.bindsN fun _ _ _ _ _ _ us hl => match us, hl with | [_, _], _ => rfl
  have b15 : Binds K fd15 ["word", "low", "high"] [] := F15.bindsN fun _ _ _ _ _ _ us hl => match us, hl with | [_, _, _], _ => rfl
  have b16 : Binds K fd16 ["word", "most"] [] := F16.bindsN fun _ _ _ _ _ _ us hl => match us, hl with | [_, _], _ => rfl
  have b17 : Binds K fd17 ["script", "place"] [] := F17.bindsN fun _ _ _ _ _ _ us hl => match us, hl with | [_, _], _ => rfl
  have b18 : Binds K fd18 ["pot", "upto"] [] := F18.bindsN fun _ _ _ _ _ _ us hl => match us, hl with | [_, _], _ => rfl
  have b19 : Binds K fd19 ["pot", "some"] [] := F19.bindsN fun _ _ _ _ _ _ us hl => match us, hl with | [_, _], _ => rfl
  have b20 : Binds K fd20 ["pot", "pool", "many"] [] := F20.bindsN fun _ _ _ _ _ _ us hl => match us, hl with | [_, _, _], _ => rfl
  have b21 : Binds K fd21 ["script", "most"] [] := F21.bindsN fun _ _ _ _ _ _ us hl => match us, hl with | [_, _], _ => rfl
  have b22 : Binds K fd22 ["look"] [] := F22.bindsN fun _ _ _ _ _ _ us hl => match us, hl with | [_], _ => rfl
  have b23 : Binds K fd23 ["pot"] [] := F23.bindsN fun _ _ _ _ _ _ us hl => match us, hl with | [_], _ => rfl
  have b24 : Binds K fd24 ["pot", "many"] [] := F24.bindsN fun _ _ _ _ _ _ us hl => match us, hl with | [_, _], _ => rfl
  have b25 : Binds K fd25 ["pot", "names", "step"] [] := F25.bindsN fun _ _ _ _ _ _ us hl => match us, hl with | [_, _, _], _ => rfl
  have b26 : Binds K fd26 ["pot", "points", "walls", "most"] [] := F26.bindsN fun _ _ _ _ _ _ us hl => match us, hl with | [_, _, _, _], _ => rfl
  have b27 : Binds K fd27 ["line"] [] := F27.bindsN fun _ _ _ _ _ _ us hl => match us, hl with | [_], _ => rfl
  have b28 : Binds K fd28 ["plan"] [] := F28.bindsN fun _ _ _ _ _ _ us hl => match us, hl with | [_], _ => rfl
  have b29 : Binds K fd29 ["plan"] [] := F29.bindsN fun _ _ _ _ _ _ us hl => match us, hl with | [_], _ => rfl
  have b30 : Binds K fd30 ["plan", "line"] [] := F30.bindsN fun _ _ _ _ _ _ us hl => match us, hl with | [_, _], _ => rfl
  have b31 : Binds K fd31 ["pot", "lore"] [] := F31.bindsN fun _ _ _ _ _ _ us hl => match us, hl with | [_, _], _ => rfl
  have b32 : Binds K fd32 ["pot"] [] := F32.bindsN fun _ _ _ _ _ _ us hl => match us, hl with | [_], _ => rfl
  have b33 := FunD.bindsA (ps := ["script"]) F33 fun _ _ _ _ _ _ us hl => match us, hl with | [_], _ => rfl
  have e := hfa.symm.trans (glo "law" (by decide +kernel))
  cases e
  have hcd : fd32.code = .ref (He.cT K ("_law_right", none)).1 := code_of (x := "_law_right") (qual := "_law_right") (st := sRight) (p := ("_law_right", none)) (fun_of (st := sRight) F32)
  have fxD : Dx mg := ⟨free _ (by decide +kernel), free _ (by decide +kernel), free _ (by decide +kernel), free _ (by decide +kernel), free _ (by decide +kernel), free _ (by decide +kernel), free _ (by decide +kernel)⟩
  have fxN : FxNum mg := ⟨free _ (by decide +kernel), free _ (by decide +kernel), free _ (by decide +kernel), free _ (by decide +kernel), i9, sD⟩
  have fxNm : FxName mg := ⟨free _ (by decide +kernel), free _ (by decide +kernel), free _ (by decide +kernel), free _ (by decide +kernel), i8, sL⟩
  have fxP : FxPlan K w mg := ⟨fxN, fxNm, words_of (glo "WORDS" (by decide +kernel)) (c.t.tab 0) m5, i999, i99, i6, i4, free _ (by decide +kernel), free _ (by decide +kernel)⟩
  have fxPI : FxPInit K mg (ga K "Plan") := ⟨cB, nT, nH, nP, nW, nC⟩
  have fxM : FxPMk K mg (ga K "Plan") (ma K (ga K "Plan") "__init__") := ⟨fxPI, mk, glo "Plan" (by decide +kernel)⟩
  have fxB : FxBk7 K (ga K "Plan") (ma K (bK K) "__len__") (ma K (bK K) "__contains__") (ma K (bK K) "__getitem__") (ma K (bK K) "__eq__") :=
    ⟨of_decide_eq_true q1, q2, of_decide_eq_true q3, q4, of_decide_eq_true q5, q6, q7, of_decide_eq_true q8, q9, q10, q11, q12⟩
  have fxS : FxIsiP K mg (ga K "Plan") := ⟨of_decide_eq_true r1, of_decide_eq_true r2, of_decide_eq_true r3, of_decide_eq_true r4, of_decide_eq_true r5, of_decide_eq_true r6, of_decide_eq_true r7, glo "Plan" (by decide +kernel), free _ (by decide +kernel)⟩
  have fxT : FxRt7 K mg (ga K "Plan") (ga K "NoPoint") (ga K "DrawError") (fI K) (ma K (ga K "Plan") "__init__") :=
    ⟨fxM, err_ok m2 (init_of F0), glo "NoPoint" (by decide +kernel), glo "DrawError" (by decide +kernel), of_decide_eq_true m4, of_decide_eq_true m3, free _ (by decide +kernel), free _ (by decide +kernel), free _ (by decide +kernel), free _ (by decide +kernel), free _ (by decide +kernel)⟩
  refine ⟨K, (He.cT K ("_law_right", none)).1, (He.cT K ("_law_right", none)).2, fd33, spLaw K (He.cT K ("_law_right", none)).2, X, c.empty _ (List.mem_singleton.mpr rfl), c.out _ (List.mem_singleton.mpr rfl), PySem.W.codeHd_of_K X (c.hd _ (List.mem_singleton.mpr rfl)),
    fun s v => b33 s [v] rfl, fun H a ns hl hT hS => ⟨a, ns, rfl, hS, hl, fun p hp => ?_, fun _ => rfl⟩, fun base hb hm hTB => ?_⟩
  · rw [List.mem_singleton.mp hp]
    exact TabS.nil hT
  · have GInit := ok_pinit (P := PySem.Challenge.rw_wobblesnap_k07_plans_as_told.prog) (w := w) (mg := mg) (bs := base) (fun_of (st := sPlan) F1) fxPI fxP (err_ok m1 (init_of F0)) (glo "BadPlan" (by decide +kernel)) (fun_of F7) (glo _ (by decide +kernel)) b7 (fun_of F6) (glo _ (by decide +kernel)) b6 (fun_of F9) (glo _ (by decide +kernel)) b9 (fun_of F8) (glo _ (by decide +kernel)) b8 (fun_of F10) (glo _ (by decide +kernel)) b10 (fun_of F12) (glo _ (by decide +kernel)) b12 (fun_of F13) (glo _ (by decide +kernel)) b13 (fun_of F11) (glo _ (by decide +kernel)) b11 (fun_of F16) (glo _ (by decide +kernel)) b16 (fun_of F15) (glo _ (by decide +kernel)) b15 (fun_of F14) (glo _ (by decide +kernel)) b14
    have GLen := ok_plen (P := PySem.Challenge.rw_wobblesnap_k07_plans_as_told.prog) (w := w) (mg := mg) (bs := base) (fun_of (st := sPLen) F4) fxPI (free _ (by decide +kernel))
    have GHas := ok_phas (P := PySem.Challenge.rw_wobblesnap_k07_plans_as_told.prog) (w := w) (mg := mg) (bs := base) (fun_of (st := sPHas) F5) fxPI (free _ (by decide +kernel)) (free _ (by decide +kernel))
    have GGet := ok_pget (P := PySem.Challenge.rw_wobblesnap_k07_plans_as_told.prog) (w := w) (mg := mg) (bs := base) (fun_of (st := sPGet) F3) fxPI (err_ok m2 (init_of F0)) (glo "NoPoint" (by decide +kernel))
    have GEq := ok_peq (P := PySem.Challenge.rw_wobblesnap_k07_plans_as_told.prog) (w := w) (mg := mg) (bs := base) (fun_of (st := sPEq) F2) fxPI fxS
    have GT := ok_take (P := PySem.Challenge.rw_wobblesnap_k07_plans_as_told.prog) (w := w) (mg := mg) (bs := base) (fun_of (st := sTake) F18) fxD
    have GOd := ok_odd (P := PySem.Challenge.rw_wobblesnap_k07_plans_as_told.prog) (w := w) (mg := mg) (bs := base) (fun_of (st := sOdd) F23) fxD (fun_of F18) (glo _ (by decide +kernel)) b18 (fun_of F19) (glo _ (by decide +kernel)) b19
    have GSP := ok_someP (P := PySem.Challenge.rw_wobblesnap_k07_plans_as_told.prog) (w := w) (mg := mg) (bs := base) (fun_of (st := sSomeP) F26) fxD (free _ (by decide +kernel)) (free _ (by decide +kernel)) (fun_of F18) (glo _ (by decide +kernel)) b18 (fun_of F19) (glo _ (by decide +kernel)) b19 (fun_of F20) (glo _ (by decide +kernel)) b20 (fun_of F24) (glo _ (by decide +kernel)) b24 (fun_of F25) (glo _ (by decide +kernel)) b25
    have GPT := ok_ptext (P := PySem.Challenge.rw_wobblesnap_k07_plans_as_told.prog) (w := w) (mg := mg) (bs := base) (fun_of (st := sPText) F28) (free _ (by decide +kernel)) (fun_of F27) (glo _ (by decide +kernel)) b27
    have GPN := ok_pnames (P := PySem.Challenge.rw_wobblesnap_k07_plans_as_told.prog) (w := w) (mg := mg) (bs := base) (fun_of (st := sPNames) F29)
    have GLB := ok_lb (P := PySem.Challenge.rw_wobblesnap_k07_plans_as_told.prog) (w := w) (mg := mg) (bs := base) (fun_of (st := sLBound) F30)
    have GFr := ok_far (P := PySem.Challenge.rw_wobblesnap_k07_plans_as_told.prog) (w := w) (mg := mg) (bs := base) (fun_of (st := sFar) F31) fxD (fun_of F18) (glo _ (by decide +kernel)) b18 (fun_of F19) (glo _ (by decide +kernel)) b19
    have GRt := ok_right (PT := (He.cT K ("_law_right", none)).2) hTB fxT fxB fxD (fun_of F22) (glo _ (by decide +kernel)) b22 GT F18.kp (glo _ (by decide +kernel)) b18 GSP F26.kp (glo _ (by decide +kernel)) b26 GPT F28.kp (glo _ (by decide +kernel)) b28 GPN F29.kp (glo _ (by decide +kernel)) b29 GLB F30.kp (glo _ (by decide +kernel)) b30 GFr F31.kp (glo _ (by decide +kernel)) b31 GOd F23.kp (glo _ (by decide +kernel)) b23 GInit b1 (raw0 GLen b4) (raw0 GHas b5) (raw0 GGet b3) (raw0 GEq b2) (fun_of F32) hcd
    exact ok_law (fun_of F33) fxD GRt F32.kp (glo _ (by decide +kernel)) b32 (fun_of F17) (glo _ (by decide +kernel)) b17 (fun_of F21) (glo _ (by decide +kernel)) b21
end L2.K07
open PySem PySem.W PySem.Calls PyProof.Rows
theorem PySem.Challenge.cw_wobblesnap_k07_plans_as_told_holds : PySem.Challenge.rw_wobblesnap_k07_plans_as_told.Holds := by
  w_on; o_law
  refine HandSHeadRun.head_any (r := L2.K07.R) (q := view L2.K07.R.prog [45]) (H := L2.K07.hk) (ob := L2.K07.ob) (M := 6000) (loose := L2.K07.loose) (d := HandSHeadRun.topDef L2.K07.R.prog 45) (kwd := []) L2.K07.ob_eq
    (by kernel_rfl) (fun s => by kernel_rfl) L2.K07.run (by kernel_rfl) (by kernel_rfl) (by kernel_rfl) (by rfl) (by first | assumption | decide +kernel) (by decide +kernel) ⟨rfl, rfl, rfl, rfl, rfl, by decide +kernel⟩ ?hw ?hc
  case hw => w_witness2
  case hc =>
    refine L2.Vx.walk_ofTEG (l := PySem.Challenge.rw_wobblesnap_k07_plans_as_told) (n := 63) (k := 10) (x := "script") (CX := L2.CX0) rfl (by decide) (by kernel_rfl) ⟨rfl, by decide, by decide⟩ ?F (fun _ _ _ _ z => z)
    intro w mg fa h Y G hmg0
    obtain ⟨K, KX, c⟩ := Y
    have hmg : mg ("law" : PySem.Str) = some (.ref fa) := by
      have e : (HandSHeadRun.topDef L2.K07.R.prog 45).name = ("law" : PySem.Str) := by kernel_rfl
      rw [← e]
      exact hmg0
    exact L2.K07.facts KX G hmg c
#print axioms PySem.Challenge.cw_wobblesnap_k07_plans_as_told_holds

