import PyProof.Rows.All
import Wide.All
import OpenK.AllK
import Wide.FinOn
import PyProof.EqAt
import PyProof.EqKinds
import PyProof.TupleCall
import PyProof.ReprReads
import KE.KExcIs
import HandS.ForMost
import HandS.Exc
import HandS.ExcOwn
import HandS.WordsExc
import HandS.IsInst
import HandS.ExcValue
import HandS.Defaults
import HandS.Head0
import HandS.Head1
import HandS.Head2
import HandS.HeadEnd
import HandS.HeadHook4
import HandS.Lambda
import HandS.Walk
import KE.GoesEnum
import HandS.Text
import KE.IntTextLaws
import KE.IntTextText
import HandS.Conv
import HandS.Wide
import HandS.SlotsOwn
import OpenK.KMeth
import OpenK.KOps
import PyProof.IsiPairs
import PyProof.FactsAll.dict
import HandS.EndTab
import HandS.SetKeys
import HandS.TupSets
import HandS.Comp
import HandS.DictComp
import HandS.Zip
import PyProof.ReprLen
import HandS.Deep
import HandS.TupAny
import PyProof.ZipIter
import HandS.ListItems
import PyProof.Rows.StrMeet
import HandS.Style
import HandS.List
import KE.KDictPairs
import KE.KRevSl
import PySem.Challenge.RW_wobblesnap_k04_bounds_refused
import HandS.StrMore
import HandS.RaiseMore
import HandS.Dict
import HandS.More
import HandS.WordsDict
import HandS.HeadWalk
set_option Elab.async false
set_option linter.all false
set_option maxRecDepth 100000
set_option maxHeartbeats 2000000
namespace PySem
namespace DrX
open PySem.W PySem.Calls PyProof.Rows PySem.HandSPX
/-! ### the text of __init__ -/
def iA (p1 p2 : Pos) : Arguments := { posonlyargs := [], args := [{ arg := "self", annotation := none, pos := p1 }, { arg := "value", annotation := none, pos := p2 }], vararg := none, kwonlyargs := [], kw_defaults := [], kwarg := none, defaults := [] }
def iB (q1 q2 q3 q4 : Pos) : List Stmt := [.Assign [.Attribute (.Name "self" q1) "value" q2] (.Name "value" q3) q4]
def iS : Scope := { kind := .function, names := [(PySem.Str.ofString "self", .local), (PySem.Str.ofString "value", .local)], isGenerator := false, isCoroutine := false, more := [] }
/-- what the written part says of Low, at C, and of its __init__, at fI -/
structure ErrT (K : Frag) (C fI : Addr) : Prop where
  cls : ∃ nm q N bs bm sn sub ab col dd k0 k1 k2 k3 k5, K.lookup C = some (excClassObj nm q C N bs bm true sn sub ab col dd k0 k1 k2 k3 k5 "ValueError.__new__") ∧ refsVE bm = true
  sa : findIn K (.ref C) "__setattr__" = some (some (.builtin "object.__setattr__"))
  ga : findIn K (.ref C) "__getattribute__" = some (some (.builtin "BaseException.__getattribute__"))
  gg : findIn K (.ref C) "__getattr__" = some none
  noN : findIn K (.ref C) "value" = some none
  iC : findIn K (.ref C) "__init__" = some (some (.ref fI))
  tC : typeIn K (.ref fI) = some (.type "function")
  kC : keepIn K (.ref C) = true
  exC : subIn K (.ref C) (.type "BaseException") = some true
  tyC : typeIn K (.ref C) = some (.type "type")
  hdC : hasDictIn K C = true
  cls' : (clsIn K C).isSome = true
  ha : findIn K (.ref C) "__class__" = some (some (.builtin "object.__class__"))
  hn : specialIn K (.builtin "object.__class__") "__get__" = some (some (.builtin "getset_descriptor.__get__"))
  ht : takesIn K (.builtin "object.__class__") = some true
  hm : mroIn K C (.type "object") = some true
  fn : ∃ (oc : Value) (od : Option Addr) (kV doc pm : Value) (an : Option Addr) (cdv ct : Value) (osl : Array (Option Value)) (p1 p2 q1 q2 q3 q4 : Pos),
    K.lookup fI = some ⟨oc, od, .func (fnOf "__init__" "DrawError.__init__" (iA p1 p2) (iB q1 q2 q3 q4) iS .none kV doc pm an cdv ct), osl⟩ ∧ codeIn K cdv "DrawError.__init__" = true
theorem one_size (v : Value) : [v].length ≤ sizeLine := by
  rw [sizeLine_eq]
  exact (by decide : 1 ≤ 16777216)
theorem kept_but {K : Frag} {h h' : Heap} {x : Addr} (X : K.In h) (hx : K.lookup x = none) (k : ∀ b o, b ≠ x → h.get? b = some o → h'.get? b = some o) : K.In h' := fun a o e =>
  k a o (fun z => by rw [z, hx] at e; cases e) (X a o e)
theorem ldC {M : Model} {s : Shared} {name : Str} {scope : Scope} {L a : Addr} {cd : Value} {m : Str → Option Value} {x : Str} {pos : Pos} {v : Value} {Q : Value → Shared → Prop} {A : Around} {E : Value → Shared → Prop} (hn : s.heap.Ns L m) (hv : m x = some v) (h : Q v s)
    (hk : scope.kind = .function := by rfl) (hl : (envOfC name scope L a cd).kindOf x = some .local := by rfl) (hd : (x == ("__debug__" : Str)) = false := by decide) :
    wpAny M A (eval (.Name x pos) (envOfC name scope L a cd)) Q E s := wpAny_Name (wpAny_loadName_local hk hl hn hv h) hd
/-- what __init__ leaves of a fresh exception at x -/
structure InitEnd (h h' : Heap) (x C dx t1 : Addr) (v : Value) : Prop where
  keep : ∀ b o, b ≠ x → h.get? b = some o → h'.get? b = some o
  obj : h'.get? x = some { cls := .ref C, dict := some dx, data := .fields #[.ref t1, .none, .none, .none, .bool false, .none] }
  dbig : h.objs.size ≤ dx
  dne : dx ≠ x
  ns : h'.Ns1 dx (fun y => if y = "value" then some v else none)
/-- a made Low -/
structure OwnMade (h h' : Heap) (e C d : Addr) (v : Value) : Prop where
  keep : ∀ b o, h.get? b = some o → h'.get? b = some o
  new : h.objs.size ≤ e
  obj : ∃ oe vs, h'.get? e = some oe ∧ oe.cls = .ref C ∧ oe.dict = some d ∧ oe.data = .fields vs ∧ vs[1]? = some .none
  dbig : h.objs.size ≤ d
  dne : d ≠ e
  ns : h'.Ns1 d (fun y => if y = "value" then some v else none)
section
variable {prog : Program} {w : World} {A : Around} {E : Value → Shared → Prop} {R : Result → Shared → Prop} {s : Shared} {K : Frag} {C fI : Addr}
theorem low_init (T : ErrT K C fI) {x t0 : Addr} {v : Value} (X : K.In s.heap) (hlim : s.heap.NoLimit) (hx : s.heap.get? x = some (excO C t0)) (hnx : K.lookup x = none) (hroom : A.depth < recursionLimit)
    (hq : ∀ h' tk dx, InitEnd s.heap h' x C dx t0 v → R (.ok (.ret .none)) { s with heap := h', toks := tk }) :
    codeAny (model prog w) A (.call (.ref fI) ⟨[.ref x, v], []⟩) R s := by
  obtain ⟨oc, od, kV, doc, pm, an, cdv, ct, osl, p1, p2, q1, q2, q3, q4, ho, hcd⟩ := T.fn
  obtain ⟨nm, q, N, bs, bm, sn, sub, ab, col, dd, k0, k1, k2, k3, k5, hC, hbm⟩ := T.cls
  have hcl : clsIn K C = some { name := nm, bases := bs, mro := .ref C :: bm, ns := N, qualname := q, hasDict := true, slotNames := sn, subclasses := sub, abstract := ab, collection := col, hasDel := false } := by unfold clsIn; rw [hC] <;> rfl
  refine Att.call_fn (binds := [("self", .ref x), ("value", v)]) X hlim ho hcd hroom (BindsTo.of_eq (by first | rfl | with_unfolding_all rfl)) (by first | rfl | decide | with_unfolding_all rfl) (fun s₁ IC => ?_) rfl rfl rfl
  obtain ⟨h₁, tk₁, rfl⟩ := IC.toInCall.same
  have k : ∀ b o, s.heap.get? b = some o → h₁.get? b = some o := IC.toInCall.keep
  have hn := IC.toInCall.ns
  have hxL : s.heap.objs.size ≠ x := Nat.ne_of_gt (Heap.lt_size hx)
  have X₁ : K.In h₁ := X.keeps k
  have hx₁ := k _ _ hx
  -- self.by = by
  show wpAny _ _ (execs _ _) _ _ _
  refine wpAny_execs_cons (plainObj_wpAny_Assign_Attribute ?_)
  refine ldC (v := v) hn (by first | rfl | with_unfolding_all rfl | kernel_rfl) (ldC (v := .ref x) hn (by first | rfl | with_unfolding_all rfl | kernel_rfl) ?_)
  refine set_plain X₁ (ox := excO C t0) (od := none) ⟨hx₁, rfl, rfl, trivial⟩ T.sa ?_
  refine exc_osa X₁ hx₁ hcl (show refsVE (.ref C :: bm) = true from hbm) rfl T.noN (fun h₃ tk₃ dx k₃ dn dne hx₃ hn₃ => ?_)
  show wpAny _ _ (execs _ _) _ _ _
  have z : s.heap.objs.size < h₁.objs.size := hn.lt
  exact wpAny_execs_nil (hq h₃ tk₃ dx ⟨fun b o hb e => k₃ b o hb (k b o e), hx₃, Nat.le_of_lt (Nat.lt_of_lt_of_le z dn), dne, hn₃⟩)
theorem low_made (T : ErrT K C fI) {v : Value} (X : K.In s.heap) (hlim : s.heap.NoLimit) (hroom : A.depth + 1 < recursionLimit)
    (hq : ∀ h' tk e d, OwnMade s.heap h' e C d v → R (.ok (.ret (.ref e))) { s with heap := h', toks := tk }) :
    codeAny (model prog w) A (.call (.ref C) ⟨[v], []⟩) R s := by
  obtain ⟨nm, q, N, bs, bm, sn, sub, ab, col, dd, k0, k1, k2, k3, k5, hC, hbm⟩ := T.cls
  obtain ⟨hp, g, dr, tk, os⟩ := s
  have k : ∀ b o, hp.get? b = some o → ((hp.push (kdv_tup [v])).push (excO C hp.objs.size)).get? b = some o := fun b o e => Heap.get?_push_of_some _ (Heap.get?_push_of_some _ e)
  have hget : ((hp.push (kdv_tup [v])).push (excO C hp.objs.size)).get? (hp.objs.size + 1) = some (excO C hp.objs.size) := by heap_get
  have hnx : K.lookup (hp.objs.size + 1) = none := by
    cases e : K.lookup (hp.objs.size + 1) with
    | none => rfl
    | some o =>
      have z : hp.get? (hp.objs.size + 1) = some o := X _ _ e
      exact absurd (Nat.lt_of_succ_lt (Heap.lt_size z)) (Nat.lt_irrefl _)
  refine call_own F.excBase_ValueError (fun X => refsVE_contains X bm hbm) (X _ _ hC) (looks_findIn X T.iC) (fun self => bind_fn X self T.tC) (one_size v) ?_
  refine low_init (s := ⟨(hp.push (kdv_tup [v])).push (excO C hp.objs.size), g, dr, tk, os⟩) T (X.keeps k) (hlim.keeps k) hget hnx ?_ fun h' tk' dx ⟨k', hx, dn, dne, hns⟩ => ?_
  · show A.depth + 1 < recursionLimit
    exact hroom
  · have old : ∀ b o, hp.get? b = some o → h'.get? b = some o := fun b o e => k' b o (Nat.ne_of_lt (Nat.lt_succ_of_lt (Heap.lt_size e))) (k b o e)
    have z : hp.objs.size + 1 + 1 ≤ dx := by
      first
        | (simpa only [Heap.size_push] using dn)
        | exact dn
        | (have q := dn; rw [Heap.size_push, Heap.size_push] at q; exact q)
    exact ⟨rfl, hq h' tk' (hp.objs.size + 1) dx ⟨old, Nat.le_succ _, ⟨_, _, hx, rfl, rfl, rfl, rfl⟩, Nat.le_trans (Nat.le_trans (Nat.le_succ _) (Nat.le_succ _)) z, dne, hns⟩⟩
end
end DrX
end PySem

set_option Elab.async false
set_option linter.all false
set_option maxRecDepth 100000
set_option maxHeartbeats 2000000
namespace L2.Vx
open PySem PySem.Spec PyProof.Rows

/-- the written facts of an error class, with the name of it -/
abbrev ErrT := @PySem.DrX.ErrT

/-- at a stands an exception of the class cls, its own dict, if there is one, at d -/
def EX (a : Addr) (cls : Value) (d : Option Addr) : HO :=
  .ext fun h => ∃ oe vs, h.get? a = some oe ∧ Zc cls d oe ∧ oe.data = .fields vs
theorem ex_ok {P : Program} {w : World} {H : Hp} {h : Heap} {a : Addr} {cls : Value} {d : Option Addr} {oe : Obj} {vs : Array Value}
    (e : h.get? a = some oe) (z : Zc cls d oe) (q : oe.data = .fields vs) : ObjOk P w H h a (EX a cls d) :=
  ⟨⟨oe, vs, e, z, q⟩, ⟨oe, e⟩, fun _ _ ⟨o, v, p, r⟩ k => ⟨o, v, k o p, r⟩⟩
theorem ex_at {P : Program} {w : World} {H : Hp} {h : Heap} {a : Addr} {cls : Value} {d : Option Addr} (ok : HOk P w H h)
    (e : H a = some (EX a cls d)) : ∃ oe vs, h.get? a = some oe ∧ Zc cls d oe ∧ oe.data = .fields vs := (ok a _ e).1
/-- the state is another one, its heap the same -/
theorem inv_same {X : Cx} {pins : List (Addr × Obj)} {σ : St} {H : Hp} {s s' : Shared} (I : Inv X pins σ H s) (e : s'.heap = s.heap)
    (os : s'.os = s.os) (bare : AllBare s'.gens) : Inv X pins σ H s' := by
  obtain ⟨h, g, dr, tk, o⟩ := s
  obtain ⟨h', g', dr', tk', o'⟩ := s'
  obtain rfl : h' = h := e
  obtain rfl : o' = o := os
  exact ⟨I.ok, I.os, bare, I.base, I.loc, I.cell, I.free, I.freeC, I.pin, I.hok, I.len⟩
/-- what makes an exception, as a value: it is tracked from now on -/
theorem pe_mk {X : Cx} {e : Expr} {t : St → Hp → XK → Prop} (he : PMk X e t) :
    PE X e (fun σ H Q => t σ H fun cls d H1 => ∀ a, H1 a = none → Q (.ref a) (upd H1 a (EX a cls d))) := by
  refine ⟨fun pins s σ H Q I h => ?_⟩
  refine wpAny_mono (he pins s σ H _ I h) (fun u s1 hu => ?_) fun _ _ x => x
  obtain ⟨a, oe, vs, sI, H', cls, d, rfl, J, k, hne, ha, hz, hd, _, na, os, ag, _, q⟩ := hu
  have J2 := J.laidN (t' := s1.toks) (h' := s1.heap) k hne na (ex_ok (P := X.prog) (w := X.w) (H := upd H' a (EX a cls d)) ha hz hd)
  exact ⟨.ref a, _, inv_same J2 rfl os ag, rfl, q a na⟩

/-- the own dict of an error that keeps v -/
abbrev xv (v : V) : HO := .xd [(("value" : Str), v)]
theorem look_xv {v : V} : List.lookup ("value" : Str) [(("value" : Str), v)] = some v := by simp [List.lookup]
theorem rel_xv {v : V} {u : Value} (r : RelV v u) (f : Str) :
    RelO (List.lookup f [(("value" : Str), v)]) (if f = "value" then some u else none) := by
  by_cases hf : f = "value"
  · subst hf
    rw [if_pos rfl, look_xv]
    exact r
  · rw [if_neg hf]
    have q : (f == ("value" : Str)) = false := by simpa using hf
    have q2 : List.lookup f [(("value" : Str), v)] = none := by simp [List.lookup, q]
    rw [q2]
    trivial

section
variable {X : Cx} {C fI : Addr}

/-- the call of an error class, whatever is made of it -/
theorem run_err {x : Str} {a : Expr} {ta : TA} {p pos : Pos} {k : Nat} (T : ErrT X.K C fI) (hm : X.mg x = some (.ref C))
    (hr : Room k X.A) (ha : PA X [a] ta) (hg : Gl X x) (hdb : (x == ("__debug__" : Str)) = false)
    (he : starEach (a :: []) X.env = (false, eval a X.env) :: starEach [] X.env)
    (hpl : (backTo pos (starEach [] X.env)).any (·.1) = false)
    {pins : List (Addr × Obj)} {s : Shared} {σ : St} {H : Hp} {Q : V → Hp → Prop} {R : Value → Shared → Prop} (I : Inv X pins σ H s)
    (h : ta σ H fun vs H1 => ∃ v, vs = [v] ∧ Q v H1)
    (fin : ∀ (v : V) (H1 : Hp) (e d : Addr) (G h' : Heap) (g : Array GenState) (dr : Drawn) (tk' : Nat) (os : OsState) (oe : Obj) (fv : Array Value),
      Inv X pins σ (upd H1 d (xv v)) ⟨G, g, dr, tk', os⟩ → (∀ b o, G.get? b = some o → h'.get? b = some o) → G.get? e = none →
      h'.get? e = some oe → Zc (.ref C) (some d) oe → oe.data = .fields fv → fv[1]? = some .none → H1 e = none → H1 d = none → d ≠ e → Q v H1 →
      AllBare g → R (.ref e) ⟨h', g, dr, tk', os⟩) :
    wpAny (model X.prog X.w) X.A (eval (.Call (.Name x p) [a] [] pos) X.env) R X.xe s := by
  refine wpAny_Call_Name_kw (ld_glob I hg hm ?_ hdb)
  refine PySem.W.callWith_K (h₀ := X.base) I.ok.mod.kin T.kC (thn (ha.run pos pins s σ H _ I h) fun us s1 hh => ?_) he hpl
  obtain ⟨vs, H1, I1, r1, v, ev, q1⟩ := hh
  subst ev
  refine ⟨I1.kIn, ?_⟩
  cases r1 with
  | cons rv rn =>
    rename_i v' us'
    cases rn
    have hlim := I1.nolimit
    obtain ⟨hp, g, dr, tk, os⟩ := s1
    refine wpAny_call (PySem.DrX.low_made T I1.kIn hlim (by have := hr.dp; omega) fun h' tk' e d M => ?_)
    obtain ⟨oe, fv, hoe, hc, hd, hdat, h1⟩ := M.obj
    obtain ⟨G', g1, g2⟩ := restrict h' fun b => decide (b ≠ e)
    have gk : ∀ b, b ≠ e → G'.get? b = h'.get? b := fun b hb => g1 b (decide_eq_true hb)
    have ge : G'.get? e = none := g2 e (by simp)
    have old : ∀ b o, hp.get? b = some o → G'.get? b = some o := fun b o q =>
      (gk b (Nat.ne_of_lt (Nat.lt_of_lt_of_le (Heap.lt_size q) M.new))).trans (M.keep b o q)
    have ob : ObjOk X.prog X.w (upd H1 d (xv v)) G' d (xv v) :=
      ⟨_, M.ns.at (fun o q => (gk d M.dne).trans q), fun f => rel_xv rv f⟩
    have J : Inv X pins σ (upd H1 d (xv v)) ⟨G', g, dr, tk', os⟩ := I1.laid (t' := tk') old M.dbig ob
    refine fin v H1 e d G' h' g dr tk' os oe fv J (fun b o q => ?_) ge hoe ⟨hc, hd⟩ hdat h1 (I1.hok.fresh M.new) (I1.hok.fresh M.dbig) M.dne q1 I1.bare
    by_cases hb : b = e
    · rw [hb, ge] at q
      cases q
    · exact (gk b hb).symm.trans q

/-- C(e), to be raised -/
def tMkE (C : Addr) (ta : TA) : St → Hp → XK → Prop := fun σ H Q => ta σ H fun vs H1 =>
  ∃ v, vs = [v] ∧ ∀ d, H1 d = none → Q (.ref C) (some d) (upd H1 d (xv v))
theorem pmk_err {x : Str} {a : Expr} {ta : TA} {p pos : Pos} {k : Nat} (T : ErrT X.K C fI) (hm : X.mg x = some (.ref C))
    (hr : Room k X.A) (ha : PA X [a] ta) (hg : Gl X x := by rfl) (hdb : (x == ("__debug__" : Str)) = false := by decide)
    (he : starEach (a :: []) X.env = (false, eval a X.env) :: starEach [] X.env := by rfl)
    (hpl : (backTo pos (starEach [] X.env)).any (·.1) = false := by rfl) :
    PMk X (.Call (.Name x p) [a] [] pos) (tMkE C ta) := by
  intro pins s σ H Q I h
  refine run_err T hm hr ha hg hdb he hpl I (Q := fun v H1 => ∀ d, H1 d = none → Q (.ref C) (some d) (upd H1 d (xv v))) h ?_
  intro v H1 e d G h' g dr tk' os oe fv J k ge hoe hz hdat h1 ne nd ned q hb
  have hn : upd H1 d (xv v) e = none := by rw [upd_ne (Ne.symm ned)]; exact ne
  exact ⟨e, oe, fv, _, _, .ref C, some d, rfl, J, k, ge, hoe, hz, hdat, h1, hn, rfl, hb, raises_own T.exC T.tyC, q d nd⟩
/-- raise C(e) -/
theorem ps_err {W : WX} {x : Str} {a : Expr} {ta : TA} {p pos pos2 : Pos} {k : Nat} (hc : X.calm = true) (T : ErrT X.K C fI)
    (hm : X.mg x = some (.ref C)) (hr : Room k X.A) (tk : Takes X W) (ha : PA X [a] ta) (hg : Gl X x := by rfl)
    (hdb : (x == ("__debug__" : Str)) = false := by decide)
    (he : starEach (a :: []) X.env = (false, eval a X.env) :: starEach [] X.env := by rfl)
    (hpl : (backTo pos (starEach [] X.env)).any (·.1) = false := by rfl) :
    PS X (.Raise (some (.Call (.Name x p) [a] [] pos)) none pos2) (fun _ σ H => tMkE C ta σ H fun cls d H' => W cls d σ H') :=
  ps_raise hc tk (pmk_err T hm hr ha hg hdb he hpl)

/-- C(e) as a value -/
def tExc (C : Addr) (ta : TA) : TE := fun σ H Q => tMkE C ta σ H fun cls d H1 => ∀ a, H1 a = none → Q (.ref a) (upd H1 a (EX a cls d))
theorem pe_exc {x : Str} {a : Expr} {ta : TA} {p pos : Pos} {k : Nat} (T : ErrT X.K C fI) (hm : X.mg x = some (.ref C))
    (hr : Room k X.A) (ha : PA X [a] ta) (hg : Gl X x := by rfl) (hdb : (x == ("__debug__" : Str)) = false := by decide)
    (he : starEach (a :: []) X.env = (false, eval a X.env) :: starEach [] X.env := by rfl)
    (hpl : (backTo pos (starEach [] X.env)).any (·.1) = false := by rfl) :
    PE X (.Call (.Name x p) [a] [] pos) (tExc C ta) := pe_mk (pmk_err T hm hr ha hg hdb he hpl)

/-- what is known of an error that is held: its class of one's own, its dict with the value; or a plain ValueError -/
def Held (K : PySem.W.Frag) (H : Hp) (a : Addr) (cls : Value) : Prop :=
  (∃ C d fI v, cls = .ref C ∧ H a = some (EX a cls (some d)) ∧ H d = some (xv v) ∧ ErrT K C fI) ∨
  (cls = .type "ValueError" ∧ H a = some (EX a cls none))
/-- e.value, e a tracked error -/
def tVal (K : PySem.W.Frag) (te : TE) : TE := fun σ H Q => te σ H fun x H1 => ∃ a C d fI v,
  x = .ref a ∧ H1 a = some (EX a (.ref C) (some d)) ∧ ErrT K C fI ∧ H1 d = some (xv v) ∧ Q v H1
theorem inst_ex {h : Heap} {a C d : Addr} {oe : Obj} {vs : Array Value} {mA : Str → Option Value} (ho : h.get? a = some oe)
    (hz : Zc (.ref C) (some d) oe) (hd : oe.data = .fields vs) (hns : h.Ns1 d mA) :
    ∃ od, PySem.W.InstAt h a oe C (some od) ∧ ∀ name, PySem.W.lookIn name od = some (mA name) := by
  obtain ⟨od, hod, hl⟩ := lookIn_ns hns
  exact ⟨od, ⟨ho, hz.1, by unfold PySem.W.notCls; rw [hd] <;> rfl, by rw [hz.2]; exact hod⟩, hl⟩
theorem pe_val {e : Expr} {te : TE} {pos : Pos} (he : PE X e te)
    (hb : attributeBase e "value" X.env (eval e X.env) = eval e X.env := by rfl) : PE X (.Attribute e "value" pos) (tVal X.K te) := by
  refine ⟨fun pins s σ H Q I h => ?_⟩
  refine attr_of hb (thn (he.run pins s σ H _ I h) fun u s1 hh => ?_)
  obtain ⟨x, H1, I1, rx, a, C, d, fI, v, ex, ea, T, ed, q⟩ := hh
  subst ex
  obtain rfl : u = Value.ref a := rx
  obtain ⟨oe, vs, ho, hz, hd⟩ := ex_at I1.hok ea
  have hx : ObjOk X.prog X.w H1 s1.heap d (xv v) := I1.hok d _ ed
  obtain ⟨mA, hns, hr⟩ := hx
  obtain ⟨od, J, hl⟩ := inst_ex ho hz hd hns
  obtain ⟨u, hu, ru⟩ := RelO.some_of (v := v) (o := mA "value") (by rw [← look_xv (v := v)]; exact hr "value")
  exact HandSPX.exc_get I1.kIn J T.ga T.gg T.exC (PySem.W.findObj_own T.hdC T.noN rfl (by rw [hl, hu])) (handed_of ru) ⟨v, H1, I1.tok _, ru, q⟩

/-- isinstance(e, c), e a tracked error -/
def rIsX (K : PySem.W.Frag) : List V → Hp → VK → Prop := fun xs H Q => ∃ (a : Addr) (cls : Value) (c : V) (cv : Value) (b : Bool),
  xs = [.ref a, c] ∧ Held K H a cls ∧ (∀ u, RelV c u → u = cv) ∧ PySem.W.kitOne K cls cv = some b ∧ Q (.bl b) H
theorem call_isX : CallR X (.builtin "isinstance") (rIsX X.K) := by
  intro pins s σ H xs us Q I r h
  obtain ⟨a, cls, c, cv, b, rfl, hh, hcv, e, q⟩ := h
  cases r with
  | cons rx rr =>
    cases rr with
    | cons rt rr =>
      cases rr
      cases rx
      have ec := hcv _ rt
      subst ec
      have fin : ∀ tk : Nat, EP X pins σ Q (.bool b) { s with toks := tk } := fun tk => ⟨.bl b, H, I.kept (t' := tk) fun _ _ z => z, rfl, q⟩
      rcases hh with ⟨C, d, fI, v, rfl, ea, ed, T⟩ | ⟨rfl, ea⟩
      · obtain ⟨oe, vs, ho, hz, hd⟩ := ex_at I.hok ea
        have hx : ObjOk X.prog X.w H s.heap d (xv v) := I.hok d _ ed
        obtain ⟨mA, hns, _⟩ := hx
        obtain ⟨od, J, _⟩ := inst_ex ho hz hd hns
        exact PySem.W.kia_one (PySem.W.kitx_exc T.cls' T.ga T.gg T.exC T.ha T.hn T.ht T.hm) I.kIn J e (fun z => nomatch z) fin
      · obtain ⟨oe, vs, ho, hz, hd⟩ := ex_at I.hok ea
        exact PySem.W.kia_one (PySem.W.kitx_bexc PySem.F.excAttr_ValueError PySem.F.lkClass_ValueError PySem.F.soClass_ValueError (by decide)) I.kIn ⟨oe, ho, hz.1⟩ e (fun z => nomatch z) fin
end
end L2.Vx

set_option Elab.async false
set_option linter.all false
set_option maxRecDepth 100000
set_option maxHeartbeats 2000000
namespace L2.Vx
open PySem PySem.Spec PyProof.Rows

/-! ### data at an address, dicts with it -/
def kd : Key → PyData
  | .inl i => .int i
  | .inr x => .str x
mutual
inductive Dd (K : PySem.W.Frag) (H : Hp) : V → PyData → Prop
  | non : Dd K H .non .none
  | bl (b : Bool) : Dd K H (.bl b) (.bool b)
  | int (i : Int) : Dd K H (.int i) (.int i)
  | str (x : Str) : Dd K H (.str x) (.str x)
  | lst {a : Addr} {xs : List V} {ds : List PyData} : SqL K H a xs → DdAll K H xs ds → Dd K H (.ref a) (.list ds)
  | tup {a : Addr} {xs : List V} {ds : List PyData} : SqT K H a xs → DdAll K H xs ds → Dd K H (.ref a) (.tuple ds)
  | dct {a : Addr} {kvs : List (Key × V)} {ds : List PyData} : H a = some (.dK kvs) → DdAll K H (kvs.map (·.2)) ds →
      Dd K H (.ref a) (.dict ((kvs.map fun p => kd p.1).zip ds))
inductive DdAll (K : PySem.W.Frag) (H : Hp) : List V → List PyData → Prop
  | nil : DdAll K H [] []
  | cons {v : V} {vs : List V} {d : PyData} {ds : List PyData} : Dd K H v d → DdAll K H vs ds → DdAll K H (v :: vs) (d :: ds)
end
/-! no list in it -/
mutual
def noL : PyData → Bool
  | .none | .bool _ | .int _ | .str _ => true
  | .list _ => false
  | .tuple xs => noLs xs
  | .dict kvs => noLk kvs
def noLs : List PyData → Bool
  | [] => true
  | x :: xs => noL x && noLs xs
def noLk : List (PyData × PyData) → Bool
  | [] => true
  | (_, v) :: r => noL v && noLk r
end
theorem noLk_zip : ∀ (ks ds : List PyData), ks.length = ds.length → noLk (ks.zip ds) = noLs ds
  | [], [], _ => rfl
  | k :: ks, d :: ds, h => by
    show (noL d && noLk (ks.zip ds)) = (noL d && noLs ds)
    rw [noLk_zip ks ds (Nat.succ.inj h)]
  | [], _ :: _, h => by cases h
  | _ :: _, [], h => by cases h
theorem DdAll.len {K : PySem.W.Frag} {H : Hp} : ∀ {vs : List V} {ds : List PyData}, DdAll K H vs ds → vs.length = ds.length
  | _, _, .nil => rfl
  | _, _, .cons _ t => congrArg (· + 1) t.len

theorem reads_keys {P : Program} {w : World} {h : Heap} : ∀ (es : List DictEntry) (kvs : List (Key × Value)), Pairs (mixKind P w) es kvs →
    ReadsAll h (es.map (·.key)) (kvs.map fun p => kd p.1) [] ∧ es.map (·.val) = kvs.map (·.2)
  | _, _, .nil => ⟨.nil, rfl⟩
  | e :: es, kv :: kvs, .cons hk hv t => by
    obtain ⟨r, q⟩ := reads_keys es kvs t
    refine ⟨?_, by rw [List.map_cons, List.map_cons, hv, q]⟩
    have r1 : Reads h e.key (kd kv.1) [] := by
      rcases keyIs_shape (show keyIs kv.1 e.key = true from hk) with ⟨i, t, e1, e2⟩ | ⟨x, t, e1, e2⟩
      · rw [e1, e2]; exact .int i t
      · rw [e1, e2]; exact .str x t
    exact ReadsAll.cons r1 r
theorem kv_keys {κ : Type} : ∀ (kvs : List (κ × V)) (us : List (κ × Value)), KV kvs us → kvs.map (·.1) = us.map (·.1) ∧ Vals (kvs.map (·.2)) (us.map (·.2))
  | _, _, .nil => ⟨rfl, .nil⟩
  | _, _, .cons r t => by
    obtain ⟨q1, q2⟩ := kv_keys _ _ t
    exact ⟨by rw [List.map_cons, List.map_cons, r.1, q1], .cons r.2 q2⟩

section
variable {X : Cx} {pins : List (Addr × Obj)} {σ : St} {H : Hp} {s : Shared}
mutual
theorem Dd.reads (I : Inv X pins σ H s) : ∀ {v : V} {d : PyData}, Dd X.K H v d → ∀ u : Value, RelV v u → ∃ as, Reads s.heap u d as ∧ (noL d = true → sysModules ∉ as)
  | _, _, .non, u, r => by
    obtain rfl : u = Value.none := r
    exact ⟨_, Reads.none, fun _ z => by cases z⟩
  | _, _, .bl b, u, r => by
    obtain rfl : u = Value.bool b := r
    exact ⟨_, Reads.bool b, fun _ z => by cases z⟩
  | _, _, .int i, u, r => by
    obtain ⟨t, rfl⟩ := (show ∃ t, u = Value.int i t from r)
    exact ⟨_, Reads.int i t, fun _ z => by cases z⟩
  | _, _, .str x, u, r => by
    obtain ⟨t, rfl⟩ := (show ∃ t, u = Value.str x t from r)
    exact ⟨_, Reads.str x t, fun _ z => by cases z⟩
  | _, _, .lst (a := a) hs ha, u, r => by
    obtain rfl : u = Value.ref a := r
    obtain ⟨its, rv, ⟨o, n, ho, hc, _, hd⟩, _⟩ := I.list hs
    obtain ⟨as, hr, _⟩ := Dd.readsAll I ha its rv
    exact ⟨_, Reads.list ho hc hd hr, fun z => by cases z⟩
  | _, _, .tup (a := a) hs ha, u, r => by
    obtain rfl : u = Value.ref a := r
    obtain ⟨its, rv, ⟨o, ho, hc, n, hd⟩, _⟩ := I.tuple hs
    obtain ⟨as, hr, hn⟩ := Dd.readsAll I ha its rv
    exact ⟨_, Reads.tuple ho hc hd hr, hn⟩
  | _, _, .dct (a := a) (kvs := pvs) (ds := ds) he ha, u, r => by
    obtain rfl : u = Value.ref a := r
    obtain ⟨_, hne, us, rk, ob, es, ep, ho, hx, hd, _, hp, _⟩ := I.hok _ _ he
    obtain ⟨rk1, rk2⟩ := kv_keys _ _ rk
    obtain ⟨q1, q2⟩ := reads_keys (h := s.heap) es.toList us hp
    have hl : (pvs.map fun p => kd p.1).length = ds.length := by
      rw [List.length_map]
      have := ha.len
      rw [List.length_map] at this
      exact this
    obtain ⟨as, hr, hn⟩ := Dd.readsAll I ha (us.map (·.2)) rk2
    have e1 : us.map (fun p => kd p.1) = pvs.map (fun p => kd p.1) := by
      have := congrArg (List.map kd) rk1
      rw [List.map_map, List.map_map] at this
      exact this.symm
    have f1 : ((pvs.map fun p => kd p.1).zip ds).map (·.1) = pvs.map fun p => kd p.1 := List.map_fst_zip (by rw [hl]; exact Nat.le_refl _)
    have f2 : ((pvs.map fun p => kd p.1).zip ds).map (·.2) = ds := List.map_snd_zip (by rw [hl]; exact Nat.le_refl _)
    refine ⟨_, Reads.dict ho hx.1 hd (as := []) (bs := as) (by rw [f1, ← e1]; exact q1) (by rw [f2, q2]; exact hr), fun z => ?_⟩
    intro hm
    rcases List.mem_cons.mp (show sysModules ∈ a :: ([] ++ as) from hm) with e | hm
    · rw [← e] at hne
      simp at hne
    · exact hn (by rw [← noLk_zip _ _ hl]; exact z) hm
theorem Dd.readsAll (I : Inv X pins σ H s) : ∀ {vs : List V} {ds : List PyData}, DdAll X.K H vs ds → ∀ us : List Value, Vals vs us → ∃ as, ReadsAll s.heap us ds as ∧ (noLs ds = true → sysModules ∉ as)
  | _, _, .nil, us, r => by
    cases r
    exact ⟨_, ReadsAll.nil, fun _ z => by cases z⟩
  | _, _, .cons h1 h2, us, r => by
    cases r with
    | cons r1 r2 =>
      obtain ⟨as, q1, n1⟩ := Dd.reads I h1 _ r1
      obtain ⟨bs, q2, n2⟩ := Dd.readsAll I h2 _ r2
      refine ⟨_, ReadsAll.cons q1 q2, fun z hm => ?_⟩
      obtain ⟨z1, z2⟩ := Bool.and_eq_true_iff.mp z
      rcases List.mem_append.mp hm with m | m
      · exact n1 z1 m
      · exact n2 z2 m
end
end
/-- what repr may be asked of -/
def shOk (d : PyData) : Bool := d.showable && (!d.hasDict || noL d)
/-- repr(x) of data -/
def rRepr (K : PySem.W.Frag) : List V → Hp → VK → Prop := fun xs H Q => ∃ (x : V) (d : PyData),
  xs = [x] ∧ Dd K H x d ∧ shOk d = true ∧ d.depth ≤ 60 ∧ d.shown.length ≤ sizeLine ∧ Q (.str d.shown) H
theorem call_repr {X : Cx} (hg : X.A.guards = some []) (hu : X.A.units + 64 < cLine) : CallR X (.builtin "repr") (rRepr X.K) := by
  intro pins s σ H xs us Q I r h
  obtain ⟨x, d, rfl, hd, hs, hdep, hz, q⟩ := h
  cases r with
  | cons rx rr =>
    cases rr
    rename_i u
    obtain ⟨as, hr, hn⟩ := Dd.reads I hd u rx
    obtain ⟨s1, s2⟩ := Bool.and_eq_true_iff.mp (show (d.showable && (!d.hasDict || noL d)) = true from hs)
    have hsm : d.hasDict = true → sysModules ∉ as := fun z => hn (by rw [z] at s2; simpa using s2)
    have atRef : ∀ {a : Addr}, u = Value.ref a → wpAny (model X.prog X.w) X.A (call (.builtin "repr") [u]) (EP X pins σ Q) X.xe s := fun {a} e => by
      subst e
      exact repr_of_reads' hr s1 hsm hg (by omega) (fun _ _ e => e) (fun h' v tk hk => ⟨.str _, H, I.kept hk, ⟨_, rfl⟩, q⟩) hz
    cases hd with
    | non =>
      obtain rfl : u = Value.none := rx
      exact PySem.P.repr_of_none ⟨.str _, H, I.tok _, ⟨_, rfl⟩, q⟩
    | bl b =>
      obtain rfl : u = Value.bool b := rx
      exact PySem.P.repr_of_bool ⟨.str _, H, I.tok _, ⟨_, rfl⟩, q⟩
    | int i =>
      obtain ⟨t, rfl⟩ := (show ∃ t, u = Value.int i t from rx)
      exact PySem.P.repr_of_int (of_decide_eq_true s1) ⟨.str _, H, I.tok _, ⟨_, rfl⟩, q⟩
    | str x =>
      obtain ⟨t, rfl⟩ := (show ∃ t, u = Value.str x t from rx)
      exact PySem.P.repr_of_str ⟨.str _, H, I.tok _, ⟨_, rfl⟩, q⟩ hz
    | lst _ _ => exact atRef rx
    | tup _ _ => exact atRef rx
    | dct _ _ => exact atRef rx

/-! ### defs that are called where nothing shows itself: the guards are told -/
structure FnG (P : Program) (w : World) (K : PySem.W.Frag) (mg : Str → Option Value) (base : Heap) (CX : CXT) (k : Nat) (f : Addr)
    (fd : FuncData) (ps : List Str) (sp : Sp) : Prop where
  len : ∀ vs H Q E, sp vs H Q E → vs.length = ps.length
  run : ∀ (A : Around) (outer : List Env) (s : Shared) (H : Hp) (args : Args) (us : List Value) (vs : List V) (Q : VK) (E : XK), A.guards = some [] →
    Room k A → Env0 P w K mg base A outer s H → BindsTo s fd args (ps.zip us) → Vals vs us → sp vs H Q E →
      codeAny (model P w) A (.call (.ref f) args) (CR CX outer P w H s Q E) s
section
variable {X : Cx} {CX : CXT} {k : Nat} {f : Addr} {fd : FuncData} {ps : List Str} {sp : Sp} {dvs : List V} {ds : List Value} {E : XK} {x : Str}
  {p pos : Pos} {e : Expr} {es : List Expr} {t : TA}
theorem run_g {pins : List (Addr × Obj)} {σ : St} {H : Hp} {s : Shared} {Q : VK} {us : List Value} {vs : List V}
    (F : FnG X.prog X.w X.K X.mg X.base CX k f fd ps sp) (gd : X.A.guards = some []) (hr : Room k X.A) (hb : Binds X.K fd ps ds) (hd : Vals dvs ds)
    (hx : Passes CX X E) (I : Inv X pins σ H s) (r : Vals vs us) (h : sp (vs ++ dvs) H Q E) :
    wpAny (model X.prog X.w) X.A (call (.ref f) us) (EP X pins σ Q) X.xe s := by
  have r2 := r.append hd
  have hl : (us ++ ds).length = ps.length := r2.length.symm.trans (F.len _ _ _ _ h)
  have hc := F.run X.A X.stack s H ⟨us, []⟩ (us ++ ds) (vs ++ dvs) Q E gd hr I.env0 (hb s us I.kIn hl) r2 h
  refine wpAny_call (codeAny_mono hc fun r s' hq => ?_)
  match r, hq with
  | .error e, hq => exact hx pins σ H s e s' I hq
  | .ok (.ret u), hq => exact I.after hq
  | .ok .next, hq => exact hq.elim
  | .ok .brk, hq => exact hq.elim
  | .ok .cont, hq => exact hq.elim
/-- f(e, ..), f such a def -/
theorem pe_callG (F : FnG X.prog X.w X.K X.mg X.base CX k f fd ps sp) (gd : X.A.guards = some []) (hr : Room k X.A) (hg : Gl X x)
    (hm : X.mg x = some (.ref f)) (hk : PySem.W.keepIn X.K (.ref f) = true) (hb : Binds X.K fd ps ds) (hd : Vals dvs ds) (hx : Passes CX X E)
    (ha : PA X (e :: es) t) (hdb : (x == ("__debug__" : Str)) = false := by decide)
    (he : starEach (e :: es) X.env = (false, eval e X.env) :: starEach es X.env := by rfl)
    (hpl : (backTo pos (starEach es X.env)).any (·.1) = false := by rfl) :
    PE X (.Call (.Name x p) (e :: es) [] pos) (tCall sp dvs E t) := by
  refine ⟨fun pins s σ H Q I h => wpAny_Call_Name_kw (ld_glob I hg hm ?_ hdb)⟩
  have ht := ha.run pos pins s σ H _ I h
  exact PySem.W.callWith_K (h₀ := X.base) I.ok.mod.kin hk
    (thn ht fun us s1 ⟨vs, H1, I1, r, q⟩ => ⟨I1.kIn, run_g F gd hr hb hd hx I1 r q⟩) he hpl
end
section
variable {P : Program} {w : World} {K : PySem.W.Frag} {mg : Str → Option Value} {base : Heap}
/-- a def's promise by its body, the guards told -/
theorem okG {CX : CXT} {x qual : Str} {st : Stmt} {f : Addr} {fd : FuncData} {N ps : List Str} {k : Nat} {sp : Sp} (F : Fun K x qual st f fd)
    (S : FnScope N ps (defScope st)) (len : ∀ vs H Q E, sp vs H Q E → vs.length = ps.length)
    (hbody : ∀ (cdv : Value) (A : Around) (outer : List Env) (s : Shared) (H : Hp) (vs : List V) (Q : VK) (E : XK), A.guards = some [] →
      Room k (A.deeper (envOfC qual (defScope st) s.heap.objs.size f cdv)) → sp vs H Q E →
      ∃ t, PSs (cxOf CX P w K mg base N qual (defScope st) f cdv A outer s H E) (defBody st) t ∧
        t { nx := fun _ H' => Q .non H', rt := Q } (start N vs) H) : FnG P w K mg base CX (k + 1) f fd ps sp := by
  obtain ⟨oc, od, kV, doc, pm, an, cdv, ct, osl, rfl, lk, hcd⟩ := F.ex
  refine ⟨len, fun A outer s H args us vs Q E gd hr e0 hb r hsp => ?_⟩
  have old : ∀ b o, base.get? b = some o → s.heap.get? b = some o := fun b o e => (e0.bs b o e).1
  have KX : K.In s.heap := e0.mod.kin.keeps old
  have par : ∀ y ∈ ps.zip us, (defScope st).names.lookup y.1 = some .local ∨
      ((defScope st).names.lookup y.1 = some .cell ∧ ((cellsFrom (s.heap.objs.size + 1) (defScope st).names []).lookup y.1).isSome = true) := by
    intro y hy
    obtain ⟨n, v⟩ := y
    rcases S.par n (List.of_mem_zip hy).1 with q | q
    · exact .inl q
    · exact .inr ⟨q, PySem.W.cellsFrom_some _ _ _ (.inl q)⟩
  refine codeAny_call_function hr.depth (KX _ _ lk) rfl S.co S.gen rfl (PySem.W.codeRec_of KX hcd) (hb _ _ _ _ ?_)
  refine wpAny_newFunctionEnv_cells S.kind par fun env he s1 ic => ?_
  subst he
  refine ⟨(e0.mod.nolimit.keeps old).keeps ic.toInCall.keep, codeAny_func ?_⟩
  obtain ⟨t, ht, hq⟩ := hbody cdv A outer s H vs Q E gd (hr.deeper _) hsp
  have I := inv_start (CX := CX) (E := E) S hr.hd e0 (len _ _ _ _ hsp) r ic
  refine wpAny_mono (ht.run [] s1 _ H _ I hq) (fun fl s' hs => ?_) fun _ _ z => z
  match fl, hs with
  | .ret u, ⟨v, σ', H', J, rv, q⟩ => exact ⟨v, H', J.os, J.bare, J.base, J.hok, rv, q⟩
  | .next, ⟨σ', H', J, q⟩ => exact ⟨V.non, H', J.os, J.bare, J.base, J.hok, rfl, q⟩
  | .brk, ⟨_, _, _, q⟩ => exact q.elim
  | .cont, ⟨_, _, _, q⟩ => exact q.elim
/-- .. one that lets nothing out -/
theorem okG0 {x qual : Str} {st : Stmt} {f : Addr} {fd : FuncData} {N ps : List Str} {k : Nat} {sp : Sp} (F : Fun K x qual st f fd)
    (S : FnScope N ps (defScope st)) (len : ∀ vs H Q E, sp vs H Q E → vs.length = ps.length)
    (hbody : ∀ (cdv : Value) (A : Around) (outer : List Env) (s : Shared) (H : Hp) (vs : List V) (Q : VK) (E : XK), A.guards = some [] →
      Room k (A.deeper (envOfC qual (defScope st) s.heap.objs.size f cdv)) → sp vs H Q E →
      ∃ t, PSs (cxOf CX0 P w K mg base N qual (defScope st) f cdv A outer s H E).nox (defBody st) t ∧
        t { nx := fun _ H' => Q .non H', rt := Q } (start N vs) H) : FnG P w K mg base CX0 (k + 1) f fd ps sp :=
  okG F S len fun cdv A outer s H vs Q E gd hr hsp => by
    obtain ⟨t, h, q⟩ := hbody cdv A outer s H vs Q E gd hr hsp
    exact ⟨t, h.nox, q⟩
end
end L2.Vx

set_option Elab.async false
set_option linter.all false
set_option maxRecDepth 100000
set_option maxHeartbeats 2000000
namespace L2.Vx
open PySem PySem.Spec PyProof.Rows

/-- the end of a law whose def is told the guards -/
theorem law_callG {P : Program} {w : World} {K : PySem.W.Frag} {mg mb : Str → Option Value} {CX : CXT} {k : Nat} {fa a : Addr} {fd : FuncData} {x : Str} {sp : Sp}
    {s₁ : Shared} {vs : List Value} {ns : List Int}
    (KX : K.In s₁.heap) (hns : s₁.heap.Ns mainGlobals mg) (hb : s₁.heap.Ns builtinsNs mb) (hbb : ∀ x : Str, x ≠ "__name__" → mb x = bootBuiltins x)
    (hlim : s₁.heap.NoLimit) (hg : s₁.gens = #[]) (ha : s₁.heap.get? a = some { cls := .type "list", data := .seq vs.toArray }) (hi : IntsAre vs ns)
    (hl : ns.length ≤ sizeLine) (hr : Room k callerA)
    (F : ∀ base : Heap, K.In base → base.Ns mainGlobals mg → FnG P w K mg base CX k fa fd [x] sp)
    (hbind : ∀ (s : Shared) (u : Value), BindsTo s fd ⟨[u], []⟩ [(x, u)])
    (hsp : ∀ H : Hp, Only H → SqL K H a (ns.map V.int) → sp [.ref a] H (fun v _ => v = .bl true) fun _ _ _ => False)
    (hCX : ∀ H e s', CX [] H s₁ (fun _ _ _ => False) e s' → False) :
    codeAny (model P w) callerA (.call (.ref fa) ⟨[.ref a], []⟩)
      (fun r s' => r = .ok (.ret (.bool true)) ∧ OldK s₁.heap s'.heap ∧ s'.os = s₁.os ∧ AllBare s'.gens) s₁ := by
  have lenV := hi.length
  have rv := vals_ints hi
  -- whatever of the script is tracked
  have any : ∀ H : Hp, Only H → SqL K H a (ns.map V.int) → HOk P w H s₁.heap → (∀ b u, H b = some u → b = a) → (∀ u, H a = some u → K.lookup a = none) →
      codeAny (model P w) callerA (.call (.ref fa) ⟨[.ref a], []⟩)
        (fun r s' => r = .ok (.ret (.bool true)) ∧ OldK s₁.heap s'.heap ∧ s'.os = s₁.os ∧ AllBare s'.gens) s₁ := by
    intro H hO hS hok only free
    have stays : ∀ {b : Addr} {o : Obj}, s₁.heap.get? b = some o → (∀ u, H b = some u → False) → (hidT s₁.heap H).get? b = some o := by
      intro b o e n
      refine hidT_get e ?_
      cases q : H b with
      | none => rfl
      | some u => exact (n u q).elim
    have dictStays : ∀ {b : Addr} {o : Obj} {es : Array DictEntry} {ep : Nat}, s₁.heap.get? b = some o → o.data = .dict es ep → (hidT s₁.heap H).get? b = some o := by
      intro b o es ep e d
      refine stays e fun u q => ?_
      have eb := only b u q
      subst eb
      rw [ha] at e
      cases e
      cases d
    have ns' : ∀ {b : Addr} {m : Str → Option Value}, s₁.heap.Ns b m → (hidT s₁.heap H).Ns b m := by
      intro b m h
      obtain ⟨o, es, ep, e, d, r⟩ := h
      exact ⟨o, es, ep, dictStays e d, d, r⟩
    have KB : K.In (hidT s₁.heap H) := by
      intro b o e
      refine stays (KX b o e) fun u q => ?_
      have eb := only b u q
      subst eb
      rw [free u q] at e
      cases e
    have M : Mod K mg (hidT s₁.heap H) := by
      obtain ⟨mc, h1, h2⟩ := hlim
      exact ⟨KB, ns' hns, ⟨mb, ns' hb, hbb⟩, ⟨mc, ns' h1, h2⟩⟩
    have e0 : Env0 P w K mg (hidT s₁.heap H) callerA [] s₁ H :=
      { frames := rfl, mod := M, bs := fun b o e => of_hidT e, bsz := Nat.le_of_eq (hidT_size _ _), funs := trivial, frf := fun b z => (by cases z), hok := hok, bare := .of_eq hg }
    have run := (F _ KB (ns' hns)).run callerA [] s₁ H ⟨[.ref a], []⟩ [.ref a] [.ref a] _ _ rfl hr e0 (hbind s₁ (.ref a)) (.cons rfl .nil) (hsp H hO hS)
    refine codeAny_mono run fun r s' h => ?_
    match r, h with
    | .error e, h => exact (hCX H e s' h).elim
    | .ok .next, h => exact h.elim
    | .ok .brk, h => exact h.elim
    | .ok .cont, h => exact h.elim
    | .ok (.ret u), ⟨v, H', os, bare, un, hok', r', q⟩ =>
      obtain rfl : v = .bl true := q
      obtain rfl : u = Value.bool true := r'
      refine ⟨rfl, OldK.of_keep fun b o e => ?_, os, bare⟩
      rcases hO b with z | ⟨ob, xs, z⟩
      · exact un.keep b o e z (fun z => by cases z) (fun z => by cases z)
      · obtain ⟨e1, _⟩ := hok b _ z
        obtain ⟨e2, _⟩ := hok' b _ (un.frzs b ob _ z)
        rw [e] at e1
        cases e1
        exact e2
  cases hk : K.lookup a with
  | some o =>
    have e := KX a o hk
    rw [ha] at e
    cases e
    refine any (fun _ => none) (fun _ => .inl rfl) (.inr ⟨_, vs.toArray, _, hk, rfl, rfl, rfl, ?_, by simpa using rv⟩) (fun b u z => by cases z) (fun b u z => by cases z) (fun u z => by cases z)
    rw [List.size_toArray, lenV]
    exact hl
  | none =>
    refine any (fun b => if b = a then some (.frz { cls := .type "list", data := .seq vs.toArray } (.lst (ns.map V.int))) else none) (fun b => ?_)
      (.inl (.inr ⟨{ cls := .type "list", data := .seq vs.toArray }, if_pos rfl⟩)) (fun b u z => ?_) (fun b u z => ?_) (fun _ _ => hk)
    · by_cases q : b = a
      · exact .inr ⟨_, _, if_pos q⟩
      · exact .inl (if_neg q)
    · by_cases q : b = a
      · subst q
        have z := (if_pos rfl).symm.trans z
        cases z
        exact ⟨ha, by rw [List.length_map]; exact hl, vs, _, rv, ha⟩
      · have z := (if_neg q).symm.trans z
        cases z
    · by_cases q : b = a
      · exact q
      · have z := (if_neg q).symm.trans z
        cases z
theorem walk_ofG {l : PySem.W.OpenLaw} {n k : Nat} {q : Program} {loose : List Str} {XP : (Str → Option Value) → Heap → Prop} {YP : World → Heap → Prop} {d : DefRec}
    {K : Params → PySem.W.Frag} {CX : World → CXT} {sp : World → Sp} {x : Str}
    (hn : l.most = some n) (hn2 : n ≤ sizeLine) (hdf : d.params.defaults = []) (hr : Room k callerA) (hY : ∀ (w : World) (h : Heap), YP w h → (K w.params).In h)
    (F : ∀ (w : World) (mg : Str → Option Value) (fa : Addr) (h : Heap), (K w.params).In h → h.Ns mainGlobals mg → mg d.name = some (.ref fa) →
      ∃ fd : FuncData, (∀ (s : Shared) (u : Value), BindsTo s fd ⟨[u], []⟩ [(x, u)]) ∧
        ∀ base : Heap, (K w.params).In base → base.Ns mainGlobals mg → FnG l.prog w (K w.params) mg base (CX w) k fa fd [x] (sp w))
    (hsp : ∀ (w : World) (H : Hp) (a : Addr) (ns : List Int), ns.length ≤ n → Only H → SqL (K w.params) H a (ns.map V.int) →
      sp w [.ref a] H (fun v _ => v = .bl true) fun _ _ _ => False)
    (hCX : ∀ (w : World) (H : Hp) (s : Shared) (e : Value) (s' : Shared), CX w [] H s (fun _ _ _ => False) e s' → False) :
    PySem.W.WalkO q loose XP YP l.row.toRowW d [] (fun f vs => PySem.call f vs) := by
  refine Att.attach_call hn hdf fun w s₀ s₁ mg mb fa o pm cd doc a vs ns G Y ho hd hcd hmg hobj hints hlen hg => ?_
  have KX := hY w _ Y
  obtain ⟨fd, hb, hF⟩ := F w mg fa _ KX G.T.g hmg
  refine law_callG KX G.T.g G.T.b G.T.builtins G.T.nolimit hg hobj hints (Nat.le_trans hlen hn2) hr hF hb (fun H hO hS => ?_) fun H e s' => hCX w H s₁ e s'
  exact hsp w H a ns hlen hO hS
end L2.Vx

set_option Elab.async false
set_option linter.all false
set_option maxRecDepth 100000
set_option maxHeartbeats 2000000
namespace L2.Vx
open PySem PySem.Spec PyProof.Rows
open PySem.W (Frag)

/-! ### the facts of an error class as one Bool -/
/-- the class object itself -/
def ecB (K : Frag) (C : Addr) : Bool := match K.lookup C with
  | some ⟨.type t, _, .cls cd, sl⟩ => decide (t = "type") && (match cd.mro, sl.toList with
    | .ref D :: bm, [_, _, _, _, some (.builtin n), _] => decide (D = C) && (decide (n = "ValueError.__new__") && (!cd.hasDel && (PySem.HandSPX.refsVE bm && cd.hasDict)))
    | _, _ => false)
  | _ => false
theorem ec_ok {K : Frag} {C : Addr} (h : ecB K C = true) : ∃ nm q N bs bm sn sub ab col dd k0 k1 k2 k3 k5,
    K.lookup C = some (excClassObj nm q C N bs bm true sn sub ab col dd k0 k1 k2 k3 k5 "ValueError.__new__") ∧ PySem.HandSPX.refsVE bm = true := by
  unfold ecB at h
  split at h
  · rename_i t dd cd sl ho
    obtain ⟨h0, h⟩ := Bool.and_eq_true_iff.mp h
    split at h
    · rename_i D bm k0 k1 k2 k3 n k5 hm hs
      obtain ⟨h1, h⟩ := Bool.and_eq_true_iff.mp h
      obtain ⟨h2, h⟩ := Bool.and_eq_true_iff.mp h
      obtain ⟨h3, h⟩ := Bool.and_eq_true_iff.mp h
      obtain ⟨h4, h5⟩ := Bool.and_eq_true_iff.mp h
      have e0 := of_decide_eq_true h0
      have e1 := of_decide_eq_true h1
      have e2 := of_decide_eq_true h2
      obtain ⟨nm, bs, mro, ns, qn, hd, sn, sub, ab, col, del⟩ := cd
      dsimp only at hm h3 h4 h5
      have h3' : del = false := by simpa using h3
      subst hm h3' h5 e0 e1 e2
      have hsl : sl = #[k0, k1, k2, k3, some (.builtin "ValueError.__new__"), k5] := by
        rw [← hs]
      subst hsl
      exact ⟨nm, qn, ns, bs, bm, sn, sub, ab, col, dd, k0, k1, k2, k3, k5, ho, h4⟩
    · cases h
  · cases h
def eqV1 (a b : Option (Option Value)) : Bool := decide (a = b)
def errB (K : Frag) (C fI : Addr) : Bool :=
  ecB K C && (eqV1 (PySem.W.findIn K (.ref C) "__setattr__") (some (some (.builtin "object.__setattr__"))) &&
  (eqV1 (PySem.W.findIn K (.ref C) "__getattribute__") (some (some (.builtin "BaseException.__getattribute__"))) &&
  (eqV1 (PySem.W.findIn K (.ref C) "__getattr__") (some none) && (eqV1 (PySem.W.findIn K (.ref C) "value") (some none) &&
  (eqV1 (PySem.W.findIn K (.ref C) "__init__") (some (some (.ref fI))) && (decide (PySem.W.typeIn K (.ref fI) = some (.type "function")) &&
  (PySem.W.keepIn K (.ref C) && (decide (PySem.W.subIn K (.ref C) (.type "BaseException") = some true) &&
  (decide (PySem.W.typeIn K (.ref C) = some (.type "type")) && (PySem.W.hasDictIn K C && ((PySem.W.clsIn K C).isSome &&
  (eqV1 (PySem.W.findIn K (.ref C) "__class__") (some (some (.builtin "object.__class__"))) &&
  (eqV1 (PySem.W.specialIn K (.builtin "object.__class__") "__get__") (some (some (.builtin "getset_descriptor.__get__"))) &&
  (decide (PySem.W.takesIn K (.builtin "object.__class__") = some true) && decide (PySem.W.mroIn K C (.type "object") = some true)))))))))))))))
/-- the own __init__ of all of them -/
def InitF (K : Frag) (fI : Addr) : Prop := ∃ (oc : Value) (od : Option Addr) (kV doc pm : Value) (an : Option Addr) (cdv ct : Value)
  (osl : Array (Option Value)) (p1 p2 q1 q2 q3 q4 : Pos), K.lookup fI = some ⟨oc, od, .func (PySem.W.fnOf "__init__" "DrawError.__init__"
    (PySem.DrX.iA p1 p2) (PySem.DrX.iB q1 q2 q3 q4) PySem.DrX.iS .none kV doc pm an cdv ct), osl⟩ ∧ PySem.W.codeIn K cdv "DrawError.__init__" = true
theorem err_ok {K : Frag} {C fI : Addr} (h : errB K C fI = true) (fn : InitF K fI) : ErrT K C fI := by
  have ba := @Bool.and_eq_true_iff
  obtain ⟨h1, h⟩ := ba.mp h
  obtain ⟨h2, h⟩ := ba.mp h
  obtain ⟨h3, h⟩ := ba.mp h
  obtain ⟨h4, h⟩ := ba.mp h
  obtain ⟨h5, h⟩ := ba.mp h
  obtain ⟨h6, h⟩ := ba.mp h
  obtain ⟨h7, h⟩ := ba.mp h
  obtain ⟨h8, h⟩ := ba.mp h
  obtain ⟨h9, h⟩ := ba.mp h
  obtain ⟨h10, h⟩ := ba.mp h
  obtain ⟨h11, h⟩ := ba.mp h
  obtain ⟨h12, h⟩ := ba.mp h
  obtain ⟨h13, h⟩ := ba.mp h
  obtain ⟨h14, h⟩ := ba.mp h
  obtain ⟨h15, h16⟩ := ba.mp h
  exact { cls := ec_ok h1, sa := of_decide_eq_true h2, ga := of_decide_eq_true h3, gg := of_decide_eq_true h4, noN := of_decide_eq_true h5,
          iC := of_decide_eq_true h6, tC := of_decide_eq_true h7, kC := h8, exC := of_decide_eq_true h9, tyC := of_decide_eq_true h10, hdC := h11,
          cls' := h12, ha := of_decide_eq_true h13, hn := of_decide_eq_true h14, ht := of_decide_eq_true h15, hm := of_decide_eq_true h16, fn := fn }
/-! ### a reading, one step -/
section
variable {t u : TS} {D : Ends} {σ : St} {H : Hp} {te tv : TE} {ta : TA} {g : TG} {Q : VK} {c : TT}
theorem rd_seq (h : t { D with nx := u D } σ H) : tSeq t u D σ H := h
theorem rd_asg (h : te σ H fun x H1 => g x σ H1 D.nx) : tAsg te g D σ H := h
theorem rd_set {i : Nat} (h : te σ H fun x H1 => D.nx (σ.set i (some x)) H1) : tAsg te (gName i) D σ H := h
theorem rd_lst (h : ta σ H fun xs H1 => xs.length ≤ sizeLine ∧ ∀ p, H1 p = none → Q (.ref p) (upd H1 p (.lst xs))) : tLst ta σ H Q := h
theorem rd_tup (h : ta σ H fun xs H1 => xs.length ≤ sizeLine ∧ ∀ p, H1 p = none → Q (.ref p) (upd H1 p (.tup xs))) : tTup ta σ H Q := h
theorem rd_yes {F : Bool → Hp → Prop} {A B : Prop} (e : F true H = if true = true then A else B) (h : A) : tYes σ H F := by
  show F true H
  rw [e, if_pos rfl]
  exact h
theorem rd_drop (h : te σ H fun _ H1 => D.nx σ H1) : tDrop te D σ H := h
theorem rd_ret (h : te σ H D.rt) : tRet te D σ H := h
theorem rd_if (h : c σ H fun b H1 => if b = true then t D σ H1 else u D σ H1) : tIfS c t u D σ H := h
theorem rd_cons {tr : TA} {Q : List V → Hp → Prop} (h : te σ H fun x H1 => tr σ H1 fun xs H2 => Q (x :: xs) H2) : tCons te tr σ H Q := h
theorem rd_op {r : R2} {tb : TE} (h : te σ H fun x H1 => tb σ H1 fun y H2 => r x y H2 Q) : tOp r te tb σ H Q := h
theorem rd_cb {r : List V → Hp → VK → Prop} (h : ta σ H fun vs H1 => r vs H1 Q) : tCB r ta σ H Q := h
theorem rd_bm {K : PySem.W.Frag} {T : String} {r : V → List V → Hp → VK → Prop} (h : te σ H fun x H1 => tyV K T x H1 ∧ ta σ H1 fun xs H2 => r x xs H2 Q) : tBM K T r te ta σ H Q := h
end
/-- a class, a def as a value -/
theorem pe_ref {X : Cx} {x : Str} {a : Addr} {pos : Pos} (hm : X.mg x = some (.ref a)) (hg : Gl X x := by rfl) (hd : (x == ("__debug__" : Str)) = false := by decide) :
    PE X (.Name x pos) (tC (.ref a)) := pe_glob hg hm rfl hd
theorem same_new {H : Hp} {p : Addr} {o : HO} (h : H p = none) : Same H (upd H p o) := fun b u e => by
  rw [upd_ne (ne_of_none e h)]
  exact e
/-- what did not stand before may change -/
theorem _root_.L2.Same.mut {H H' : Hp} {p : Addr} {o : HO} (e : Same H H') (h : H p = none) : Same H (upd H' p o) := fun b u q => by
  rw [upd_ne (ne_of_none q h)]
  exact e _ _ q
end L2.Vx

set_option Elab.async false
set_option linter.all false
set_option maxRecDepth 100000
set_option maxHeartbeats 2000000
namespace L2.Vx
open PySem PySem.Spec PyProof.Rows

section
variable {X : Cx} {pins : List (Addr × Obj)} {σ : St} {H : Hp} {s : Shared}
/-- a pinned exception, new since the entry, is tracked from now on -/
theorem inv_track {a : Addr} {oe : Obj} {vs : Array Value} {cls : Value} {d : Option Addr} (I : Inv X ((a, oe) :: pins) σ H s)
    (new : X.s_0.heap.get? a = none) (hz : Zc cls d oe) (hd : oe.data = .fields vs) (ap : ∀ p ∈ X.pn ++ pins, p.1 ≠ a) :
    Inv X pins σ (upd H a (EX a cls d)) s := by
  obtain ⟨ha, na, nL, nF, ncell⟩ := I.pin (a, oe) (List.mem_append_right _ List.mem_cons_self)
  have off : ∀ {b : Addr} {o : Obj}, X.s_0.heap.get? b = some o → b ≠ a := fun {b o} e z => by
    rw [z, new] at e
    cases e
  have low : ∀ {b : Addr} {u : HO}, H b = some u → upd H a (EX a cls d) b = some u := fun {b u} e => by
    rw [upd_ne (ne_of_none e na)]
    exact e
  have pin' : ∀ p ∈ X.pn ++ pins, p ∈ X.pn ++ (a, oe) :: pins := fun p hp => by
    rcases List.mem_append.mp hp with m | m
    · exact List.mem_append_left _ m
    · exact List.mem_append_right _ (List.mem_cons_of_mem _ m)
  refine ⟨I.ok, I.os, I.bare, ⟨I.base.keep, I.base.slot, fun b o e n hx => ?_, I.base.there, fun b xs q => low (I.base.tups b xs q), fun b o u q => low (I.base.frzs b o u q), fun b ps q => ?_⟩, I.loc, I.cell, ?_, fun x c e => ?_, fun p hp => ?_, I.hok.laidN (fun _ _ e => e) na (ex_ok ha hz hd), I.len⟩
  · rw [upd_ne (off e)]
    exact I.base.free b o e n hx
  · obtain ⟨more, q'⟩ := I.base.tbls b ps q
    exact ⟨more, low q'⟩
  · rw [upd_ne (Ne.symm nL)]
    exact I.free
  · have hc : c ≠ a := fun z => by
      obtain ⟨v, o, e1, e2⟩ := I.cell x c e
      rw [z, show s.heap.get? a = some oe from ha] at e1
      cases e1
      exact ncell _ e2
    rw [upd_ne hc]
    exact I.freeC x c e
  · obtain ⟨e1, e2, e3, e4, e5⟩ := I.pin p (pin' p hp)
    exact ⟨e1, by rw [upd_ne (ap p hp)]; exact e2, e3, e4, e5⟩
end

/-- what 'except x as n: m = n' wishes of an exception of the body: slot i is n's, j is m's -/
def wHold (K : PySem.W.Frag) (c : Value) (i j : Nat) (Wout : WX) (D : Ends) : WX := fun cls d σ H =>
  ∃ b, PySem.W.exmOne K cls c = some b ∧ (b = true → ∀ a, H a = none → D.nx (((σ.set i (some (.ref a))).set j (some (.ref a))).set i none) (upd H a (EX a cls d))) ∧
    (b = false → Wout cls d σ H)
section
variable {X : Cx} {x n m : Str} {c : Value} {i j : Nat} {body : List Stmt} {np pos pos' q1 q2 q3 : Pos} {tb : WX → TS} {Wout : WX}
theorem ps_try_hold (hs : X.stack = X.env :: X.outer) (hf : X.env.frame = some X.env.locals) (hex : X.ex = []) (hN : X.N.Nodup) (hi : X.N[i]? = some n) (hj : X.N[j]? = some m)
    (hln : X.env.kindOf n = some .local) (hlm : X.env.kindOf m = some .local) (hc : Names X x c) (tk : Takes X Wout) (hdn : (n == ("__debug__" : Str)) = false := by decide) (hdc : (n == ("__classdict__" : Str)) = false := by decide)
    (hb : ∀ (W : WX) (pn : List (Addr × Obj)) (xe : Value → Shared → Prop), Takes (X.tr pn xe) W → PassesOwn (model X.prog X.w) X.A X.env xe → PSs (X.tr pn xe) body (tb W))
    (hsw : ∀ (a : Addr) (pn : List (Addr × Obj)), swapsWith (.Name n q2) (some (.Name m q1)) q3.line (X.suite a pn).env = pure false := by intro _ _; rfl) :
    PS X (.Try body [.ExceptHandler (some (.Name x np)) (some n) [.Assign [.Name m q1] (.Name n q2) q3] pos'] [] [] pos) (fun D σ H => tb (wHold X.K c i j Wout D) D σ H) := by
  refine ⟨fun pins s σ H D I h => ?_⟩
  have ok := I.ok
  have hfr : X.A.frames = some (X.env :: X.outer) := ok.frames.trans (congrArg some hs)
  have hloc : Loc X.env.scope n := .inl hln
  have hlom : Loc X.env.scope m := .inl hlm
  refine wpAny_Try_except ?_
  let hs_ : List ExceptHandler := [.ExceptHandler (some (.Name x np)) (some n) [.Assign [.Name m q1] (.Name n q2) q3] pos']
  let xe' : Value → Shared → Prop := fun e s₁ => wpAny (model X.prog X.w) X.A (noteFrame e X.env) (fun _ s₂ => wpAny (model X.prog X.w) X.A (setFlight e none) (fun _ s₃ =>
    wpAny (model X.prog X.w) X.A (handleBy e X.env hs_) (SP X pins D) X.xe s₃) X.xe s₂) X.xe s₁
  have hbody := hb (wHold X.K c i j Wout D) (X.pn ++ pins) xe' (fun u s' xx => ?_) PassesOwn.looking
  · refine wpAny_mono (hbody.run [] s σ H D (I.toTry _) h) (fun f s1 hsp => ?_) (fun e s1 he => he)
    match f, hsp with
    | .next, ⟨σ', H', J', q⟩ => exact wpAny_execs_nil ⟨σ', H', J'.ofTry ok, q⟩
    | .brk, ⟨σ', H', J', q⟩ => exact ⟨σ', H', J'.ofTry ok, q⟩
    | .cont, ⟨σ', H', J', q⟩ => exact ⟨σ', H', J'.ofTry ok, q⟩
    | .ret u, ⟨v, σ', H', J', r, q⟩ => exact ⟨v, σ', H', J'.ofTry ok, r, q⟩
  · -- caught
    obtain ⟨a, B, sI, pins', σ', H', cls, d, rfl, J', nb, up, sky, na, os, ag, b, hb1, hyes, hno⟩ := xx
    have J : Inv X pins σ' H' sI := J'.ofTry ok
    rw [hs] at sky
    show wpAny (model X.prog X.w) X.A (noteFrame (.ref a) X.env) _ _ _
    refine Sky.land Zc.steady hfr hf sky fun h3 fl3 up3 => ?_
    have J3 : Inv X pins σ' H' { s' with heap := h3 } := J.landed nb fl3.1 (up.trans up3) os ag
    obtain ⟨oe3, vs3, he3, hz3, hd3⟩ := fl3.there
    have nfr : a ∉ frs (X.env :: X.outer) := fun hm => by
      obtain ⟨_, o', e', hnf⟩ := fl3.2.2.1.mem hm
      rw [he3] at e'
      cases e'
      exact hnf _ hd3
    have nL : a ≠ X.env.locals := fun z => nfr (List.mem_filterMap.mpr ⟨X.env, List.mem_cons_self, hf.trans (congrArg some z.symm)⟩)
    have nF : a ∉ X.fs := fun hm => by
      obtain ⟨e, he, q⟩ := List.mem_filterMap.mp hm
      exact nfr (List.mem_filterMap.mpr ⟨e, List.mem_cons_of_mem _ he, q⟩)
    -- the exception is new
    have outI : sI.heap.get? a = none := by
      cases q : sI.heap.get? a with
      | none => rfl
      | some o =>
        have z := nb a o q (by rw [hs]; exact nfr)
        rw [fl3.2.1] at z
        cases z
    have new : X.s_0.heap.get? a = none := by
      cases q : X.s_0.heap.get? a with
      | none => rfl
      | some o =>
        obtain ⟨o', z⟩ := J.base.there a o q (by rw [hex]; simp)
        rw [outI] at z
        cases z
    have apart : ∀ p ∈ X.pn ++ pins, p.1 ≠ a := fun p hp z => by
      have q := (J.pin p hp).1
      rw [z, outI] at q
      cases q
    have S3 := J3.suite he3 hd3 na nL nF
    refine wpAny_handleBy_cons (codeAny_handlers_test ?_) (by intro q; cases q)
    have LT : PySem.W.Looks (model X.prog X.w) h3 (typeOf (.ref a)) cls := fun A Q E s k q => wpAny_typeOf_ref (k _ _ he3) (by rw [hz3.1]; exact q)
    have LM := PySem.W.exm_one (M := model X.prog X.w) J3.kIn LT hb1
    have test : ∀ {Q : Value → Shared → Prop} {E : Value → Shared → Prop}, Q c { s' with heap := h3 } →
        wpAny (model X.prog X.w) (X.A.mark (some (.ref a))) (eval (.Name x np) X.env) Q E { s' with heap := h3 } := by
      intro Q E q
      obtain ⟨hg, hdbg, hm | ⟨hm, hv, hnn⟩⟩ := hc
      · exact ld_glob (X := X.suite a ((a, oe3) :: (X.pn ++ pins))) S3 hg hm q hdbg
      · exact ld_blt (X := X.suite a ((a, oe3) :: (X.pn ++ pins))) S3 hg hm hv q hnn hdbg
    refine test (LM.here ?_)
    cases b with
    | true =>
      refine codeAny_handlers_suite_as ?_
      refine HandSPX.lands_againZ fl3 fun h4 fl4 up4 => ?_
      have J4 : Inv X pins σ' H' { s' with heap := h4 } := J.landed nb fl4.1 ((up.trans up3).trans up4) os ag
      obtain ⟨oe4, vs4, he4, hz4, hd4⟩ := fl4.there
      have S4 := J4.suite he4 hd4 na nL nF
      refine store_ok (X := X.suite a ((a, oe4) :: (X.pn ++ pins))) (v := .ref a) S4 hN hi hloc rfl (fun s5 S5 => ?_) (.inr hln)
      have li : i < σ'.length := by
        rw [J.len]
        exact (List.getElem?_eq_some_iff.mp hi).1
      have asg : PSs (X.suite a ((a, oe4) :: (X.pn ++ pins))) [.Assign [.Name m q1] (.Name n q2) q3] (tAsg (tVar i) (gName j)) :=
        pss_one (ps_set hN hj hlom (pe_var hi (.inl hln) hdn hdc) (hsw a _) (.inr hlm))
      refine wpAny_mono (asg.run [] s5 _ H' { nx := fun σ6 H6 => σ6 = (σ'.set i (some (.ref a))).set j (some (.ref a)) ∧ H6 = H', rt := fun _ _ => False } S5 ?_) (fun f s6 hsp => ?_) (fun _ _ z => False.elim z)
      · exact ⟨.ref a, by rw [List.getElem?_set_self li], rfl, rfl⟩
      · match f, hsp with
        | .ret u, ⟨_, _, _, _, _, z⟩ => exact z.elim
        | .brk, ⟨_, _, _, z⟩ => exact z.elim
        | .cont, ⟨_, _, _, z⟩ => exact z.elim
        | .next, ⟨σ6, H6, S6, e6, eH⟩ =>
          subst e6
          subst eH
          have J6 : Inv X ((a, oe4) :: pins) ((σ'.set i (some (.ref a))).set j (some (.ref a))) H6 s6 :=
            ⟨ok, S6.os, S6.bare, S6.base, S6.loc, S6.cell, S6.free, S6.freeC, fun p hp => S6.pin p (by
              rw [List.append_nil]
              rcases List.mem_append.mp hp with q | q
              · exact List.mem_cons_of_mem _ (List.mem_append_left _ q)
              · rcases List.mem_cons.mp q with q | q
                · rw [q]; exact List.mem_cons_self
                · exact List.mem_cons_of_mem _ (List.mem_append_right _ q)), S6.hok, S6.len⟩
          refine gone_ok J6 hN hi hln fun s7 J7 => ⟨_, _, inv_track J7 new hz4 hd4 apart, hyes rfl a na⟩
    | false =>
      show wpAny _ X.A (handleBy (.ref a) X.env []) _ _ _
      refine wpAny_handleBy_nil ?_
      obtain ⟨k1, k2, k3, oe, vs, T, oT, ts', he, hz, hd, h1, hr⟩ := id fl3
      unfold PySem.passOn
      refine wpAny_bind (wpAny_field he hd h1 ?_)
      rw [if_neg (show ¬ ((Value.ref T == Value.none) = true) from by simp)]
      have fin : wpAny (model X.prog X.w) X.A (setFlight (.ref a) X.env.frame) (fun _ s4 => wpAny (model X.prog X.w) X.A (throw (.ref a) : Sem Flow) (SP X pins D) X.xe s4) X.xe { s' with heap := h3 } := by
        rw [hf]
        refine HandSPX.setFlight_upZ fl3 fun h4 hh4 up4 => wpAny_throw (tk _ _ ?_)
        exact ⟨a, B, sI, pins, σ', H', cls, d, rfl, J, nb, (up.trans up3).trans up4, .inr (.inr (by rw [hs]; exact hh4)), na, os, ag, hno rfl⟩
      first
        | exact wpAny_bind (wpAny_pure (wpAny_bind fin))
        | exact wpAny_bind fin
end
end L2.Vx

set_option Elab.async false
set_option linter.all false
set_option maxRecDepth 100000
set_option maxHeartbeats 2000000
namespace L2.Vx
open PySem PySem.Spec PyProof.Rows
open LamX (CodeO Tabs TabS TabB ExtN LamS lamEnv lamCx lam_make2 lam_start2 lamS_by)

section
variable {X : Cx} {pins : List (Addr × Obj)} {σ : St} {H : Hp} {s : Shared}
/-- the call of a lambda that was handed in, what it raises being wished for at the slots as they stand -/
theorem pe_act2 {CXg : CXT} {Eg : XK} {Ng : List Str} {qg : Str} {sg : Scope} {g f c' : Addr} {cdg pm ctv : Value} {params : Arguments} {body : Expr} {scope : Scope} {k i : Nat} {a : Str}
    {pn : List (Addr × Obj)} {xe : Value → Shared → Prop} {W : WX} {E : XK} {tb : TE} {p1 p2 : Pos}
    (I : Inv X pins σ H s) (L : LamS X.env.scope scope)
    (hf : s.heap.get? f = some (PySem.W.kla_obj "<lambda>" (X.env.qual ++ "<lambda>") params body scope (cloFrom X.env.cells scope.names []) pm c' ctv)) (hfn : H f = none) (hfr : f ∉ frs X.stack)
    (hbind : bindArgs (PySem.W.kla_fn "<lambda>" (X.env.qual ++ "<lambda>") params body scope (cloFrom X.env.cells scope.names []) pm (.ref c') ctv) ⟨[], []⟩ = pure [])
    (tk : Takes ((cxOf CXg X.prog X.w X.K X.mg X.base Ng qg sg g cdg X.A X.stack s H Eg).tr pn xe) W) (hr : Room (k + 1) (X.A.deeper (envOfC qg sg s.heap.objs.size g cdg)))
    (hbody : ∀ (A : Around) (outer : List Env) (s : Shared) (H : Hp), Room k (A.deeper (lamEnv X scope s.heap.objs.size f c')) → PE (lamCx X A outer s H E scope f c') body tb)
    (hN : Ng[i]? = some a) (hv : Vis sg a) (hd : (a == ("__debug__" : Str)) = false := by decide) (hcd : (a == ("__classdict__" : Str)) = false := by decide) :
    PE ((cxOf CXg X.prog X.w X.K X.mg X.base Ng qg sg g cdg X.A X.stack s H Eg).tr pn xe) (.Call (.Name a p1) [] [] p2)
      (fun σZ HZ Q => (∀ cls d H', E cls d H' → W cls d σZ H') ∧ σZ[i]? = some (some (.ref f)) ∧ HZ c' = some (CodeO c' (X.env.qual ++ "<lambda>")) ∧ tb σ HZ Q) := by
  refine ⟨fun pinsZ sZ σZ HZ Q IZ h => ?_⟩
  obtain ⟨hW, hs, hc, ht⟩ := h
  have rd := (pe_var (pos := p1) (i := i) hN hv hd hcd).run pinsZ sZ σZ HZ (fun v H1 => v = .ref f ∧ H1 = HZ) IZ ⟨.ref f, hs, rfl, rfl⟩
  refine wpAny_Call_Name_kw (thn rd fun u s1 q0 => ?_)
  obtain ⟨v, H1, I1, r1, ev, eH⟩ := q0
  subst ev
  subst eH
  obtain rfl : u = Value.ref f := r1
  have of1 := I1.base.keep f _ hf hfn hfr (fun z => nomatch (show f ∈ ([] : List Addr) from z))
  refine PySem.W.callWith_F0 ⟨_, _, _, _, of1⟩ ?_
  obtain ⟨⟨oc, vs, t, hoc, hdc, hvc⟩, _, _⟩ := I1.hok c' _ hc
  have rc : codeAny (model X.prog X.w) (X.A.deeper (envOfC qg sg s.heap.objs.size g cdg)) (.call (.ref f) ⟨[], []⟩)
      (CR (L2.CX X.prog X.w) (envOfC qg sg s.heap.objs.size g cdg :: X.stack) X.prog X.w H1 s1 Q E) s1 := by
    refine PySem.W.kla_callFunE hr.depth of1 rfl L.co L.gen rfl ⟨c', oc, vs, t, rfl, hoc, hdc, hvc⟩ ?_
    rw [hbind]
    refine wpAny_pure (wpAny_newFunctionEnv (fun y hy => (L.own y hy).2) (fun y hy => absurd hy (by simp)) (fun h₁ hns hsb => ⟨I1.nolimit.fresh _ hsb, ?_⟩) L.kind)
    show codeAny _ _ (.expr body (lamEnv X scope s1.heap.objs.size f c')) _ _
    have kp : ∀ b o, s1.heap.get? b = some o → h₁.get? b = some o := fun b o e => hsb.extBut b o (Nat.ne_of_lt (Heap.lt_size e)) (Heap.get?_push_of_some _ e)
    have J := lam_start2 (E := E) (f := f) (c' := c') (tk := s1.toks + ([] : List (Str × Value)).length) I L I1.env0 hr.hd I1.base hns kp
    refine PySem.W.kla_codeExpr (wpAny_mono ((hbody _ _ s1 H1 (hr.deeper _)).run [] _ _ H1 Q J ht) (fun v s' hq => ?_) fun e s' hq => hq)
    obtain ⟨w', H', J', rv, q⟩ := hq
    exact ⟨w', H', J'.os, J'.bare, J'.base, J'.hok, rv, q⟩
  refine wpAny_call (codeAny_mono rc fun r s' hq => ?_)
  match r, hq with
  | .error e, hq => exact tk e s' (XE.of_call I1 (fun cls d H' z => hW cls d H' z) hq)
  | .ok (.ret u), hq => exact I1.after hq
  | .ok .next, hq => exact hq.elim
  | .ok .brk, hq => exact hq.elim
  | .ok .cont, hq => exact hq.elim
end
/-- the def that calls what it got; TT: what it makes of the lambda's reading -/
def Gives (X : Cx) (Ng : List Str) (x : Str) (sg : Scope) (g : Addr) (cdg : Value) (bg : List Stmt) (a : Str) (q : Str) (TT : (XK → Hp → VK → Prop) → Hp → VK → Prop) : Prop :=
  ∀ (f c' : Addr) (s : Shared) (H : Hp) (Q : VK) (tl : XK → Hp → VK → Prop),
    (∀ (W : WX) (pn : List (Addr × Obj)) (xe : Value → Shared → Prop) (E : XK) (p1 p2 : Pos), Takes ((cxOf CX0 X.prog X.w X.K X.mg X.base Ng x sg g cdg X.A X.stack s H E0).tr pn xe) W →
      PE ((cxOf CX0 X.prog X.w X.K X.mg X.base Ng x sg g cdg X.A X.stack s H E0).tr pn xe) (.Call (.Name a p1) [] [] p2)
        (fun σZ HZ Q => (∀ cls d H', E cls d H' → W cls d σZ H') ∧ σZ[0]? = some (some (.ref f)) ∧ HZ c' = some (CodeO c' q) ∧ tl E HZ Q)) →
    H c' = some (CodeO c' q) → TT tl H Q →
    ∃ t, PSs (cxOf CX0 X.prog X.w X.K X.mg X.base Ng x sg g cdg X.A X.stack s H E0).nox bg t ∧ t { nx := fun _ H' => Q .non H', rt := Q } (start Ng [.ref f]) H
def tLam2 (T : List (Addr × Str)) (TT : (XK → Hp → VK → Prop) → Hp → VK → Prop) (t : XK → TE) : TE := fun σ H Q =>
  Tabs T H ∧ ∀ H1, ExtN H H1 → Tabs T H1 → TT (fun E H' Q' => t E σ H' Q') H1 Q
section
variable {X : Cx}
/-- x(lambda: body) -/
theorem pe_lam2 {T : List (Addr × Str)} {TT : (XK → Hp → VK → Prop) → Hp → VK → Prop} {x a : Str} {g c P : Addr} {k : Nat} {pg : Arguments} {bg : List Stmt} {sg : Scope} {dV kV doc pm cdv ct oc : Value} {an od : Option Addr} {osl : Array (Option Value)} {Ng : List Str}
    {params : Arguments} {body : Expr} {scope : Scope} {t : XK → TE} {p lpos pos : Pos} (hg : Gl X x) (hm : X.mg x = some (.ref g)) (hk : PySem.W.keepIn X.K (.ref g) = true)
    (lk : X.K.lookup g = some ⟨oc, od, .func (PySem.W.fnOf x x pg bg sg dV kV doc pm an cdv ct), osl⟩) (hcg : PySem.W.codeIn X.K cdv x = true)
    (hb : Binds X.K (PySem.W.fnOf x x pg bg sg dV kV doc pm an cdv ct) [a] []) (Sg : FnScope Ng [a] sg) (hNg : Ng[0]? = some a) (hva : Vis sg a)
    (hG : Gives X Ng x sg g cdv bg a (X.env.qual ++ "<lambda>") TT)
    (TB : TabB X.base X.mg c P) (hcode : X.env.code = .ref c) (hmT : (P, X.env.qual ++ "<lambda>") ∈ T) (hu : ∀ p ∈ T, p.1 = P → p.2 = X.env.qual ++ "<lambda>") (hr : Room (k + 2) X.A) (L : LamS X.env.scope scope) (hdef : defaultsOf params X.env = ([], []))
    (hbind : ∀ (q : Str) (cl : List (Str × Addr)) (pm cv ctv : Value), bindArgs (PySem.W.kla_fn "<lambda>" q params body scope cl pm cv ctv) ⟨[], []⟩ = pure [])
    (hbody : ∀ (A : Around) (outer : List Env) (s : Shared) (H : Hp) (E : XK) (f c' : Addr), Room k (A.deeper (lamEnv X scope s.heap.objs.size f c')) → PE (lamCx X A outer s H E scope f c') body (t E))
    (hdb : (x == ("__debug__" : Str)) = false := by decide) (hd : (a == ("__debug__" : Str)) = false := by decide) (hcd : (a == ("__classdict__" : Str)) = false := by decide) :
    PE X (.Call (.Name x p) [.Lambda params body scope lpos] [] pos) (tLam2 T TT t) := by
  refine ⟨fun pins s σ H Q I h => ?_⟩
  obtain ⟨hT, h⟩ := h
  refine wpAny_Call_Name_kw (ld_glob I hg hm ?_ hdb)
  refine PySem.W.callWith_K (h₀ := X.base) I.ok.mod.kin hk ?_ (by rfl) (by rfl)
  show wpAny _ _ (spliced ((false, eval (.Lambda params body scope lpos) X.env) :: backTo pos (starEach [] X.env))) _ _ s
  refine Calls.spliced_cons (lam_make2 I TB hcode hmT hu hT hdef (L.has I.ok) fun f c' pm' ctv H1 s' I1 eN T1 hf hfn hfr hco => ?_)
  refine Calls.spliced_nil ⟨I1.kIn, ?_⟩
  have rc : codeAny (model X.prog X.w) X.A (.call (.ref g) ⟨[.ref f], []⟩) (CR CX0 X.stack X.prog X.w H1 s' Q E0) s' := by
    refine LamX.run_ofS (N := Ng) (ps := [a]) (us := [.ref f]) (vs := [.ref f]) lk hcg Sg hr I1.env0 (hb s' [.ref f] I1.kIn rfl) (.cons rfl .nil) rfl fun hr' => ?_
    have act := fun (W : WX) (pn : List (Addr × Obj)) (xe : Value → Shared → Prop) (E : XK) (p1 p2 : Pos) (tk : Takes ((cxOf CX0 X.prog X.w X.K X.mg X.base Ng x sg g cdv X.A X.stack s' H1 E0).tr pn xe) W) =>
      pe_act2 (p1 := p1) (p2 := p2) (i := 0) I1 L hf hfn hfr (hbind _ _ _ _ _) tk hr' (fun A outer s H hr2 => hbody A outer s H E f c' hr2) hNg hva hd hcd
    obtain ⟨t', ht', hq'⟩ := hG f c' s' H1 Q (fun E H' Q' => t E σ H' Q') act hco (h H1 eN T1)
    exact ⟨t', ht'.nox, hq'⟩
  refine wpAny_call (codeAny_mono rc fun r s2 hq => ?_)
  match r, hq with
  | .error e, hq => exact (show False from hq).elim
  | .ok (.ret u), hq => exact I1.after hq
  | .ok .next, hq => exact hq.elim
  | .ok .brk, hq => exact hq.elim
  | .ok .cont, hq => exact hq.elim

/-- what is wished for may be weakened -/
theorem pe_weak {e : Expr} {t : TE} (h : PE X e t) : PE X e (fun σ H Q => ∃ R : VK, (∀ v H', R v H' → Q v H') ∧ t σ H R) := by
  refine ⟨fun pins s σ H Q I hh => ?_⟩
  obtain ⟨R, hR, ht⟩ := hh
  refine thn (h.run pins s σ H R I ht) fun u s1 hu => ?_
  obtain ⟨v, H1, I1, r1, q1⟩ := hu
  exact ⟨v, H1, I1, r1, hR v H1 q1⟩
/-! ### told: the error, or what came back -/
def toldN : List Str := ["look", "caught", "back", "error"]
def toldB (a1 a2 a3 a4 a5 a6 a7 b1 b2 b3 b4 b5 c1 c2 c3 c4 c5 d1 d2 d3 d4 : Pos) : List Stmt :=
  [.Assign [.Tuple [.Name "caught" a1, .Name "back" a2] 0 a3] (.Tuple [.Constant .none 0 a4, .Constant .none 0 a5] 0 a6) a7,
   .Try [.Assign [.Name "back" b1] (.Call (.Name "look" b2) [] [] b3) b4] [.ExceptHandler (some (.Name "DrawError" c1)) (some "error") [.Assign [.Name "caught" c2] (.Name "error" c3) c4] c5] [] [] b5,
   .Return (some (.Tuple [.Name "caught" d1, .Name "back" d2] 0 d3)) d4]
def toldS : Scope := { kind := .function, names := [("look", .local), ("caught", .local), ("back", .local), ("error", .local), ("DrawError", .globalImplicit)], isGenerator := false, isCoroutine := false, more := [] }
/-- what comes of a lambda's reading -/
def TTold (K : PySem.W.Frag) (CS : Addr) : (XK → Hp → VK → Prop) → Hp → VK → Prop := fun tl H Q =>
  ∀ t, H t = none → tl (fun cls d H' => PySem.W.exmOne K cls (.ref CS) = some true ∧ ∀ a, H' a = none → ∀ p, upd H' a (EX a cls d) p = none →
      Q (.ref p) (upd (upd H' a (EX a cls d)) p (.tup [.ref a, .non]))) (upd H t (.tup [.non, .non]))
    fun v H' => ∀ p, H' p = none → Q (.ref p) (upd H' p (.tup [.non, v]))
theorem told_gives2 {q x : Str} {g CS : Addr} {cdg : Value} {a1 a2 a3 a4 a5 a6 a7 b1 b2 b3 b4 b5 c1 c2 c3 c4 c5 d1 d2 d3 d4 : Pos} (hme : X.mg "DrawError" = some (.ref CS))
    (hw : ∀ n : Nat, swappedStores [.Tuple [.Name "caught" a1, .Name "back" a2] 0 a3] (.Tuple [.Constant .none 0 a4, .Constant .none 0 a5] 0 a6) (envOfC x toldS n g cdg) = pure none) :
    Gives X toldN x toldS g cdg (toldB a1 a2 a3 a4 a5 a6 a7 b1 b2 b3 b4 b5 c1 c2 c3 c4 c5 d1 d2 d3 d4) "look" q (TTold X.K CS) := by
  intro f c' s H Q tl act hc h
  have nd : toldN.Nodup := by decide +kernel
  refine ⟨_, pss_cons (ps_asg (pe_tup (pa_cons pe_non (pa_cons pe_non pa_nil))) (pg_tup rfl (pgs_cons (pg_name (i := 1) nd rfl (Or.inl rfl)) (pgs_cons (pg_name (i := 2) nd rfl (Or.inl rfl)) pgs_nil))) (hw := hw _))
    (pss_cons (ps_try_hold (X := (cxOf CX0 X.prog X.w X.K X.mg X.base toldN x toldS g cdg X.A X.stack s H E0).nox) (c := .ref CS) (x := "DrawError") (n := "error") (m := "caught") (i := 3) (j := 1) (Wout := fun _ _ _ _ => False)
      (tb := fun W D σ H => ∃ (Ech : XK) (R : VK), (∀ v H', R v H' → D.nx (σ.set 2 (some v)) H') ∧ (∀ cls d H', Ech cls d H' → W cls d σ H') ∧ σ[0]? = some (some (.ref f)) ∧ H c' = some (CodeO c' q) ∧ tl Ech H R)
      rfl rfl rfl nd rfl rfl rfl rfl ⟨rfl, by decide, .inl hme⟩ takes0 (hb := fun W pn xe tk _ => ?_))
    (pss_one (ps_ret (pe_tup (pa_cons (pv 1) (pa_cons (pv 2) pa_nil)))))), ?_⟩
  · refine ⟨fun pins s' σ H' D I h' => ?_⟩
    obtain ⟨Ech, R, hR, hW, h1, h2, h3⟩ := h'
    have hp := pe_weak (act W pn xe Ech b2 b3 tk)
    have hq := pss_one (ps_set (pos := b4) (i := 2) (pos' := b1) nd rfl (Or.inl rfl) hp)
    exact hq.run pins s' σ H' D I ⟨R, hR, hW, h1, h2, h3⟩
  · refine ⟨(by exact (by decide : 2 ≤ sizeLine)), fun t ht => ⟨t, _, rfl, SqT.of upd_same, rfl, _, _, rfl, _, _, rfl, rfl, ?_⟩⟩
    refine ⟨fun cls d H' => PySem.W.exmOne X.K cls (.ref CS) = some true ∧ ∀ a, H' a = none → ∀ p, upd H' a (EX a cls d) p = none →
      Q (.ref p) (upd (upd H' a (EX a cls d)) p (.tup [.ref a, .non])), fun v H' => ∀ p, H' p = none → Q (.ref p) (upd H' p (.tup [.non, v])), fun v H' z => ⟨_, rfl, _, rfl, (by exact (by decide : 2 ≤ sizeLine)), fun p hp => z p hp⟩, fun cls d H' z => ?_, rfl, same_new ht _ _ hc, h t ht⟩
    obtain ⟨z1, z2⟩ := z
    exact ⟨true, z1, fun _ a ha => ⟨_, rfl, _, rfl, (by exact (by decide : 2 ≤ sizeLine)), fun p hp => z2 a ha p hp⟩, fun z => by cases z⟩
end
end L2.Vx

set_option Elab.async false
set_option linter.all false
set_option maxRecDepth 100000
set_option maxHeartbeats 2000000
namespace L2.Vx
open PySem PySem.Spec PyProof.Rows
/-! ### for n, x in enumerate(list, start) -/
def IteF (K : PySem.W.Frag) (a : Addr) (k : Int) : It :=
  ⟨fun i H => ∃ (xs : List V) (x : V), SqL K H a xs ∧ xs[i]? = some x, fun i H v H' => ∃ T x, v = .ref T ∧ H T = none ∧ H' = upd H T (.tup [.int (k + (i : Nat)), x]) ∧ ∀ xs, SqL K H a xs → xs[i]? = some x, fun i H => ∃ xs : List V, SqL K H a xs ∧ xs.length = i⟩
theorem list_enum_ne {h : Heap} {e it a : Addr} {n : Int} {old : Value} {items : Array Value} (he : IsEnum h e it n old) (hl : h.IsList a items) : e ≠ a := by
  intro z
  subst z
  obtain ⟨o, ho, hc, _⟩ := hl
  rw [Option.some.inj (ho.symm.trans he)] at hc
  injection hc with h
  exact absurd h (by decide)
theorem list_iter_ne {h : Heap} {it a : Addr} {i : Nat} {items : Array Value} (hit : h.IsListIter it a i) (hl : h.IsList a items) : a ≠ it := by
  intro z
  subst z
  obtain ⟨o, ho, hc, _⟩ := hl
  obtain ⟨o2, ho2, hc2, _⟩ := hit
  rw [Option.some.inj (ho2.symm.trans ho), hc] at hc2
  injection hc2 with h
  exact absurd h (by decide)
theorem turn_enumF {P : Program} {w : World} {K : PySem.W.Frag} {elts : List Expr} {kk : Nat} {tpos : Pos} (a e it : Addr) (k : Int) :
    Turn P w K (.Tuple elts kk tpos) (IteF K a k) [e, it] e (fun i h => (∃ old, IsEnum h e it (k + ((i : Nat) : Int)) old) ∧ h.IsListIter it a i ∧ e ≠ it) where
  mem := by simp
  obj := fun i h st b hb => by
    obtain ⟨⟨old, he⟩, ⟨o, ho, hc, hd⟩, _⟩ := st
    have e' : b = e ∨ b = it := by simpa using hb
    rcases e' with z | z
    · rw [z]; exact ⟨_, he, fun v q => nomatch q⟩
    · rw [z]; exact ⟨o, ho, fun v q => by rw [hd] at q; cases q⟩
  keep := fun i h h' st q => let ⟨⟨old, he⟩, hi, hne⟩ := st; ⟨⟨old, q e (by simp) _ he⟩, hi.at fun o r => q it (by simp) o r, hne⟩
  item := by
    intro X hP hw hK hc i pins s σ H E I hf st hg
    subst hP hw hK
    obtain ⟨⟨old, he⟩, hit, hne⟩ := st
    obtain ⟨xs, x, hq, hx⟩ := hg
    obtain ⟨its, rv, p, hz⟩ := I.list hq
    obtain ⟨u, hu, ru⟩ := rv.get hx
    have hel : e < s.heap.objs.size := Heap.lt_size he
    have hil : it < s.heap.objs.size := by obtain ⟨_, q, _⟩ := hit; exact Heap.lt_size q
    have hea := list_enum_ne he p.isList
    have hai := list_iter_ne hit p.isList
    have hlt : i < its.toArray.size := by
      have hl := rv.length
      have := (List.getElem?_eq_some_iff.mp hx).1
      rw [List.size_toArray]
      omega
    refine PySem.wpAny_pyNext_enum_itemC (Draws.list (A := X.A.in1) (I.ok.hd hc) it a hai its.toArray) he ⟨hit, p.isList⟩ hlt hne (by simp [hne, hea]) fun x1 h' tk hx1 ho st' hT hsz hk => ?_
    have hxu : x1 = u := by
      have h1 : its[i]? = some x1 := by simpa using hx1
      exact Option.some.inj (h1.symm.trans hu)
    subst hxu
    refine ⟨_, rfl, wpAny_letOwnedTupleGo_enum (s := { s with heap := h', toks := tk + 1 }) ho fun h'' he' sb => ?_⟩
    have hT2 : h''.get? s.heap.objs.size = some { cls := .type "tuple", data := .seq #[.int (k + (i : Int)) tk, x1] } := (sb.2 _ (Nat.ne_of_gt hel)).trans hT
    have new : ObjOk X.prog X.w (upd H s.heap.objs.size (.tup [.int (k + (i : Nat)), x])) h'' s.heap.objs.size (.tup [.int (k + (i : Nat)), x]) :=
      ⟨by show 2 ≤ sizeLine; decide, [.int (k + (i : Int)) tk, x1], .cons ⟨_, rfl⟩ (.cons ru .nil), ⟨_, hT2, rfl, _, rfl⟩⟩
    have I1 : Inv X pins σ (upd H s.heap.objs.size (.tup [.int (k + (i : Nat)), x])) { s with heap := h'', toks := tk + 1 } :=
      I.turnedNew (ch := [e, it]) (fun b ob hb q => (sb.2 b (fun z => hb (by simp [z]))).trans (hk b ob (fun z => hb (by simp [z])) (fun z => hb (by simp [z])) q)) hf (Nat.le_refl _) new
    refine ⟨.ref s.heap.objs.size, _, I1, rfl, ⟨_, x, rfl, I.hok.fresh (Nat.le_refl _), rfl, fun ys hy => by rw [I.list_inj hy hq]; exact hx⟩, ⟨⟨x1, ?_⟩, st'.1.at fun o q => (sb.2 it (Ne.symm hne)).trans q, hne⟩, fun b hb => ?_⟩
    · have e1 : k + ((i + 1 : Nat) : Int) = k + (i : Int) + 1 := by omega
      rw [e1]; exact he'
    · have hb' : b < s.heap.objs.size := by
        have e' : b = e ∨ b = it := by simpa using hb
        rcases e' with z | z
        · rw [z]; exact hel
        · rw [z]; exact hil
      rw [upd_ne (Nat.ne_of_lt hb')]
      exact (hf b hb).1
  done := by
    intro X hP hw hK hc i pins s σ H E I hf st hg
    subst hP hw hK
    obtain ⟨⟨old, he⟩, hit, hne⟩ := st
    obtain ⟨xs, hq, hx⟩ := hg
    obtain ⟨its, rv, p, hz⟩ := I.list hq
    obtain ⟨f0, f1, f2, f3, f4, f5⟩ := hf it (by simp)
    have hl := rv.length
    have hn : its.toArray.size = i := by
      rw [List.size_toArray]
      omega
    have hst : s.heap.IsListIter it a its.toArray.size := by rw [hn]; exact hit
    exact wpAny_pyNext_enum_endD (Draws.list (A := X.A.in1) (I.ok.hd hc) it a (list_iter_ne hit p.isList) its.toArray) he ⟨hst, p.isList⟩ fun h' eb => ⟨rfl, I.turned (t' := s.toks) (fun b o hb q => eb b o hb q) f0 f1 f3 f4 f5⟩
  self := fun A i s Q E st h => let ⟨⟨_, he⟩, _⟩ := st; wpAny_pyIter_enum he h
def iEnumF (K : PySem.W.Frag) (ta : TA) : TI := fun σ H R => ta σ H fun vs H1 => ∃ a xs k, vs = [.ref a, .int k] ∧ SqL K H1 a xs ∧ 0 ≤ k ∧ k < 2 ^ 62 ∧ R (IteF K a k) H1
theorem pi_enumF {X : Cx} {e e2 : Expr} {ta : TA} {p pos tpos : Pos} {elts : List Expr} {kk : Nat} (hg : Gl X "enumerate") (hm : X.mg "enumerate" = none) (ha : PA X [e, e2] ta)
    (hs : starEach [e, e2] X.env = (false, eval e X.env) :: starEach [e2] X.env := by rfl) (hpl : (backTo pos (starEach [e2] X.env)).any (·.1) = false := by rfl) :
    PI X (.Tuple elts kk tpos) (.Call (.Name "enumerate" p) [e, e2] [] pos) (iEnumF X.K ta) := by
  refine ⟨fun pins s σ H R I h => ?_⟩
  refine Call_ (ld_blt I hg hm boot_enumerate (PyProof.Rows.callWith_type1 (thn (ha.run pos pins s σ H _ I h) fun us s1 ⟨vs, H1, I1, r1, q1⟩ => ?_) hs hpl))
  obtain ⟨a, xs, k, ex, hq, k0, k1, q⟩ := q1
  subst ex
  cases r1 with
  | cons r rr =>
    cases rr with
    | cons r2 rr =>
    cases rr
    cases r
    obtain ⟨t, rfl⟩ := r2
    obtain ⟨its, rv, p', hz⟩ := I1.list hq
    refine enum_begins (begins_list a its.toArray) p'.isList (by omega) (by omega) fun h' he hit hsz hk => wpAny_pyIter_enum he ?_
    have I2 : Inv X pins σ H1 { s1 with heap := h' } := I1.kept (t' := s1.toks) hk
    refine ⟨s1.heap.objs.size + 1, [s1.heap.objs.size + 1, s1.heap.objs.size], _, _, H1, rfl, I2, turn_enumF a (s1.heap.objs.size + 1) s1.heap.objs.size k, ⟨⟨.none, ?_⟩, ⟨_, hit, rfl, rfl⟩, Nat.succ_ne_self _⟩, fun b hb => ?_, q⟩
    · have e1 : k + ((0 : Nat) : Int) = k := by omega
      rw [e1]
      exact he
    have e' : b = s1.heap.objs.size + 1 ∨ b = s1.heap.objs.size := by simpa using hb
    have hle : s1.heap.objs.size ≤ b := by
      rcases e' with z | z
      · rw [z]; exact Nat.le_add_right _ _
      · rw [z]; exact Nat.le_refl _
    exact I1.fpOk hle (I1.hok.fresh hle)
theorem walk_enumF {K : PySem.W.Frag} {a : Addr} {xs : List V} {k : Int} : Walk (IteF K a k) xs.length (fun H => SqL K H a xs) (YPair (fun i => some (.int (k + (i : Nat)))) (fun i => xs[i]?)) := by
  refine ⟨fun i _ hi q => ⟨xs, xs[i], q, by simp [hi]⟩, fun _ q => ⟨xs, q, rfl⟩, fun i H v H' _ q y => ?_⟩
  obtain ⟨T, x, h1, h2, h3, h4⟩ := y
  exact ⟨T, .int (k + (i : Nat)), x, h1, h2, h3, rfl, h4 xs q⟩
end L2.Vx

set_option Elab.async false
set_option linter.all false
set_option maxRecDepth 100000
set_option maxHeartbeats 2000000
namespace L2.Vx
open PySem PySem.Spec PyProof.Rows
open TL (tl spl pre)
/-! ### a text, cut at one sign -/
def cutAt (s : Nat) : List Nat → List Nat → List (List Nat)
  | acc, [] => [acc]
  | acc, c :: r => if c = s then acc :: cutAt s [] r else cutAt s (acc ++ [c]) r
theorem pre_one (s c : Nat) (r : List Nat) : pre [s] (c :: r) = decide (c = s) := by
  unfold TL.pre
  rw [Bool.eq_iff_iff]
  simp
theorem spl_cut (s : Nat) : ∀ (l acc : List Nat), spl [s] 0 acc l = cutAt s acc l
  | [], acc => by
    unfold TL.spl cutAt
    rfl
  | c :: r, acc => by
    unfold TL.spl cutAt
    rw [pre_one]
    by_cases h : c = s
    · rw [if_pos (decide_eq_true h), if_pos h, ← spl_cut s r []]
      rfl
    · rw [if_neg (by rw [decide_eq_false h]; decide), if_neg h, spl_cut s r]
theorem split_cut (z : Str) {s : Nat} (hs : s < 256) : (Txt.split z ⟨#[s]⟩).map tl = cutAt s [] (tl z) := by
  rw [TL.split_spl z ⟨#[s]⟩ (by simp [tl]) (TL.kind_ok (by simpa using hs))]
  exact spl_cut s _ _
/-- put together again -/
def glue (s : Nat) : List (List Nat) → List Nat
  | [] => []
  | [p] => p
  | p :: q :: r => p ++ s :: glue s (q :: r)
theorem cut_ne (s : Nat) : ∀ (l acc : List Nat), cutAt s acc l ≠ []
  | [], acc => by unfold cutAt; simp
  | c :: r, acc => by
    unfold cutAt
    split
    · simp
    · exact cut_ne s r _
theorem glue_cons {s : Nat} {p : List Nat} {q : List (List Nat)} (h : q ≠ []) : glue s (p :: q) = p ++ s :: glue s q := by
  cases q with
  | nil => exact absurd rfl h
  | cons a b => rfl
theorem glue_cut (s : Nat) : ∀ (l acc : List Nat), glue s (cutAt s acc l) = acc ++ l
  | [], acc => by unfold cutAt glue; simp
  | c :: r, acc => by
    unfold cutAt
    split
    · rename_i h
      rw [glue_cons (cut_ne s r []), glue_cut s r [], h]
      rfl
    · rw [glue_cut s r]
      simp
theorem split_ne (z : Str) {s : Nat} (hs : s < 256) : Txt.split z ⟨#[s]⟩ ≠ [] := fun e => by
  have h := split_cut z hs
  rw [e] at h
  exact cut_ne s _ _ h.symm
theorem split_glue (z : Str) {s : Nat} (hs : s < 256) : glue s ((Txt.split z ⟨#[s]⟩).map tl) = tl z := by
  rw [split_cut z hs, glue_cut]
  rfl
theorem split_inj {x y : Str} {s : Nat} (hs : s < 256) (h : Txt.split x ⟨#[s]⟩ = Txt.split y ⟨#[s]⟩) : x = y :=
  TL.ext_tl (by rw [← split_glue x hs, ← split_glue y hs, h])
theorem glue_len (s : Nat) : ∀ (ps : List (List Nat)), ∀ p ∈ ps, p.length ≤ (glue s ps).length
  | [], _, h => by cases h
  | [q], p, h => by
    rw [List.mem_singleton.mp h]
    exact Nat.le_refl _
  | a :: b :: r, p, h => by
    have ih := glue_len s (b :: r)
    show p.length ≤ (a ++ s :: glue s (b :: r)).length
    rw [List.length_append, List.length_cons]
    rcases List.mem_cons.mp h with rfl | h
    · omega
    · have := ih p h
      omega
theorem glue_count (s : Nat) : ∀ (ps : List (List Nat)), ps.length ≤ (glue s ps).length + 1
  | [] => Nat.zero_le _
  | [q] => by show 1 ≤ _; omega
  | a :: b :: r => by
    have ih := glue_count s (b :: r)
    show (b :: r).length + 1 ≤ (a ++ s :: glue s (b :: r)).length + 1
    simp only [List.length_append, List.length_cons] at ih ⊢
    omega
theorem split_len (z : Str) {s : Nat} (hs : s < 256) : (Txt.split z ⟨#[s]⟩).length ≤ z.length + 1 := by
  have h := glue_count s ((Txt.split z ⟨#[s]⟩).map tl)
  rw [split_glue z hs, List.length_map] at h
  rw [TL.len_tl]
  exact h
theorem split_part {z p : Str} {s : Nat} (hs : s < 256) (h : p ∈ Txt.split z ⟨#[s]⟩) : p.length ≤ z.length := by
  have h1 := glue_len s ((Txt.split z ⟨#[s]⟩).map tl) (tl p) (List.mem_map.mpr ⟨p, h, rfl⟩)
  rw [split_glue z hs] at h1
  rw [TL.len_tl, TL.len_tl]
  exact h1
/-! ### a test's answer, turned about -/
theorem nt {p : Prop} [Decidable p] (h : p) : ¬ (!decide p) = true := by rw [decide_eq_true h]; decide
theorem nf {p : Prop} [Decidable p] (h : ¬ p) : (!decide p) = true := by rw [decide_eq_false h]; rfl
theorem rd_nx {D : Ends} {σ : St} {H : Hp} (h : D.nx σ H) : tNext D σ H := h
theorem inV_str (x : Str) (ys : List Str) : inV (.str x) (ys.map V.str) = decide (x ∈ ys) := by
  unfold inV
  rw [Bool.eq_iff_iff, List.any_eq_true, decide_eq_true_iff]
  constructor
  · rintro ⟨v, hv, e⟩
    obtain ⟨y, hy, rfl⟩ := List.mem_map.mp hv
    have : y = x := by simpa [eqV] using e
    exact this ▸ hy
  · intro h
    exact ⟨.str x, List.mem_map.mpr ⟨x, h, rfl⟩, by simp [eqV]⟩
theorem flat_strs (ys : List Str) : (ys.map V.str).all flatV = true := by
  rw [List.all_eq_true]
  intro v hv
  obtain ⟨y, _, rfl⟩ := List.mem_map.mp hv
  rfl
end L2.Vx

set_option Elab.async false
set_option linter.all false
set_option maxRecDepth 100000
set_option maxHeartbeats 2000000
namespace L2.Vx
open PySem PySem.Spec PyProof.Rows
/-! ### data that are newly made -/
/-- what stands in H' and did not in H -/
def nw (H H' : Hp) : Hp := fun a => match H a with
  | none => H' a
  | some _ => none
theorem nw_at {H H' : Hp} {a : Addr} (h : H a = none) : nw H H' a = H' a := by
  unfold nw
  rw [h]
theorem nw_old {H H' : Hp} {a : Addr} {o : HO} (h : H a = some o) : nw H H' a = none := by
  unfold nw
  rw [h]
theorem nw_up {H H1 H2 : Hp} (s : Same H1 H2) : Same (nw H H1) (nw H H2) := fun b o e => by
  cases h : H b with
  | some u => rw [nw_old h] at e; cases e
  | none =>
    rw [nw_at h] at e ⊢
    exact s _ _ e
theorem nw_in {H H1 H2 : Hp} (s : Same H H1) : Same (nw H1 H2) (nw H H2) := fun b o e => by
  cases h : H1 b with
  | some u => rw [nw_old h] at e; cases e
  | none =>
    rw [nw_at h] at e
    rw [nw_at (s.free h)]
    exact e
theorem nw_le {H H' : Hp} : Same (nw H H') H' := fun b o e => by
  cases h : H b with
  | some u => rw [nw_old h] at e; cases e
  | none =>
    rw [nw_at h] at e
    exact e
theorem _root_.L2.Same.tup {K : PySem.W.Frag} {H H' : Hp} {a : Addr} {xs : List V} (k : Same H H') (h : SqT K H a xs) : SqT K H' a xs := by
  rcases h with (h | ⟨o, h⟩) | h
  · exact .inl (.inl (k _ _ h))
  · exact .inl (.inr ⟨o, k _ _ h⟩)
  · exact .inr h
mutual
theorem Dd_keep {K : PySem.W.Frag} {H H' : Hp} (k : Same H H') : ∀ {x : V} {d : PyData}, Dd K H x d → Dd K H' x d
  | _, _, .non => .non
  | _, _, .bl b => .bl b
  | _, _, .int i => .int i
  | _, _, .str x => .str x
  | _, _, .lst h t => .lst (k.seq h) (ddAll_keep k t)
  | _, _, .tup h t => .tup (k.tup h) (ddAll_keep k t)
  | _, _, .dct h t => .dct (k _ _ h) (ddAll_keep k t)
theorem ddAll_keep {K : PySem.W.Frag} {H H' : Hp} (k : Same H H') : ∀ {xs : List V} {ds : List PyData}, DdAll K H xs ds → DdAll K H' xs ds
  | _, _, .nil => .nil
  | _, _, .cons h t => .cons (Dd_keep k h) (ddAll_keep k t)
end
/-- an expression that makes the data d -/
def GD (K : PySem.W.Frag) (te : TE) (d : PyData) : Prop := ∀ (σ : St) (H : Hp) (Q : VK), (∀ v H', Same H H' → Dd K (nw H H') v d → Q v H') → te σ H Q
def GA (K : PySem.W.Frag) (ta : TA) (ds : List PyData) : Prop := ∀ (σ : St) (H : Hp) (Q : List V → Hp → Prop), (∀ vs H', Same H H' → DdAll K (nw H H') vs ds → Q vs H') → ta σ H Q
section
variable {K : PySem.W.Frag} {te : TE} {ta : TA} {d : PyData} {ds : List PyData}
theorem gd_const {v : V} (h : ∀ H, Dd K H v d) : GD K (tC v) d := fun σ H Q q => q v H (Same.refl H) (h _)
theorem ga_nil : GA K tNil [] := fun σ H Q q => q [] H (Same.refl H) .nil
theorem ga_cons (h : GD K te d) (t : GA K ta ds) : GA K (tCons te ta) (d :: ds) := fun σ H Q q =>
  h σ H _ fun v H1 s1 g1 => t σ H1 _ fun vs H2 s2 g2 => q (v :: vs) H2 (s1.trans s2) (.cons (Dd_keep (nw_up s2) g1) (ddAll_keep (nw_in s1) g2))
theorem ddAll_len {H : Hp} : ∀ {vs : List V} {ds : List PyData}, DdAll K H vs ds → vs.length = ds.length
  | _, _, .nil => rfl
  | _, _, .cons _ t => congrArg Nat.succ (ddAll_len t)
theorem gd_lst (h : GA K ta ds) (hl : ds.length ≤ 1000) : GD K (tLst ta) (.list ds) := fun σ H Q q => h σ H _ fun vs H1 s1 g => by
  refine ⟨Nat.le_trans (by rw [ddAll_len g]; exact hl) (by decide), fun p hp => ?_⟩
  refine q (.ref p) _ (s1.trans (same_new hp)) (.lst (SqL.of (by rw [nw_at (s1.free hp)]; exact upd_same)) (ddAll_keep (nw_up (same_new hp)) g))
theorem gd_tup (h : GA K ta ds) (hl : ds.length ≤ 1000) : GD K (tTup ta) (.tuple ds) := fun σ H Q q => h σ H _ fun vs H1 s1 g => by
  refine ⟨Nat.le_trans (by rw [ddAll_len g]; exact hl) (by decide), fun p hp => ?_⟩
  refine q (.ref p) _ (s1.trans (same_new hp)) (.tup (SqT.of (by rw [nw_at (s1.free hp)]; exact upd_same)) (ddAll_keep (nw_up (same_new hp)) g))
theorem gd_dnew : GD K tDNewK (.dict []) := fun σ H Q q p hp => q (.ref p) _ (same_new hp) (.dct (kvs := []) (by rw [nw_at hp]; exact upd_same) .nil)
/-- no text -/
def NoStr (K : PySem.W.Frag) (H : Hp) (v : V) : Prop := ∃ n : String, TyX K H v (.type n) ∧ kitB n "str" = some false
def isS : PyData → Bool
  | .str _ => true
  | _ => false
theorem tyX_list {H : Hp} {a : Addr} {xs : List V} (h : SqL K H a xs) : TyX K H (.ref a) (.type "list") := by
  rcases h with (h | ⟨o, h⟩) | ⟨o, its, n, h1, h2, _⟩
  · exact .base (.lst h)
  · exact .base (.frz h)
  · exact .kList h1 h2
theorem tyX_tup {H : Hp} {a : Addr} {xs : List V} (h : SqT K H a xs) : TyX K H (.ref a) (.type "tuple") := by
  rcases h with (h | ⟨o, h⟩) | ⟨o, its, n, h1, h2, _⟩
  · exact .base (.tup h)
  · exact .fTuple h
  · exact .kTuple h1 h2
theorem noStr_of {H : Hp} {v : V} {d : PyData} (h : Dd K H v d) (hs : isS d = false) : NoStr K H v := by
  cases h with
  | non => exact ⟨_, .base .non, by decide +kernel⟩
  | bl b => exact ⟨_, .base (.bl b), by decide +kernel⟩
  | int i => exact ⟨_, .base (.int i), by decide +kernel⟩
  | str x => cases hs
  | lst h t => exact ⟨_, tyX_list h, by decide +kernel⟩
  | tup h t => exact ⟨_, tyX_tup h, by decide +kernel⟩
  | dct h t => exact ⟨_, .base (.dK h), by decide +kernel⟩
end
end L2.Vx

set_option Elab.async false
set_option linter.all false
set_option maxRecDepth 100000
set_option maxHeartbeats 2000000
namespace L2.Vx
open PySem PySem.Spec PyProof.Rows
open TL (tl joinL)
/-! ### how long lists of texts are, put together -/
def tot (ys : List Str) : Nat := (ys.map fun y => y.length + 1).sum
theorem tot_nil : tot [] = 0 := rfl
theorem tot_cons (y : Str) (ys : List Str) : tot (y :: ys) = y.length + 1 + tot ys := by
  unfold tot
  rw [List.map_cons, List.sum_cons]
theorem tot_append : ∀ (a b : List Str), tot (a ++ b) = tot a + tot b
  | [], b => by rw [List.nil_append, tot_nil, Nat.zero_add]
  | x :: a, b => by rw [List.cons_append, tot_cons, tot_cons, tot_append a b]; omega
theorem tot_take (ys : List Str) (n : Nat) : tot (ys.take n) ≤ tot ys := by
  have := tot_append (ys.take n) (ys.drop n)
  rw [List.take_append_drop] at this
  omega
theorem tot_drop (ys : List Str) (n : Nat) : tot (ys.drop n) ≤ tot ys := by
  have := tot_append (ys.take n) (ys.drop n)
  rw [List.take_append_drop] at this
  omega
theorem tot_cut (ys : List Str) (n : Nat) : tot (ys.take n) + tot (ys.drop n) = tot ys := by
  have := tot_append (ys.take n) (ys.drop n)
  rw [List.take_append_drop] at this
  omega
theorem tot_mem : ∀ {ys : List Str} {y : Str}, y ∈ ys → y.length + 1 ≤ tot ys
  | x :: ys, y, h => by
    rw [tot_cons]
    rcases List.mem_cons.mp h with rfl | h
    · omega
    · have := tot_mem h
      omega
theorem tot_erase : ∀ (ys : List Str) (n : Nat), tot (ys.eraseIdx n) ≤ tot ys
  | [], _ => by simp
  | y :: ys, 0 => by rw [List.eraseIdx_cons_zero, tot_cons]; omega
  | y :: ys, n + 1 => by
    rw [List.eraseIdx_cons_succ, tot_cons, tot_cons]
    have := tot_erase ys n
    omega
theorem tot_erase_at : ∀ (ys : List Str) (n : Nat) (y : Str), ys[n]? = some y → tot (ys.eraseIdx n) + (y.length + 1) = tot ys
  | [], _, _, h => by simp at h
  | x :: ys, 0, y, h => by
    simp at h
    subst h
    rw [List.eraseIdx_cons_zero, tot_cons]; omega
  | x :: ys, n + 1, y, h => by
    rw [List.eraseIdx_cons_succ, tot_cons, tot_cons]
    have := tot_erase_at ys n y (by simpa using h)
    omega
theorem tot_set : ∀ (ys : List Str) (n : Nat) (v : Str), tot (ys.set n v) ≤ tot ys + v.length
  | [], _, _ => by simp [tot_nil]
  | y :: ys, 0, v => by rw [List.set_cons_zero, tot_cons, tot_cons]; omega
  | y :: ys, n + 1, v => by
    rw [List.set_cons_succ, tot_cons, tot_cons]
    have := tot_set ys n v
    omega
theorem tot_len (ys : List Str) : ys.length ≤ tot ys := by
  induction ys with
  | nil => simp
  | cons y ys ih =>
    rw [List.length_cons, tot_cons]
    omega
theorem tot_sum (ys : List Str) {a : Str} (ha : a.length = 1) : (ys.map (·.length)).sum + ys.length * a.length = tot ys := by
  rw [ha, Nat.mul_one]
  induction ys with
  | nil => rfl
  | cons y ys ih =>
    rw [List.map_cons, List.sum_cons, List.length_cons, tot_cons, ← ih]
    omega
theorem joinL_len (s : List Nat) (hs : s.length = 1) : ∀ ys : List Str, (joinL s (ys.map tl)).length ≤ tot ys
  | [] => by simp [joinL]
  | [y] => by
    show (tl y).length ≤ tot [y]
    rw [tot_cons, ← TL.len_tl]
    omega
  | x :: y :: r => by
    show (tl x ++ (s ++ joinL s ((y :: r).map tl))).length ≤ _
    have ih := joinL_len s hs (y :: r)
    rw [List.length_append, List.length_append, hs, tot_cons, ← TL.len_tl]
    omega
theorem join_tot {a : Str} (ha : a.length = 1) (ys : List Str) : (Txt.join a ys).length ≤ tot ys := by
  rw [TL.join_eq, TL.len_tl, TL.tl_join]
  exact joinL_len _ (by rw [← TL.len_tl]; exact ha) ys
theorem glue_tot (s : Nat) : ∀ (ys : List Str), ys ≠ [] → tot ys = (glue s (ys.map tl)).length + 1
  | [], h => absurd rfl h
  | [y], _ => by
    show tot [y] = (tl y).length + 1
    rw [tot_cons, tot_nil, ← TL.len_tl]
  | x :: y :: r, _ => by
    show tot (x :: y :: r) = (tl x ++ s :: glue s ((y :: r).map tl)).length + 1
    rw [tot_cons, glue_tot s (y :: r) (by simp), List.length_append, List.length_cons, ← TL.len_tl]
    omega
theorem split_tot (z : Str) {s : Nat} (hs : s < 256) : tot (Txt.split z ⟨#[s]⟩) = z.length + 1 := by
  rw [glue_tot s _ (split_ne z hs), split_glue z hs, ← TL.len_tl]
theorem nl1 : ("\n" : Str).length = 1 := by decide +kernel
theorem sp1 : (" " : Str).length = 1 := by decide +kernel
end L2.Vx

set_option Elab.async false
set_option linter.all false
set_option maxRecDepth 100000
set_option maxHeartbeats 2000000
namespace L2.Vx
open PySem PySem.Spec PyProof.Rows
open SlX (run_at cmpback)
/-! ### operators by an own def of the class: in, not in, len, o[i], == -/
section
variable {X : Cx} {CX : CXT} {C g : Addr} {n : Nat} {sp : Sp} {E : XK}
theorem ins_at {pins : List (Addr × Obj)} {σ : St} {H : Hp} {s : Shared} {a dx : Addr} {fs : List (Str × V)} (I : Inv X pins σ H s) (e : H a = some (.ins C dx fs)) : ∃ od, PySem.W.InstAt s.heap a (PySem.W.instObj C dx) C (some od) := by
  obtain ⟨mA, O, _⟩ := ins_get I.hok e
  obtain ⟨od, J, _⟩ := O.look
  exact ⟨od, J⟩
/-- x in o, o.__contains__ at g gives a bool -/
def rInOwn (C : Addr) (sp : Sp) (E : XK) : R2 := fun x y H Q => ∃ a dx fs, y = .ref a ∧ H a = some (.ins C dx fs) ∧ sp [.ref a, x] H (fun r H' => ∃ b, r = .bl b ∧ Q (.bl b) H') E
theorem op_inOwn (hs : PySem.W.findIn X.K (.ref C) "__contains__" = some (some (.ref g))) (hf : PySem.W.isFn X.K (.ref g) = true) (F : FnR X.prog X.w X.K X.mg X.base CX n g sp) (hr : Room n X.A) (hx : Passes CX X E) :
    OpR X (compareOp .In) (rInOwn C sp E) := by
  intro pins s σ H x y v u Q I rx ry h
  obtain ⟨a, dx, fs, rfl, ha, q⟩ := h
  cases (show u = Value.ref a from ry)
  obtain ⟨od, J⟩ := ins_at I ha
  obtain ⟨m, hF⟩ := I.fr
  refine PySem.W.in_K hF I.ok.mod.kin J hs hf (wpAny_mono (wpAny_call (run_fnR (us := [.ref a, v]) (vs := [.ref a, x]) F hr hx I (.cons rfl (.cons rx .nil)) q)) (fun w s' z => ?_) fun _ _ e => e)
  obtain ⟨z', H', I', rz, b, eb, qz⟩ := z
  subst eb
  cases (show w = Value.bool b from rz)
  exact wpAny_truthy_bool ⟨.bl b, H', I', rfl, qz⟩
/-- len(o), o.__len__ at g gives an int -/
def rLenOwn (C : Addr) (sp : Sp) (E : XK) : List V → Hp → VK → Prop := fun xs H Q => ∃ a dx fs, xs = [V.ref a] ∧ H a = some (.ins C dx fs) ∧ sp [.ref a] H (fun z H' => ∃ i : Int, z = .int i ∧ 0 ≤ i ∧ i < 2 ^ 63 ∧ Q (.int i) H') E
theorem call_lenOwn (hs : PySem.W.findIn X.K (.ref C) "__len__" = some (some (.ref g))) (hf : PySem.W.isFn X.K (.ref g) = true) (F : FnR X.prog X.w X.K X.mg X.base CX n g sp) (hr : Room (n + 1) X.A) (hx : Passes CX X E) :
    CallR X (.builtin "len") (rLenOwn C sp E) := by
  intro pins s σ H xs us Q I r h
  obtain ⟨a, dx, fs, rfl, ha, q⟩ := h
  obtain ⟨u, rfl, ru⟩ := r.one
  cases (show u = Value.ref a from ru)
  obtain ⟨od, J⟩ := ins_at I ha
  obtain ⟨m, hF⟩ := I.fr
  refine PySem.W.len_K hF I.ok.mod.kin J hs hf (wpAny_mono (wpAny_call (run_at (us := [.ref a]) (ws := [.ref a]) F (Room.in1 hr) I.env0.in1 hx I (.cons rfl .nil) q)) (fun w s' z => ?_) fun _ _ x => x)
  obtain ⟨z', H', I', rz, i, ei, i0, i1, qz⟩ := z
  subst ei
  obtain ⟨t, e⟩ := (show ∃ t, w = Value.int i t from rz)
  subst e
  exact ⟨⟨i0, i1⟩, .int i, H', I'.tok _, ⟨_, rfl⟩, qz⟩
/-- o[i], o.__getitem__ at g (which may raise: E) -/
def tItemOwn (C : Addr) (sp : Sp) (E : XK) (ta tb : TE) : TE := fun σ H Q => ta σ H fun x H1 => tb σ H1 fun y H2 => ∃ a dx fs, x = .ref a ∧ H2 a = some (.ins C dx fs) ∧ sp [.ref a, y] H2 Q E
theorem pe_itemOwn {a b : Expr} {ta tb : TE} {pos : Pos} (hs : PySem.W.findIn X.K (.ref C) "__getitem__" = some (some (.ref g))) (hfn : PySem.W.fnIn X.K g = true) (hf : PySem.W.isFn X.K (.ref g) = true) (F : FnR X.prog X.w X.K X.mg X.base CX n g sp)
    (hr : Room (n + 1) X.A) (hx : Passes CX X E) (ha : PE X a ta) (hb : PE X b tb)
    (hsl : ∀ v u, subscripted b true v u = runValue (.builtin "lifetime.subscript" ⟨[v, u], []⟩) := by intro _ _; with_unfolding_all rfl) : PE X (.Subscript a b pos) (tItemOwn C sp E ta tb) := by
  refine ⟨fun pins s σ H Q I h => ?_⟩
  refine Subscript_ (binT ha hb I h fun v u s2 x y H2 I2 rx ry q => ?_)
  obtain ⟨a0, dx, fs, rfl, hins, q⟩ := q
  cases (show v = Value.ref a0 from rx)
  obtain ⟨od, J⟩ := ins_at I2 hins
  obtain ⟨m, hF⟩ := I2.fr
  exact PySem.W.sub_K hF I2.ok.mod.kin J hs hfn hf (wpAny_mono (wpAny_call (run_at (us := [.ref a0, u]) (ws := [.ref a0, y]) F (Room.in1 hr) I2.env0.in1 hx I2 (.cons rfl (.cons ry .nil)) q)) (fun w s' z => z) fun _ _ x => x) (hsl _ _)
/-- what stands right of ==: None, a text, an instance of an own class -/
def RightOf (K : PySem.W.Frag) (C : Addr) (H : Hp) (y : V) : Prop := (y = .non ∧ PySem.W.notFirst K C (.type "NoneType") = true) ∨ ((∃ z, y = .str z) ∧ PySem.W.notFirst K C (.type "str") = true) ∨
  ∃ b C' dy gs, y = .ref b ∧ H b = some (.ins C' dy gs) ∧ PySem.W.notFirst K C (.ref C') = true
def rEqOwn (K : PySem.W.Frag) (C : Addr) (sp : Sp) (E : XK) : R2 := fun x y H Q => ∃ a dx fs, x = .ref a ∧ H a = some (.ins C dx fs) ∧ RightOf K C H y ∧ sp [x, y] H Q E
theorem op_eqOwn (hs : PySem.W.findIn X.K (.ref C) (cmpInfo .Eq).2.1 = some (some (.ref g))) (hf : PySem.W.isFn X.K (.ref g) = true) (F : FnR X.prog X.w X.K X.mg X.base CX n g sp)
    (hr : Room n X.A) (hx : Passes CX X E) : OpR X (compareOp .Eq) (rEqOwn X.K C sp E) := by
  intro pins s σ H x y v u Q I rx ry h
  obtain ⟨a, dx, fs, rfl, ha, hy, q⟩ := h
  cases (show v = Value.ref a from rx)
  obtain ⟨od, J⟩ := ins_at I ha
  obtain ⟨m, hF⟩ := I.fr
  have tb : ∃ t, PySem.W.Looks (model X.prog X.w) s.heap (typeOf u) t ∧ PySem.W.notFirst X.K C t = true := by
    rcases hy with ⟨rfl, h⟩ | ⟨⟨z, rfl⟩, h⟩ | ⟨b, C', dy, gs, rfl, hb, h⟩
    · cases (show u = Value.none from ry)
      exact ⟨_, PySem.W.Looks.of_pure rfl, h⟩
    · obtain ⟨t, rfl⟩ := ry
      exact ⟨_, PySem.W.Looks.of_pure rfl, h⟩
    · cases (show u = Value.ref b from ry)
      obtain ⟨od', J'⟩ := ins_at I hb
      exact ⟨_, J'.type, h⟩
  obtain ⟨t, ht, hn⟩ := tb
  show wpAny _ _ (richCompare .Eq (.ref a) u) _ _ _
  refine PySem.W.cmp_K (op := .Eq) (tb := t) hr.units0 hF I.ok.mod.kin J ht hn hs hf ?_
  refine wpAny_mono (wpAny_call (run_fnR (us := [.ref a, u]) (vs := [.ref a, y]) F hr hx I (.cons rfl (.cons ry .nil)) q)) (fun w s' z => ?_) fun _ _ x => x
  obtain ⟨z', H', I', rz, qz⟩ := z
  exact cmpback rz ⟨z', H', I', rz, qz⟩
end
end L2.Vx

set_option Elab.async false
set_option linter.all false
set_option maxRecDepth 100000
set_option maxHeartbeats 2000000
namespace L2.Vx
open PySem PySem.Spec PyProof.Rows PySem.SeqAt
open AutoSeq1 (wpAny_loadPart')
open MeetsSeq
/-! ### a dict == a text: False -/
theorem dict_declines_str (l : Addr) (es : Array DictEntry) (ep : Nat) (dd : Option Addr) (sl : Array (Option Value)) (b : Str) (u : Tok) :
    Meets (Builtin.«dict.__eq__» ⟨[.ref l, .str b u], []⟩) (fun _ R s => s.heap.get? l = some { cls := .type "dict", dict := dd, data := .dict es ep, slots := sl } ∧ R (.ok (.ret .notImplemented)) s) :=
  .of_wp fun prog w A R s h => by
    obtain ⟨hp, g, d, tk, os⟩ := s
    obtain ⟨hl, h⟩ := h
    have f1 := F.sub_str_dict
    wp_walk using wpAny_loadPart' hl, wpAny_load hl
    exact ⟨_, rfl, h⟩
theorem str_declines_dict (b : Str) (u : Tok) (l : Addr) (es : Array DictEntry) (ep : Nat) (dd : Option Addr) (sl : Array (Option Value)) :
    Meets (Builtin.«str.__eq__» ⟨[.str b u, .ref l], []⟩) (fun _ R s => s.heap.get? l = some { cls := .type "dict", dict := dd, data := .dict es ep, slots := sl } ∧ R (.ok (.ret .notImplemented)) s) :=
  .of_wp fun prog w A R s h => by
    obtain ⟨hp, g, d, tk, os⟩ := s
    obtain ⟨hl, h⟩ := h
    wp_walk using wpAny_loadPart' hl, wpAny_load hl
    exact ⟨_, rfl, h⟩
def rEqDictStr : R2 := fun x y H Q => ∃ a kvs z, x = .ref a ∧ y = .str z ∧ H a = some (.dK kvs) ∧ Q (.bl false) H
theorem op_eqDictStr {X : Cx} (hu : X.A.units < cLine) : OpR X (compareOp .Eq) rEqDictStr := by
  intro pins s σ H x y v u Q I rx ry h
  obtain ⟨a, kvs, z, rfl, rfl, ha, q⟩ := h
  cases (show v = Value.ref a from rx)
  obtain ⟨t, rfl⟩ := ry
  obtain ⟨_, _, vs, _, p⟩ := (show ObjOk X.prog X.w H s.heap a (.dK kvs) from I.hok a _ ha)
  obtain ⟨⟨cls, dd, data, sl⟩, es, ep, ho, hx, hd, _⟩ := p
  have hc : cls = .type "dict" := hx.1
  have hd2 : data = .dict es ep := hd
  subst hc hd2
  show wpAny _ _ (richCompare .Eq (.ref a) (.str z t)) _ _ _
  exact rc_eq_decline_or (k := false) ⟨_, ho, rfl⟩ (typeIs_str s z t) (by decide) F.sub_str_dict F.slot_dict_eq F.slot_str_eq_refl
    (fun _ hq => call_meets F.slot_dict_eq ⟨_, ho, rfl⟩ F.entry_dict_eq (F.args_dict_eq_2 _ _) (dict_declines_str a es ep dd sl z t) ⟨ho, hq⟩)
    (fun _ hq => call_meets F.slot_str_eq_refl (typeIs_str s z t) F.entry_str_eq (F.args_str_eq_2 _ _) (str_declines_dict z t a es ep dd sl) ⟨ho, hq⟩)
    (fun _ hq => wpAny_of_eq (rfl : isSame (.ref a) (.str z t) = pure false) hq) (.inr hu) ⟨.bl false, H, I, rfl, q⟩
end L2.Vx

set_option Elab.async false
set_option linter.all false
set_option maxRecDepth 100000
set_option maxHeartbeats 2000000
namespace L2.Vx
open PySem PySem.Spec PyProof.Rows
open LamX (TabB)
/-- the end of a law whose def is told the guards, with one table of code objects, at PT, of the code object c -/
theorem law_callTG {P : Program} {w : World} {K : PySem.W.Frag} {mg mb : Str → Option Value} {CX : CXT} {k : Nat} {fa a c PT : Addr} {fd : FuncData} {x : Str} {sp : Sp}
    {s₁ : Shared} {vs : List Value} {ns : List Int}
    (KX : K.In s₁.heap) (hns : s₁.heap.Ns mainGlobals mg) (hb : s₁.heap.Ns builtinsNs mb) (hbb : ∀ x : Str, x ≠ "__name__" → mb x = bootBuiltins x)
    (hlim : s₁.heap.NoLimit) (hg : s₁.gens = #[]) (hT : s₁.heap.get? PT = some { cls := .none, data := .fields #[] }) (nT : K.lookup PT = none) (CH : PySem.W.CodeHd s₁.heap c PT)
    (hbm : ∃ (bm : Addr) (ob : Obj), mg "__builtins__" = some (.ref bm) ∧ bm ≠ builtinsNs ∧ s₁.heap.get? bm = some ob ∧ ob.cls = .type "module" ∧ ob.dict = some builtinsNs ∧ ob.data = .plain)
    (ha : s₁.heap.get? a = some { cls := .type "list", data := .seq vs.toArray }) (hi : IntsAre vs ns)
    (hl : ns.length ≤ sizeLine) (hr : Room k callerA)
    (F : ∀ base : Heap, K.In base → base.Ns mainGlobals mg → TabB base mg c PT → FnG P w K mg base CX k fa fd [x] sp)
    (hbind : ∀ (s : Shared) (u : Value), BindsTo s fd ⟨[u], []⟩ [(x, u)])
    (hsp : ∀ H : Hp, H PT = some (.tbl #[]) → SqL K H a (ns.map V.int) → sp [.ref a] H (fun v _ => v = .bl true) fun _ _ _ => False)
    (hCX : ∀ H e s', CX [] H s₁ (fun _ _ _ => False) e s' → False) :
    codeAny (model P w) callerA (.call (.ref fa) ⟨[.ref a], []⟩)
      (fun r s' => r = .ok (.ret (.bool true)) ∧ OldK s₁.heap s'.heap ∧ s'.os = s₁.os ∧ AllBare s'.gens) s₁ := by
  have lenV := hi.length
  have rv := vals_ints hi
  have aPT : a ≠ PT := fun z => by
    rw [z, hT] at ha
    cases ha
  have any : ∀ H : Hp, H PT = some (.tbl #[]) → SqL K H a (ns.map V.int) → HOk P w H s₁.heap → (∀ b u, H b = some u → b = PT ∨ (b = a ∧ ∃ o xs, u = .frz o (.lst xs))) → (∀ u, H a = some u → K.lookup a = none) →
      codeAny (model P w) callerA (.call (.ref fa) ⟨[.ref a], []⟩)
        (fun r s' => r = .ok (.ret (.bool true)) ∧ OldK s₁.heap s'.heap ∧ s'.os = s₁.os ∧ AllBare s'.gens) s₁ := by
    intro H hP hS hok only free
    have stays : ∀ {b : Addr} {o : Obj}, s₁.heap.get? b = some o → (∀ u, H b = some u → False) → (hidT s₁.heap H).get? b = some o := by
      intro b o e n
      refine hidT_get e ?_
      cases q : H b with
      | none => rfl
      | some u => exact (n u q).elim
    have other : ∀ {b : Addr} {o : Obj}, s₁.heap.get? b = some o → (∀ vs n, o.data ≠ .seq vs n) → o.data ≠ .fields #[] → (hidT s₁.heap H).get? b = some o := by
      intro b o e n1 n2
      refine stays e fun u q => ?_
      rcases only b u q with eb | ⟨eb, _⟩
      · rw [eb, hT] at e
        cases e
        exact n2 rfl
      · rw [eb, ha] at e
        cases e
        exact n1 _ _ rfl
    have ns' : ∀ {b : Addr} {m : Str → Option Value}, s₁.heap.Ns b m → (hidT s₁.heap H).Ns b m := by
      intro b m h
      obtain ⟨o, es, ep, e, d, r⟩ := h
      exact ⟨o, es, ep, other e (fun _ _ z => by rw [d] at z; cases z) (fun z => by rw [d] at z; cases z), d, r⟩
    have KB : K.In (hidT s₁.heap H) := by
      intro b o e
      refine stays (KX b o e) fun u q => ?_
      rcases only b u q with eb | ⟨eb, _⟩
      · rw [eb, nT] at e
        cases e
      · rw [eb] at q e
        rw [free u q] at e
        cases e
    have M : Mod K mg (hidT s₁.heap H) := by
      obtain ⟨mc, h1, h2⟩ := hlim
      exact ⟨KB, ns' hns, ⟨mb, ns' hb, hbb⟩, ⟨mc, ns' h1, h2⟩⟩
    have TB : TabB (hidT s₁.heap H) mg c PT := by
      refine ⟨?_, ?_, fun z => ?_⟩
      · obtain ⟨o, us, file, tf, flags, tg, inF, text, tt, q1, qc, q2, q3, rest⟩ := CH
        refine ⟨o, us, file, tf, flags, tg, inF, text, tt, other q1 (fun _ _ z => by rw [q2] at z; cases z) (fun z => ?_), qc, q2, q3, rest⟩
        rw [q2] at z
        cases z
        simp at q3
      · obtain ⟨bm, ob, b1, b2, b3, b4, b5, b6⟩ := hbm
        refine ⟨bm, ob, b1, b2, fun q => ?_, fun q => ?_, other b3 (fun _ _ z => by rw [b6] at z; cases z) (fun z => by rw [b6] at z; cases z), b4, b5, b6⟩
        · obtain ⟨o, es, ep, e, d, _⟩ := hns
          rw [q, e] at b3
          cases b3
          rw [d] at b6
          cases b6
        · rw [q, hT] at b3
          cases b3
          cases b6
      · obtain ⟨o, es, ep, e, d, _⟩ := hns
        rw [z, hT] at e
        cases e
        cases d
    have e0 : Env0 P w K mg (hidT s₁.heap H) callerA [] s₁ H :=
      { frames := rfl, mod := M, bs := fun b o e => of_hidT e, bsz := Nat.le_of_eq (hidT_size _ _), funs := trivial, frf := fun b z => (by cases z), hok := hok, bare := .of_eq hg }
    have run := (F _ KB (ns' hns) TB).run callerA [] s₁ H ⟨[.ref a], []⟩ [.ref a] [.ref a] _ _ rfl hr e0 (hbind s₁ (.ref a)) (.cons rfl .nil) (hsp H hP hS)
    refine codeAny_mono run fun r s' h => ?_
    match r, h with
    | .error e, h => exact (hCX H e s' h).elim
    | .ok .next, h => exact h.elim
    | .ok .brk, h => exact h.elim
    | .ok .cont, h => exact h.elim
    | .ok (.ret u), ⟨v, H', os, bare, un, hok', r', q⟩ =>
      obtain rfl : v = .bl true := q
      obtain rfl : u = Value.bool true := r'
      have kept : ∀ b o, b ≠ PT → s₁.heap.get? b = some o → s'.heap.get? b = some o := fun b o nb e => by
        cases z : H b with
        | none => exact un.keep b o e z (fun z => by cases z) (fun z => by cases z)
        | some u =>
          rcases only b u z with eb | ⟨_, ob, xs, eu⟩
          · exact absurd eb nb
          · subst eu
            obtain ⟨e1, _⟩ := hok b _ z
            obtain ⟨e2, _⟩ := hok' b _ (un.frzs b ob _ z)
            rw [e] at e1
            cases e1
            exact e2
      obtain ⟨more, hm⟩ : ∃ more : Array Value, s'.heap.get? PT = some { cls := .none, data := .fields more } := by
        obtain ⟨more, z⟩ := un.tbls PT #[] hP
        exact ⟨_, hok' PT _ z⟩
      refine ⟨rfl, ⟨fun b o e => ?_, fun b o e => ?_⟩, os, bare⟩
      · by_cases hbP : b = PT
        · subst hbP
          rw [hT] at e
          cases e
          exact .inr (.inl ⟨(CH.tab hT).isCodeTable, rfl, #[], more, rfl, by rw [Array.empty_append]; exact hm⟩)
        · exact .inl (kept b o hbP e)
      · by_cases hbP : b = PT
        · subst hbP
          exact ⟨_, hm⟩
        · exact ⟨o, kept b o hbP e⟩
  have tblOk : ∀ {H : Hp}, ObjOk P w H s₁.heap PT (.tbl #[]) := fun {H} => hT
  cases hk : K.lookup a with
  | some o =>
    have e := KX a o hk
    rw [ha] at e
    cases e
    refine any (fun b => if b = PT then some (.tbl #[]) else none) (if_pos rfl) (.inr ⟨_, vs.toArray, _, hk, rfl, rfl, rfl, ?_, by simpa using rv⟩) (fun b u z => ?_) (fun b u z => ?_) (fun u z => ?_)
    · rw [List.size_toArray, lenV]
      exact hl
    · by_cases q : b = PT
      · subst q
        have z := (if_pos rfl).symm.trans z
        cases z
        exact tblOk
      · have z := (if_neg q).symm.trans z
        cases z
    · by_cases q : b = PT
      · exact .inl q
      · have z := (if_neg q).symm.trans z
        cases z
    · have z := (if_neg aPT).symm.trans z
      cases z
  | none =>
    refine any (fun b => if b = PT then some (.tbl #[]) else if b = a then some (.frz { cls := .type "list", data := .seq vs.toArray } (.lst (ns.map V.int))) else none) (if_pos rfl)
      (.inl (.inr ⟨{ cls := .type "list", data := .seq vs.toArray }, (if_neg aPT).trans (if_pos rfl)⟩)) (fun b u z => ?_) (fun b u z => ?_) (fun _ _ => hk)
    · by_cases q : b = PT
      · subst q
        have z := (if_pos rfl).symm.trans z
        cases z
        exact tblOk
      · have z := (if_neg q).symm.trans z
        by_cases q2 : b = a
        · subst q2
          have z := (if_pos rfl).symm.trans z
          cases z
          exact ⟨ha, by rw [List.length_map]; exact hl, vs, _, rv, ha⟩
        · have z := (if_neg q2).symm.trans z
          cases z
    · by_cases q : b = PT
      · exact .inl q
      · have z := (if_neg q).symm.trans z
        by_cases q2 : b = a
        · subst q2
          have z := (if_pos rfl).symm.trans z
          cases z
          exact .inr ⟨rfl, _, _, rfl⟩
        · have z := (if_neg q2).symm.trans z
          cases z
theorem walk_ofTEG {l : PySem.W.OpenLaw} {n k : Nat} {q : Program} {loose : List Str} {XP : (Str → Option Value) → Heap → Prop} {YP : World → Heap → Prop} {d : DefRec} {CX : CXT} {x : Str}
    (hn : l.most = some n) (hn2 : n ≤ sizeLine) (hdf : d.params.defaults = []) (hr : Room k callerA)
    (F : ∀ (w : World) (mg : Str → Option Value) (fa : Addr) (h : Heap), YP w h → h.Ns mainGlobals mg → mg d.name = some (.ref fa) →
      ∃ (K : PySem.W.Frag) (c PT : Addr) (fd : FuncData) (sp : Sp), K.In h ∧ h.get? PT = some { cls := .none, data := .fields #[] } ∧ K.lookup PT = none ∧ PySem.W.CodeHd h c PT ∧
        (∀ (s : Shared) (u : Value), BindsTo s fd ⟨[u], []⟩ [(x, u)]) ∧
        (∀ (H : Hp) (a : Addr) (ns : List Int), ns.length ≤ n → H PT = some (.tbl #[]) → SqL K H a (ns.map V.int) → sp [.ref a] H (fun v _ => v = .bl true) fun _ _ _ => False) ∧
        ∀ base : Heap, K.In base → base.Ns mainGlobals mg → TabB base mg c PT → FnG l.prog w K mg base CX k fa fd [x] sp)
    (hCX : ∀ (H : Hp) (s : Shared) (e : Value) (s' : Shared), CX [] H s (fun _ _ _ => False) e s' → False) :
    PySem.W.WalkO q loose XP YP l.row.toRowW d [] (fun f vs => PySem.call f vs) := by
  refine Att.attach_callB hn hdf fun w s₀ s₁ mg mb fa o pm cd doc a vs ns G Y ho hd hcd hmg hobj hints hlen hbits hg => ?_
  obtain ⟨K, c, PT, fd, sp, KX, hT, nT, CH, hb, hsp, hF⟩ := F w mg fa _ Y G.T.g hmg
  exact law_callTG KX G.T.g G.T.b G.T.builtins G.T.nolimit hg hT nT CH G.T.bmain hobj hints (Nat.le_trans hlen hn2) hr hF hb (fun H hH hS => hsp H a ns hlen hH hS) fun H e s' => hCX H s₁ e s'
section
variable {P : Program} {w : World} {K : PySem.W.Frag} {mg : Str → Option Value} {base : Heap}
/-- a def that is told the guards, its code object known -/
theorem okGC {x qual : Str} {st : Stmt} {f c : Addr} {fd : FuncData} {N ps : List Str} {k : Nat} {sp : Sp} (F : Fun K x qual st f fd) (hc : fd.code = .ref c)
    (S : FnScope N ps (defScope st)) (len : ∀ vs H Q E, sp vs H Q E → vs.length = ps.length)
    (hbody : ∀ (A : Around) (outer : List Env) (s : Shared) (H : Hp) (vs : List V) (Q : VK) (E : XK), A.guards = some [] →
      Room k (A.deeper (envOfC qual (defScope st) s.heap.objs.size f (.ref c))) → sp vs H Q E →
      ∃ t, PSs (cxOf CX0 P w K mg base N qual (defScope st) f (.ref c) A outer s H E) (defBody st) t ∧
        t { nx := fun _ H' => Q .non H', rt := Q } (start N vs) H) : FnG P w K mg base CX0 (k + 1) f fd ps sp := by
  obtain ⟨oc, od, kV, doc, pm, an, cdv, ct, osl, rfl, lk, hcd⟩ := F.ex
  obtain rfl : cdv = .ref c := hc
  refine ⟨len, fun A outer s H args us vs Q E gd hr e0 hb r hsp => ?_⟩
  have old : ∀ b o, base.get? b = some o → s.heap.get? b = some o := fun b o e => (e0.bs b o e).1
  have KX : K.In s.heap := e0.mod.kin.keeps old
  have par : ∀ y ∈ ps.zip us, (defScope st).names.lookup y.1 = some .local ∨
      ((defScope st).names.lookup y.1 = some .cell ∧ ((cellsFrom (s.heap.objs.size + 1) (defScope st).names []).lookup y.1).isSome = true) := by
    intro y hy
    obtain ⟨n, v⟩ := y
    rcases S.par n (List.of_mem_zip hy).1 with q | q
    · exact .inl q
    · exact .inr ⟨q, PySem.W.cellsFrom_some _ _ _ (.inl q)⟩
  refine codeAny_call_function hr.depth (KX _ _ lk) rfl S.co S.gen rfl (PySem.W.codeRec_of KX hcd) (hb _ _ _ _ ?_)
  refine wpAny_newFunctionEnv_cells S.kind par fun env he s1 ic => ?_
  subst he
  refine ⟨(e0.mod.nolimit.keeps old).keeps ic.toInCall.keep, codeAny_func ?_⟩
  obtain ⟨t, ht, hq⟩ := hbody A outer s H vs Q E gd (hr.deeper _) hsp
  have I := inv_start (CX := CX0) (E := E) S hr.hd e0 (len _ _ _ _ hsp) r ic
  refine wpAny_mono (ht.run [] s1 _ H _ I hq) (fun fl s' hs => ?_) fun _ _ z => z
  match fl, hs with
  | .ret u, ⟨v, σ', H', J, rv, q⟩ => exact ⟨v, H', J.os, J.bare, J.base, J.hok, rv, q⟩
  | .next, ⟨σ', H', J, q⟩ => exact ⟨V.non, H', J.os, J.bare, J.base, J.hok, rfl, q⟩
  | .brk, ⟨_, _, _, q⟩ => exact q.elim
  | .cont, ⟨_, _, _, q⟩ => exact q.elim
end
end L2.Vx

set_option Elab.async false
set_option linter.all false
set_option maxRecDepth 100000
set_option maxHeartbeats 3200000
namespace L2.Vx
open PySem PySem.Spec PyProof.Rows
/-! ### set(xs) of a list of texts -/
section
variable {κ : Type} [DecidableEq κ]
/-- the unlike ones of a list, each where it comes first -/
def firsts (l : List κ) : List κ := l.foldl (fun acc x => if x ∈ acc then acc else acc ++ [x]) []
theorem firsts_snoc (l : List κ) (x : κ) : firsts (l ++ [x]) = if x ∈ firsts l then firsts l else firsts l ++ [x] := by
  unfold firsts
  rw [List.foldl_append]
  rfl
theorem snoc_ind {α : Type} {C : List α → Prop} (h0 : C []) (h1 : ∀ l x, C l → C (l ++ [x])) (l : List α) : C l := by
  have : ∀ n (l : List α), l.length = n → C l := by
    intro n
    induction n with
    | zero => intro l e; rw [List.length_eq_zero_iff.mp e]; exact h0
    | succ n ih =>
      intro l e
      have hne : l ≠ [] := fun z => by rw [z] at e; cases e
      rw [← List.dropLast_concat_getLast hne]
      refine h1 _ _ (ih _ ?_)
      rw [List.length_dropLast, e]
      rfl
  exact this _ l rfl
theorem mem_firsts (l : List κ) : ∀ x, x ∈ firsts l ↔ x ∈ l := by
  refine snoc_ind (C := fun l => ∀ x, x ∈ firsts l ↔ x ∈ l) (fun x => Iff.rfl) (fun l y ih x => ?_) l
  rw [firsts_snoc, List.mem_append, List.mem_singleton]
  by_cases h : y ∈ firsts l
  · rw [if_pos h, ih]
    exact ⟨Or.inl, fun q => q.elim id fun e => e ▸ (ih y).mp h⟩
  · rw [if_neg h, List.mem_append, List.mem_singleton, ih]
theorem firsts_nodup (l : List κ) : (firsts l).Nodup := by
  refine snoc_ind (C := fun l => (firsts l).Nodup) List.nodup_nil (fun l y ih => ?_) l
  rw [firsts_snoc]
  by_cases h : y ∈ firsts l
  · rw [if_pos h]
    exact ih
  · rw [if_neg h, List.nodup_append]
    refine ⟨ih, List.pairwise_singleton _ _, fun a ha b hb e => ?_⟩
    rw [List.mem_singleton.mp hb] at e
    exact h (e ▸ ha)
theorem firsts_le (l : List κ) : (firsts l).length ≤ l.length := by
  refine snoc_ind (C := fun l => (firsts l).length ≤ l.length) (Nat.le_refl _) (fun l y ih => ?_) l
  rw [firsts_snoc, List.length_append, List.length_singleton]
  by_cases h : y ∈ firsts l
  · rw [if_pos h]
    omega
  · rw [if_neg h, List.length_append, List.length_singleton]
    omega
theorem firsts_eq (l : List κ) : (firsts l).length = l.length ↔ l.Nodup := by
  refine snoc_ind (C := fun l => (firsts l).length = l.length ↔ l.Nodup) ⟨fun _ => List.nodup_nil, fun _ => rfl⟩ (fun l y ih => ?_) l
  have le := firsts_le l
  rw [firsts_snoc, List.length_append, List.length_singleton]
  by_cases h : y ∈ firsts l
  · rw [if_pos h]
    refine ⟨fun q => by omega, fun q => ?_⟩
    rw [List.nodup_append] at q
    exact absurd rfl (q.2.2 y ((mem_firsts l y).mp h) y (List.mem_singleton.mpr rfl))
  · rw [if_neg h, List.length_append, List.length_singleton, Nat.add_right_cancel_iff, ih, List.nodup_append]
    refine ⟨fun q => ⟨q, List.pairwise_singleton _ _, fun a ha b hb e => ?_⟩, fun q => q.1⟩
    rw [List.mem_singleton.mp hb] at e
    exact h ((mem_firsts l y).mpr (e ▸ ha))
end
section
variable {κ : Type} [DecidableEq κ] [BEq κ] [LawfulBEq κ] {prog : Program} {w : World} {knd : KeyKind prog w κ}
abbrev SetIs (knd : KeyKind prog w κ) (h : Heap) (a : Addr) (ks : List κ) : Prop := h.SetOf knd a (fun k => decide (k ∈ firsts ks)) (firsts ks).length
theorem setIs_snoc {h : Heap} {a : Addr} {ks : List κ} {x : κ} (S : h.SetOf knd a (fun k => decide (k ∈ firsts ks) || decide (k = x)) (if decide (x ∈ firsts ks) = true then (firsts ks).length else (firsts ks).length + 1)) : SetIs knd h a (ks ++ [x]) := by
  refine SetOf_congr S (fun k => ?_) ?_
  · rw [firsts_snoc]
    by_cases hx : x ∈ firsts ks
    · rw [if_pos hx]
      by_cases hk : k = x
      · rw [hk, decide_eq_true hx]; rfl
      · rw [decide_eq_false hk, Bool.or_false]
    · rw [if_neg hx, Bool.eq_iff_iff, Bool.or_eq_true, decide_eq_true_iff, decide_eq_true_iff, decide_eq_true_iff, List.mem_append, List.mem_singleton]
  · rw [firsts_snoc]
    by_cases hx : x ∈ firsts ks
    · rw [if_pos hx, if_pos (decide_eq_true hx)]
    · rw [if_neg hx, if_neg (fun q => hx (of_decide_eq_true q)), List.length_append]; rfl
theorem setIs_at {h h2 : Heap} {a : Addr} {ks : List κ} (S : SetIs knd h a ks) (k : ∀ o, h.get? a = some o → h2.get? a = some o) : SetIs knd h2 a ks := by
  obtain ⟨o, es, ep, t, ho, r⟩ := S
  exact ⟨o, es, ep, t, k o ho, r⟩
variable {A : Around} {R : Result → Shared → Prop} {I : Addr} {fp wr : List Addr} {G : Array GenState → Array GenState → Prop} {n : Nat} {Pv : Nat → Value → Prop} {St : Nat → Shared → Prop}
/-- the walk that puts all of them into the set -/
theorem upd_walk (W : WalksS prog w A.in1 I fp wr G n Pv St) (a : Addr) (out : a ∉ fp) (ks : List κ) (len : ks.length = n) (room : n + 1 < scanBound)
    (val : ∀ i v, Pv i v → ∃ k, ks[i]? = some k ∧ knd.is k v = true ∧ v.scannable = true) : ∀ (todo i : Nat) (s : Shared), i + todo = n → St i s → SetIs knd s.heap a (ks.take i) →
      (∀ z, Moved (a :: wr) G s z → SetIs knd z.heap a ks → R (.ok (.ret .none)) z) → codeAny (model prog w) A (.builtin "set.update.loop" ⟨[.ref a, .ref I], []⟩) R s := by
  have nwr : a ∉ wr := fun q => out (W.sub _ q)
  have wide : ∀ b ∈ wr, b ∈ a :: wr := fun b q => List.mem_cons_of_mem _ q
  intro todo
  induction todo with
  | zero =>
    intro i s e st S fin
    obtain rfl : i = n := e
    refine codeAny_builtin F.entry_set_update_loop ?_; rw [Around.under_plainId F.plain_set_update_loop _]
    show wpAny _ A.in1 (pyNext (.ref I) >>= _) _ _ _; refine wpAny_bind (W.done s _ _ st fun z mv => ?_)
    rw [← len, List.take_length] at S
    exact wpAny_pure (fin z (mv.mono wide) (setIs_at S fun o q => mv.heap a o nwr q))
  | succ todo ih =>
    intro i s e st S fin
    have lt : i < n := by omega
    refine codeAny_builtin F.entry_set_update_loop ?_; rw [Around.under_plainId F.plain_set_update_loop _]
    show wpAny _ A.in1 (pyNext (.ref I) >>= _) _ _ _; refine wpAny_bind (W.item i s _ _ lt st fun v z hv sz mv => ?_)
    obtain ⟨k, hk, isk, sck⟩ := val i v hv
    have S1 := setIs_at S fun o q => mv.heap a o nwr q
    show wpAny _ A.in1 (holding [v] (setAdd a v) >>= _) _ _ _; refine wpAny_bind (wpAny_holding ?_)
    unfold setAdd; refine wpAny_holding ?_; refine wpAny_bind (knd.pyHash isk ?_)
    have few : (firsts (ks.take i)).length + 1 < scanBound := by have := firsts_le (ks.take i); rw [List.length_take] at this; omega
    refine wpAny_setAddHashed_of (knd := knd) (s := { z with toks := z.toks + 1 }) isk sck S1 few fun h2 same S2 => ?_
    have S3 : SetIs knd h2 a (ks.take (i + 1)) := by
      rw [List.take_succ, hk]
      exact setIs_snoc S2
    refine wpAny_pure ⟨plainId_quiet F.plain_set_update_loop _, ih (i + 1) _ (by omega) (W.frame _ z _ _ sz (Nat.le_succ _) fun b q o eo => ?_) S3 fun y my S4 => ?_⟩
    · exact (same.2 b fun u : b = a => out (u ▸ q)).trans eo
    · exact fin y (Moved.trans W.gtrans ((mv.mono wide).then_heap (Nat.le_succ _) fun b o q eo => (same.2 b fun u : b = a => q (u ▸ List.mem_cons_self)).trans eo) my) S4
end
end L2.Vx
namespace L2.Vx
open PySem PySem.Spec PyProof.Rows
section
variable {κ : Type} [DecidableEq κ] [BEq κ] [LawfulBEq κ] {prog : Program} {w : World} {knd : KeyKind prog w κ} {A : Around} {E : Value → Shared → Prop} {s : Shared}
/-- the new set, empty as yet -/
abbrev void (led : Bool) : Obj := { cls := .type "set", dict := none, data := .set #[] 0 (.fresh 0 0 led) }
/-- set(xs), xs a list of keys of one kind -/
theorem set_of {l : Addr} {its : Array Value} (ks : List κ) {Q : Value → Shared → Prop} (hh : A.handled = none) (hl : s.heap.IsList l its) (sz : its.size = ks.length) (room : ks.length + 1 < scanBound)
    (val : ∀ (i : Nat) (v : Value), its[i]? = some v → ∃ k, ks[i]? = some k ∧ knd.is k v = true ∧ v.scannable = true)
    (fin : ∀ (h2 : Heap) (tk : Nat), SetIs knd h2 s.heap.objs.size ks → (∀ b o, b < s.heap.objs.size → s.heap.get? b = some o → h2.get? b = some o) → Q (.ref s.heap.objs.size) { s with heap := h2, toks := tk }) :
    wpAny (model prog w) A (call (.type "set") [.ref l]) Q E s := by
  obtain ⟨c, tl, hmro⟩ := PySem.F.called_set.mro; have made := PySem.F.called_set.made; have sub := PySem.F.called_set.sub
  refine wpAny_call (codeAny_of_tree ?_); show wpAny _ _ (callAny (.type "set") _) _ _ _
  refine wpAny_pure ⟨Code.quiet_builtin _ (by decide +kernel), codeAny_builtin PySem.F.entry_type_call ?_⟩; rw [Around.under_plain (weight_type_call_type "set" [.ref l] []) rfl]
  have n1 := PySem.F.called_set.notType; have n2 := PySem.F.called_set.canCreate; have n3 := PySem.F.typeCall_set_1 (.ref l)
  repeat (any_goals (first | assumption | wp_step))
  refine codeAny_mono (code_set_new_1 (.ref l) (E := E) (Q₁ := fun v z => ∃ led : Bool, v = .ref s.heap.objs.size ∧ z = { s with heap := s.heap.push (void led) }) fun led => ⟨led, rfl, rfl⟩) fun r z hr => ?_
  cases r with
  | error e => exact hr
  | ok f =>
    cases f with
    | ret v =>
      obtain ⟨led, rfl, rfl⟩ := hr
      have at0 : (s.heap.push (void led)).get? s.heap.objs.size = some (void led) := Heap.get?_push_size _ rfl
      have ty : Shared.TypeIs { s with heap := s.heap.push (void led) } (.ref s.heap.objs.size) "set" := ⟨_, at0, rfl⟩
      have il := PySem.F.called_set.init.lookup; have ib := PySem.F.called_set.init.bind (.ref s.heap.objs.size)
      repeat (any_goals (first | assumption | wp_step))
      refine codeAny_mono (codeAny_call_builtin (R := wants (fun r y => r = .none ∧ ∃ h2 tk, y = { s with heap := h2, toks := tk } ∧ SetIs knd h2 s.heap.objs.size ks ∧ (∀ b o, b < s.heap.objs.size → s.heap.get? b = some o → h2.get? b = some o)) E)
        PySem.F.called_set.init.plain PySem.F.entry_set_init (check_set_init_1 ty ?_)) fun r y hy => ?_
      · have lt : l < s.heap.objs.size := by
          obtain ⟨o, ho, _⟩ := hl
          exact Heap.lt_size ho
        have l1 : (s.heap.push (void led)).IsList l its := hl.push _
        obtain ⟨o, ho, oc, m, od⟩ := hl
        obtain ⟨oc', odi, oda, osl⟩ := o
        simp only at oc od; subst oc; subst od
        have ho1 : (s.heap.push (void led)).get? l = some { cls := .type "list", dict := odi, data := .seq its m, slots := osl } := Heap.get?_push_of_some _ ho
        have u1 := PySem.F.sub_list_set; have u2 := PySem.F.sub_list_frozenset; have u3 : (Value.type "list" == Value.type "dict") = false := by decide
        unfold Builtin.«set.__init__» noKeywords Builtin.Frozenset.updateFrom; generalize hp : pyIter = PI
        wp_walk
        subst hp
        refine wpAny_pyIter_list l1 ?_; refine wpAny_bind (wpAny_runValue ?_)
        have h3 : A.in1.in1.in1.handled = none := by simp [hh]
        have big : (s.heap.push (void led)).objs.size = s.heap.objs.size + 1 := Heap.size_push ..
        have ne : l ≠ (s.heap.push (void led)).objs.size := by rw [big]; exact Nat.ne_of_lt (Nat.lt_succ_of_lt lt)
        have out : s.heap.objs.size ∉ [(s.heap.push (void led)).objs.size, l] := by
          rw [big]; intro q; rcases List.mem_cons.mp q with q | q
          · exact Nat.ne_of_lt (Nat.lt_succ_self _) q
          · exact Nat.ne_of_gt lt (List.mem_singleton.mp q)
        refine upd_walk (knd := knd) ((Walks.list h3 _ l ne its).toS) s.heap.objs.size out ks sz.symm (by rw [sz]; exact room) val its.size 0 _ (Nat.zero_add _) ⟨⟨_, Heap.get?_push_size _ rfl, rfl, rfl⟩, (l1.push _)⟩ ?S0 ?done
        case S0 =>
          have g : ((s.heap.push (void led)).push { cls := .type "list_iterator", data := .fields #[.ref l, .int 0 0] }).get? s.heap.objs.size = some (void led) := Heap.get?_push_of_some _ at0
          exact SetOf_congr ((setObjOf_fresh (knd := knd) led).setOf g (by unfold scanBound; omega)) (fun _ => rfl) rfl
        case done =>
          intro z mv S
          obtain ⟨h2, g2, d2, t2, o2⟩ := z
          obtain rfl : g2 = s.gens := mv.gens
          obtain rfl : d2 = s.drawn := mv.drawn
          obtain rfl : o2 = s.os := mv.os
          show wpAny _ _ _ _ _ _; refine wpAny_pure ?_; show wpAny _ _ (ret Value.none) _ _ _
          refine wpAny_pure ⟨rfl, h2, t2, rfl, S, fun b o hb e => mv.heap b o (fun q => ?_) (Heap.get?_push_of_some _ (Heap.get?_push_of_some _ e))⟩
          rcases List.mem_cons.mp q with q | q
          · exact Nat.ne_of_lt hb q
          · have := List.mem_singleton.mp q
            rw [big] at this; exact Nat.ne_of_lt (Nat.lt_succ_of_lt hb) this
      · cases r with
        | error e => exact hy
        | ok f =>
          cases f with
          | ret r =>
            obtain ⟨rfl, h2, tk, rfl, S, old⟩ := hy
            repeat (any_goals (first | assumption | wp_step))
            exact fin _ _ S old
          | _ => exact hy.elim
    | _ => exact hr.elim
end
end L2.Vx

set_option Elab.async false
set_option linter.all false
set_option maxRecDepth 100000
set_option maxHeartbeats 3200000
namespace L2.Vx
open PySem PySem.Spec PyProof.Rows
/-! ### sets of texts, on the hand layer -/
/-- the set of these texts at a -/
def SetL (P : Program) (w : World) (a : Addr) (xs : List Str) : HO := .ext fun h => SetIs (PySem.strKind P w) h a xs
section
variable {X : Cx}
theorem setL_new {P : Program} {w : World} {H : Hp} {h : Heap} {a : Addr} {xs : List Str} (S : SetIs (PySem.strKind P w) h a xs) : ObjOk P w H h a (SetL P w a xs) := by
  have ⟨o, _, _, _, ho, _⟩ := S
  exact ⟨S, ⟨o, ho⟩, fun _ _ p k => setIs_at p k⟩
theorem str_at : ∀ {xs : List Str} {us : List Value}, Vals (xs.map V.str) us → ∀ (i : Nat) (v : Value), us[i]? = some v → ∃ x t, xs[i]? = some x ∧ v = .str x t
  | [], _, .nil, i, v, h => by simp at h
  | x :: xs, _, .cons r t, 0, v, h => by
    obtain ⟨k, rfl⟩ := r
    simp at h
    exact ⟨x, k, rfl, h.symm⟩
  | x :: xs, _, .cons r t, i + 1, v, h => by
    simp only [List.getElem?_cons_succ] at h ⊢
    exact str_at t i v h
def rSetS (K : PySem.W.Frag) (P : Program) (w : World) : List V → Hp → VK → Prop := fun vs H Q => ∃ (l : Addr) (xs : List Str), vs = [.ref l] ∧ SqL K H l (xs.map V.str) ∧ xs.length + 1 < scanBound ∧ ∀ p, H p = none → Q (.ref p) (upd H p (SetL P w p xs))
theorem cr_setS (hc : X.calm = true) : CallR X (.type "set") (rSetS X.K X.prog X.w) := by
  intro pins s σ H vs us Q I r h
  obtain ⟨l, xs, rfl, hq, room, q⟩ := h
  cases r with
  | cons ry rt =>
    cases rt
    cases ry
    obtain ⟨its, rv, pl, hz⟩ := I.list hq
    refine set_of (knd := PySem.strKind X.prog X.w) xs (I.ok.hd hc) pl.isList (by rw [List.size_toArray, ← rv.length, List.length_map]) room (fun i v hv => ?_) fun h2 tk S old => ?_
    · obtain ⟨x, t, hx, rfl⟩ := str_at rv i v (by simpa using hv)
      exact ⟨x, hx, strKind_is _ _ _ _, rfl⟩
    · exact ⟨.ref _, upd H s.heap.objs.size (SetL X.prog X.w s.heap.objs.size xs), I.laid (t' := tk) (fun b u e => old b u (Heap.lt_size e) e) (Nat.le_refl _) (setL_new S), rfl, q _ (I.hok.fresh (Nat.le_refl _))⟩
/-- len(found) -/
def rLenS (P : Program) (w : World) : List V → Hp → VK → Prop := fun vs H Q => ∃ (a : Addr) (xs : List Str), vs = [.ref a] ∧ H a = some (SetL P w a xs) ∧ xs.length < scanBound ∧ Q (.int ((firsts xs).length : Nat)) H
theorem call_lenS : CallR X (.builtin "len") (rLenS X.prog X.w) := by
  intro pins s σ H vs us Q I r h
  obtain ⟨a, xs, rfl, ha, room, q⟩ := h
  cases r with
  | cons ry rt =>
    cases rt
    cases ry
    obtain ⟨o, es, ep, t, ho, hex, hd, _, _, _, hf, hn⟩ : SetIs (PySem.strKind X.prog X.w) s.heap a xs := (I.hok a _ ha).1
    have le := firsts_le xs
    refine call_len_set ho hex hd hf (by rw [hn]; unfold scanBound at room; omega) ⟨.int ((firsts xs).length : Nat), H, I.tok _, ⟨_, by rw [hn]⟩, q⟩
end
end L2.Vx

set_option Elab.async false
set_option linter.all false
set_option maxRecDepth 100000
set_option maxHeartbeats 3200000
namespace L2.Vx
open PySem PySem.Spec PyProof.Rows L2
/-! ### sets of keys of one kind, their tables in order: set(xs), sorted(set(xs)) -/
section
variable {κ : Type} [DecidableEq κ] {prog : Program} {w : World} {A : Around} {E : Value → Shared → Prop} {s : Shared}
def SetRd (knd : KeyKind prog w κ) (h : Heap) (a : Addr) (S : κ → Bool) (n : Nat) : Prop :=
  ∃ o es ep t, h.get? a = some o ∧ o.ExactSet ∧ o.data = .set es ep t ∧ ElemsOf knd es.toList ∧ (∀ k, S k = true ↔ ∃ e ∈ es.toList, knd.is k e.2 = true) ∧
    es.size < scanBound ∧ t.fits es.size = true ∧ es.size = n ∧ Ris t.place.toList ∧ (w.params.followText "set-order" = true ∨ t.led = true)
variable {knd : KeyKind prog w κ}
theorem setRd_congr {h : Heap} {a : Addr} {S S' : κ → Bool} {n n' : Nat} (R : SetRd knd h a S n) (e : ∀ k, S' k = S k) (en : n' = n) : SetRd knd h a S' n' := by
  have q : S' = S := funext e
  rw [q, en]
  exact R
theorem setRd_tail {g : Bool → Sem Unit} (hg : ∀ (b : Bool) (s₁ : Shared) (Q' : Unit → Shared → Prop), Q' () s₁ → wpAny (model prog w) A (g b) Q' E s₁) {a : Addr}
    {o : Obj} {es : Array (Int × Value)} {ep : Nat} {t : SetTable} (ho : s.heap.get? a = some o) (hex : o.ExactSet) (hd : o.data = .set es ep t)
    {es1 : Array (Int × Value)} {t2 : SetTable} {S' : κ → Bool} (hel1 : ElemsOf knd es1.toList) (m1 : ∀ k, S' k = true ↔ ∃ e ∈ es1.toList, knd.is k e.2 = true)
    (hb1 : es1.size < scanBound) (hf2 : t2.fits es1.size = true) (hr : Ris t2.place.toList) (hl : w.params.followText "set-order" = true ∨ t2.led = true) {wasDummy : Bool} {R : Option Bool → Shared → Prop}
    (hR : ∀ h', Heap.SameBut a s.heap h' → SetRd knd h' a S' es1.size → R (some true) { s with heap := h' }) :
    wpAny (model prog w) A (do
        storeSet a es1 t2
        if (!wasDummy && t2.tooFull) = true then do
            g (relayAll t2 es1 (SetTable.grown es1.size)).2.2
            storeSet a (relayAll t2 es1 (SetTable.grown es1.size)).1 (relayAll t2 es1 (SetTable.grown es1.size)).2.1
            pure (some true)
          else pure (some true)) R E s := by
  refine wpAny_bind (wpAny_storeSet_of ho hd ?_ (fits_of_scanBound hb1))
  have ho1 := store_at (es' := es1) (t' := t2) ho hd
  have sb1 := Heap.SameBut.update s.heap a (Obj.putSet es1 t2)
  split
  · have pm := relayAll_perm t2 es1 (SetTable.grown es1.size)
    have hf3 := relayAll_fits t2 es1 (SetTable.grown es1.size)
    have hr3 := relayAll_ris t2 es1 (SetTable.grown es1.size)
    have hl3 := relayAll_led t2 es1 (SetTable.grown es1.size)
    generalize relayAll t2 es1 (SetTable.grown es1.size) = Z at pm hf3 hr3 hl3 ⊢
    obtain ⟨es2, t3, gave⟩ := Z
    dsimp only at pm hf3 hr3 hl3 ⊢
    have hsz : es2.size = es1.size := by rw [← Array.length_toList, pm.length_eq, Array.length_toList]
    have hb2 : es2.size < scanBound := by rw [hsz]; exact hb1
    refine wpAny_bind (hg _ _ _ ?_)
    refine wpAny_bind (wpAny_storeSet_of ho1 rfl ?_ (fits_of_scanBound hb2))
    have ho2 := store_at (es' := es2) (t' := t3) ho1 rfl
    refine wpAny_pure (hR _ (sb1.trans (Heap.SameBut.update _ a _)) ?_)
    exact ⟨_, es2, _, t3, ho2, hex, rfl, hel1.perm pm, fun k => (m1 k).trans ⟨fun ⟨e, he, q⟩ => ⟨e, pm.mem_iff.mpr he, q⟩, fun ⟨e, he, q⟩ => ⟨e, pm.mem_iff.mp he, q⟩⟩, hb2, hf3, hsz, hr3,
      hl.imp id fun z => by rw [hl3]; exact z⟩
  · exact wpAny_pure (hR _ sb1 ⟨_, es1, _, t2, ho1, hex, rfl, hel1, m1, hb1, hf2, rfl, hr, hl⟩)
theorem setRd_add {a : Addr} {S : κ → Bool} {n : Nat} {k : κ} {x : Value} {Q : Bool → Shared → Prop} (hkey : knd.is k x = true) (hsc : x.scannable = true) (hS : SetRd knd s.heap a S n)
    (room : n + 1 < scanBound)
    (hQ : ∀ h', Heap.SameBut a s.heap h' → SetRd knd h' a (fun k' => S k' || decide (k' = k)) (if S k then n else n + 1) → Q (!S k) { s with heap := h' }) :
    wpAny (model prog w) A (setAddHashed a x (knd.hash k)) Q E s := by
  obtain ⟨o, es, ep, t, ho, hex, hd, hel, hm, hb, hf, hn, hr, hl⟩ := hS
  unfold setAddHashed setAddHashedIn
  refine wpAny_holding (wpAny_bind (wpAny_setState_of ho hd hf ?_))
  dsimp only
  rw [byScan_of hsc hb hel]
  simp only [↓reduceIte]
  unfold setAddByScan
  refine wpAny_bind ?_
  refine wpAny_bind (wpAny_rule ?_)
  refine wpAny_bind (wpAny_setScan_of hkey ho hd hf hel ?_)
  cases hfi : List.findIdx? (fun e => knd.is k e.2) es.toList with
  | some j =>
    dsimp only
    obtain ⟨hj, pj, _⟩ := List.findIdx?_eq_some_iff_getElem.mp hfi
    have hSk : S k = true := (hm k).2 ⟨es.toList[j], List.getElem_mem hj, pj⟩
    refine wpAny_pure (wpAny_pure ?_)
    have q := hQ s.heap (Heap.SameBut.refl a s.heap) ⟨o, es, ep, t, ho, hex, hd, hel, fun i => by
      rw [Bool.or_eq_true, decide_eq_true_eq, ← hm i]
      exact ⟨fun z => z.elim id (fun e => e ▸ hSk), .inl⟩, hb, hf, by rw [if_pos hSk]; exact hn, hr, hl⟩
    rw [hSk] at q
    exact q
  | none =>
    dsimp only
    have hSk : S k = false := by
      cases q : S k with
      | false => rfl
      | true =>
        obtain ⟨e, he, hp⟩ := (hm k).1 q
        have c := List.findIdx?_eq_none_iff.mp hfi e he
        rw [hp] at c
        cases c
    have hgw : ∀ (b : Bool) {s₁ : Shared} {Q' : Unit → Shared → Prop}, Q' () s₁ → wpAny (model prog w) A (match b with | true => rule "set.scan.the-table-gave-way" | false => pure ()) Q' E s₁ :=
      fun b s₁ Q' q => by cases b <;> first | exact wpAny_pure q | exact wpAny_rule q
    have pm := layNew_perm t es (knd.hash k) x
    have hf1 := layNew_fits t es (knd.hash k) x
    have hr1 := layNew_ris t es (knd.hash k) x hr
    have hl1 := layNew_led t es (knd.hash k) x
    generalize layNew t es (knd.hash k) x = Z at pm hf1 hr1 hl1 ⊢
    obtain ⟨es1, t1, wasDummy, gave⟩ := Z
    dsimp only at pm hf1 hr1 hl1 ⊢
    rw [Array.toList_push] at pm
    have hel1 : ElemsOf knd es1.toList := (hel.push hkey hsc).perm pm
    have m1 : ∀ k', (S k' || decide (k' = k)) = true ↔ ∃ e ∈ es1.toList, knd.is k' e.2 = true := mem_push_iff hkey hm pm
    have hsz : es1.size = n + 1 := by rw [← Array.length_toList, pm.length_eq, List.length_append, Array.length_toList, hn]; rfl
    have hb1 : es1.size < scanBound := by rw [hsz]; exact room
    have hled : w.params.followText "set-order" = true ∨ t1.led = true := hl.imp id fun z => by rw [hl1]; exact z
    have fin : ∀ h', Heap.SameBut a s.heap h' → SetRd knd h' a (fun j => S j || decide (j = k)) es1.size → Q true { s with heap := h' } := fun h' sb r => by
      have q := hQ h' sb
      rw [hSk] at q
      rw [hsz] at r
      exact q r
    refine wpAny_bind (hgw _ ?_)
    split
    · refine wpAny_bind ?_
      rw [hashByValue_scannable 8 hsc]
      refine wpAny_pure ?_
      refine setRd_tail ?_ ho hex hd hel1 m1 hb1 ?_ ?_ ?_ ?_
      · intro b s₁ Q' q; cases b <;> first | exact wpAny_pure q | exact wpAny_rule q
      · first | (split <;> first | exact hf1 | exact SetTable.fits_plain_off hf1) | exact hf1
      · first | (split <;> exact hr1) | exact hr1
      · first | (split <;> exact hled) | exact hled
      · intro h' sb r; dsimp only; exact wpAny_pure (fin h' sb r)
    · refine wpAny_bind (wpAny_pure ?_)
      simp only [↓reduceIte]
      refine setRd_tail ?_ ho hex hd hel1 m1 hb1 hf1 hr1 hled ?_
      · intro b s₁ Q' q; cases b <;> first | exact wpAny_pure q | exact wpAny_rule q
      · intro h' sb r; dsimp only; exact wpAny_pure (fin h' sb r)
theorem setRd_fresh {h : Heap} {a : Addr} (g : h.get? a = some (void (!w.params.followText "set-order"))) : SetRd knd h a (fun k => decide (k ∈ firsts ([] : List κ))) 0 := by
  refine ⟨_, #[], 0, _, g, ⟨rfl, rfl, rfl⟩, rfl, fun e he => (by cases he), fun k => ⟨fun q => ?_, fun ⟨e, he, _⟩ => (by cases he)⟩, by decide, rfl, rfl, List.Pairwise.nil, ?_⟩
  · have := of_decide_eq_true q
    cases this
  · cases w.params.followText "set-order" with
    | true => exact .inl rfl
    | false => exact .inr rfl
end
section
variable {κ : Type} [DecidableEq κ] [BEq κ] [LawfulBEq κ] {prog : Program} {w : World} {knd : KeyKind prog w κ}
abbrev SetJs (knd : KeyKind prog w κ) (h : Heap) (a : Addr) (ks : List κ) : Prop := SetRd knd h a (fun k => decide (k ∈ firsts ks)) (firsts ks).length
theorem setJs_snoc {h : Heap} {a : Addr} {ks : List κ} {x : κ} (S : SetRd knd h a (fun k => decide (k ∈ firsts ks) || decide (k = x)) (if decide (x ∈ firsts ks) = true then (firsts ks).length else (firsts ks).length + 1)) : SetJs knd h a (ks ++ [x]) := by
  refine setRd_congr S (fun k => ?_) ?_
  · rw [firsts_snoc]
    by_cases hx : x ∈ firsts ks
    · rw [if_pos hx]
      by_cases hk : k = x
      · rw [hk, decide_eq_true hx]; rfl
      · rw [decide_eq_false hk, Bool.or_false]
    · rw [if_neg hx, Bool.eq_iff_iff, Bool.or_eq_true, decide_eq_true_iff, decide_eq_true_iff, decide_eq_true_iff, List.mem_append, List.mem_singleton]
  · rw [firsts_snoc]
    by_cases hx : x ∈ firsts ks
    · rw [if_pos hx, if_pos (decide_eq_true hx)]
    · rw [if_neg hx, if_neg (fun q => hx (of_decide_eq_true q)), List.length_append]; rfl
theorem setJs_at {h h2 : Heap} {a : Addr} {ks : List κ} (S : SetJs knd h a ks) (k : ∀ o, h.get? a = some o → h2.get? a = some o) : SetJs knd h2 a ks := by
  obtain ⟨o, es, ep, t, ho, r⟩ := S
  exact ⟨o, es, ep, t, k o ho, r⟩
variable {A : Around} {R : Result → Shared → Prop} {I : Addr} {fp wr : List Addr} {G : Array GenState → Array GenState → Prop} {n : Nat} {Pv : Nat → Value → Prop} {St : Nat → Shared → Prop}
/-- the walk that puts all of them into the set -/
theorem upd_walkR (W : WalksS prog w A.in1 I fp wr G n Pv St) (a : Addr) (out : a ∉ fp) (ks : List κ) (len : ks.length = n) (room : n + 1 < scanBound)
    (val : ∀ i v, Pv i v → ∃ k, ks[i]? = some k ∧ knd.is k v = true ∧ v.scannable = true) : ∀ (todo i : Nat) (s : Shared), i + todo = n → St i s → SetJs knd s.heap a (ks.take i) →
      (∀ z, Moved (a :: wr) G s z → SetJs knd z.heap a ks → R (.ok (.ret .none)) z) → codeAny (model prog w) A (.builtin "set.update.loop" ⟨[.ref a, .ref I], []⟩) R s := by
  have nwr : a ∉ wr := fun q => out (W.sub _ q)
  have wide : ∀ b ∈ wr, b ∈ a :: wr := fun b q => List.mem_cons_of_mem _ q
  intro todo
  induction todo with
  | zero =>
    intro i s e st S fin
    obtain rfl : i = n := e
    refine codeAny_builtin F.entry_set_update_loop ?_; rw [Around.under_plainId F.plain_set_update_loop _]
    show wpAny _ A.in1 (pyNext (.ref I) >>= _) _ _ _; refine wpAny_bind (W.done s _ _ st fun z mv => ?_)
    rw [← len, List.take_length] at S
    exact wpAny_pure (fin z (mv.mono wide) (setJs_at S fun o q => mv.heap a o nwr q))
  | succ todo ih =>
    intro i s e st S fin
    have lt : i < n := by omega
    refine codeAny_builtin F.entry_set_update_loop ?_; rw [Around.under_plainId F.plain_set_update_loop _]
    show wpAny _ A.in1 (pyNext (.ref I) >>= _) _ _ _; refine wpAny_bind (W.item i s _ _ lt st fun v z hv sz mv => ?_)
    obtain ⟨k, hk, isk, sck⟩ := val i v hv
    have S1 := setJs_at S fun o q => mv.heap a o nwr q
    show wpAny _ A.in1 (holding [v] (setAdd a v) >>= _) _ _ _; refine wpAny_bind (wpAny_holding ?_)
    unfold setAdd; refine wpAny_holding ?_; refine wpAny_bind (knd.pyHash isk ?_)
    have few : (firsts (ks.take i)).length + 1 < scanBound := by have := firsts_le (ks.take i); rw [List.length_take] at this; omega
    refine setRd_add (knd := knd) (s := { z with toks := z.toks + 1 }) isk sck S1 few fun h2 same S2 => ?_
    have S3 : SetJs knd h2 a (ks.take (i + 1)) := by
      rw [List.take_succ, hk]
      exact setJs_snoc S2
    refine wpAny_pure ⟨plainId_quiet F.plain_set_update_loop _, ih (i + 1) _ (by omega) (W.frame _ z _ _ sz (Nat.le_succ _) fun b q o eo => ?_) S3 fun y my S4 => ?_⟩
    · exact (same.2 b fun u : b = a => out (u ▸ q)).trans eo
    · exact fin y (Moved.trans W.gtrans ((mv.mono wide).then_heap (Nat.le_succ _) fun b o q eo => (same.2 b fun u : b = a => q (u ▸ List.mem_cons_self)).trans eo) my) S4
end
end L2.Vx
namespace L2.Vx
open PySem PySem.Spec PyProof.Rows
section
variable {κ : Type} [DecidableEq κ] [BEq κ] [LawfulBEq κ] {prog : Program} {w : World} {knd : KeyKind prog w κ} {A : Around} {E : Value → Shared → Prop} {s : Shared}
/-- set(xs), xs a list of keys of one kind -/
theorem set_ofR {l : Addr} {its : Array Value} (ks : List κ) {Q : Value → Shared → Prop} (hh : A.handled = none) (hl : s.heap.IsList l its) (sz : its.size = ks.length) (room : ks.length + 1 < scanBound)
    (val : ∀ (i : Nat) (v : Value), its[i]? = some v → ∃ k, ks[i]? = some k ∧ knd.is k v = true ∧ v.scannable = true)
    (fin : ∀ (h2 : Heap) (tk : Nat), SetJs knd h2 s.heap.objs.size ks → (∀ b o, b < s.heap.objs.size → s.heap.get? b = some o → h2.get? b = some o) → Q (.ref s.heap.objs.size) { s with heap := h2, toks := tk }) :
    wpAny (model prog w) A (call (.type "set") [.ref l]) Q E s := by
  obtain ⟨c, tl, hmro⟩ := PySem.F.called_set.mro; have made := PySem.F.called_set.made; have sub := PySem.F.called_set.sub
  refine wpAny_call (codeAny_of_tree ?_); show wpAny _ _ (callAny (.type "set") _) _ _ _
  refine wpAny_pure ⟨Code.quiet_builtin _ (by decide +kernel), codeAny_builtin PySem.F.entry_type_call ?_⟩; rw [Around.under_plain (weight_type_call_type "set" [.ref l] []) rfl]
  have n1 := PySem.F.called_set.notType; have n2 := PySem.F.called_set.canCreate; have n3 := PySem.F.typeCall_set_1 (.ref l)
  repeat (any_goals (first | assumption | wp_step))
  refine codeAny_mono (code_set_led1 (.ref l) (E := E) (Q₁ := fun v z => v = .ref s.heap.objs.size ∧ z = { s with heap := s.heap.push (void (!w.params.followText "set-order")) }) ⟨rfl, rfl⟩) fun r z hr => ?_
  cases r with
  | error e => exact hr
  | ok f =>
    cases f with
    | ret v =>
      obtain ⟨rfl, rfl⟩ := hr
      have at0 : (s.heap.push (void (!w.params.followText "set-order"))).get? s.heap.objs.size = some (void (!w.params.followText "set-order")) := Heap.get?_push_size _ rfl
      have ty : Shared.TypeIs { s with heap := s.heap.push (void (!w.params.followText "set-order")) } (.ref s.heap.objs.size) "set" := ⟨_, at0, rfl⟩
      have il := PySem.F.called_set.init.lookup; have ib := PySem.F.called_set.init.bind (.ref s.heap.objs.size)
      repeat (any_goals (first | assumption | wp_step))
      refine codeAny_mono (codeAny_call_builtin (R := wants (fun r y => r = .none ∧ ∃ h2 tk, y = { s with heap := h2, toks := tk } ∧ SetJs knd h2 s.heap.objs.size ks ∧ (∀ b o, b < s.heap.objs.size → s.heap.get? b = some o → h2.get? b = some o)) E)
        PySem.F.called_set.init.plain PySem.F.entry_set_init (check_set_init_1 ty ?_)) fun r y hy => ?_
      · have lt : l < s.heap.objs.size := by
          obtain ⟨o, ho, _⟩ := hl
          exact Heap.lt_size ho
        have l1 : (s.heap.push (void (!w.params.followText "set-order"))).IsList l its := hl.push _
        obtain ⟨o, ho, oc, m, od⟩ := hl
        obtain ⟨oc', odi, oda, osl⟩ := o
        simp only at oc od; subst oc; subst od
        have ho1 : (s.heap.push (void (!w.params.followText "set-order"))).get? l = some { cls := .type "list", dict := odi, data := .seq its m, slots := osl } := Heap.get?_push_of_some _ ho
        have u1 := PySem.F.sub_list_set; have u2 := PySem.F.sub_list_frozenset; have u3 : (Value.type "list" == Value.type "dict") = false := by decide
        unfold Builtin.«set.__init__» noKeywords Builtin.Frozenset.updateFrom; generalize hp : pyIter = PI
        wp_walk
        subst hp
        refine wpAny_pyIter_list l1 ?_; refine wpAny_bind (wpAny_runValue ?_)
        have h3 : A.in1.in1.in1.handled = none := by simp [hh]
        have big : (s.heap.push (void (!w.params.followText "set-order"))).objs.size = s.heap.objs.size + 1 := Heap.size_push ..
        have ne : l ≠ (s.heap.push (void (!w.params.followText "set-order"))).objs.size := by rw [big]; exact Nat.ne_of_lt (Nat.lt_succ_of_lt lt)
        have out : s.heap.objs.size ∉ [(s.heap.push (void (!w.params.followText "set-order"))).objs.size, l] := by
          rw [big]; intro q; rcases List.mem_cons.mp q with q | q
          · exact Nat.ne_of_lt (Nat.lt_succ_self _) q
          · exact Nat.ne_of_gt lt (List.mem_singleton.mp q)
        refine upd_walkR (knd := knd) ((Walks.list h3 _ l ne its).toS) s.heap.objs.size out ks sz.symm (by rw [sz]; exact room) val its.size 0 _ (Nat.zero_add _) ⟨⟨_, Heap.get?_push_size _ rfl, rfl, rfl⟩, (l1.push _)⟩ ?S0 ?done
        case S0 =>
          have g : ((s.heap.push (void (!w.params.followText "set-order"))).push { cls := .type "list_iterator", data := .fields #[.ref l, .int 0 0] }).get? s.heap.objs.size = some (void (!w.params.followText "set-order")) := Heap.get?_push_of_some _ at0
          exact setRd_fresh g
        case done =>
          intro z mv S
          obtain ⟨h2, g2, d2, t2, o2⟩ := z
          obtain rfl : g2 = s.gens := mv.gens
          obtain rfl : d2 = s.drawn := mv.drawn
          obtain rfl : o2 = s.os := mv.os
          show wpAny _ _ _ _ _ _; refine wpAny_pure ?_; show wpAny _ _ (ret Value.none) _ _ _
          refine wpAny_pure ⟨rfl, h2, t2, rfl, S, fun b o hb e => mv.heap b o (fun q => ?_) (Heap.get?_push_of_some _ (Heap.get?_push_of_some _ e))⟩
          rcases List.mem_cons.mp q with q | q
          · exact Nat.ne_of_lt hb q
          · have := List.mem_singleton.mp q
            rw [big] at this; exact Nat.ne_of_lt (Nat.lt_succ_of_lt hb) this
      · cases r with
        | error e => exact hy
        | ok f =>
          cases f with
          | ret r =>
            obtain ⟨rfl, h2, tk, rfl, S, old⟩ := hy
            repeat (any_goals (first | assumption | wp_step))
            exact fin _ _ S old
          | _ => exact hy.elim
    | _ => exact hr.elim
end
end L2.Vx

set_option Elab.async false
set_option linter.all false
set_option maxRecDepth 100000
set_option maxHeartbeats 3200000
namespace L2.Vx
open PySem PySem.Spec PyProof.Rows L2
/-! ### sorted(set(xs)), texts -/
theorem perm_of_len {α : Type} [DecidableEq α] : ∀ (F L : List α), F.Nodup → (∀ x ∈ F, x ∈ L) → L.length = F.length → L.Perm F
  | [], L, _, _, h => by rw [List.length_eq_zero_iff.mp h]
  | f :: F, L, nd, hs, h => by
    obtain ⟨nf, nF⟩ := List.nodup_cons.mp nd
    have hf := hs f (List.mem_cons_self ..)
    have p1 : L.Perm (f :: L.erase f) := List.perm_cons_erase hf
    refine p1.trans (List.Perm.cons f (perm_of_len F _ nF (fun x hx => ?_) ?_))
    · exact (List.mem_erase_of_ne (fun e : x = f => nf (by rw [← e]; exact hx))).mpr (hs x (List.mem_cons_of_mem _ hx))
    · rw [List.length_erase_of_mem hf, h, List.length_cons, Nat.add_sub_cancel]
section
variable {P : Program} {w : World} {A : Around} {E : Value → Shared → Prop} {s : Shared} {a : Addr}
theorem strs_ex : ∀ (vs : List Value), (∀ v ∈ vs, ∃ x t, v = Value.str x t) → ∃ ss, StrsAre vs ss
  | [], _ => ⟨[], .nil⟩
  | v :: vs, h => by
    obtain ⟨x, t, rfl⟩ := h v (List.mem_cons_self ..)
    obtain ⟨ss, q⟩ := strs_ex vs fun u hu => h u (List.mem_cons_of_mem _ hu)
    exact ⟨x :: ss, .cons x t q⟩
theorem strs_mem {vs : List Value} {ss : List Str} (h : StrsAre vs ss) {x : Str} {t : Tok} (hv : Value.str x t ∈ vs) : x ∈ ss := by
  induction h with
  | nil => cases hv
  | cons y k _ ih =>
    rcases List.mem_cons.mp hv with e | hv
    · injection e with e1 e2
      rw [e1]
      exact List.mem_cons_self ..
    · exact List.mem_cons_of_mem _ (ih hv)
theorem sorted_setJ {xs : List Str} {Q : Value → Shared → Prop} (R : SetJs (PySem.strKind P w) s.heap a xs) (hh : A.handled = none) (h64 : (firsts xs).length < 64)
    (hQ : ∀ s' p (out : Array Value) (c : Nat) (ys : List Str), (∀ b o, s.heap.get? b = some o → s'.heap.get? b = some o) → s'.gens = s.gens → s'.os = s.os → s.heap.objs.size ≤ p →
      s'.heap.get? p = some (seqObj "list" out c) → StrsAre out.toList ys → ys.Perm (firsts xs) → sortedS ys = true → Q (.ref p) s') :
    wpAny (model P w) A (call (.builtin "sorted") [.ref a]) Q E s := by
  obtain ⟨o, es, ep, t, ho, hex, hd, hel, hm, hb, hf, hn, hr, hl⟩ := R
  refine Calls.call_function_entry kind_sorted plain_sorted entry_sorted (args_sorted1 _) ?_
  unfold Builtin.«sorted»
  refine wpAny_bind (m := checkCount "sorted" 1 1 _) (wpAny_pure ?_)
  refine wpAny_bind (collect_set (A := A.in1) hh ⟨o, ho, hex.1, hd⟩ hf hb hr hl fun s1 vs k1 hz g1 o1 pm => ?_)
  have hvl : vs.length = (firsts xs).length := by rw [pm.length_eq, List.length_map, Array.length_toList]; exact hn
  obtain ⟨ss, hS⟩ := strs_ex vs fun v hv => by
    obtain ⟨e, he, q⟩ := List.mem_map.mp (pm.mem_iff.mp hv)
    obtain ⟨⟨k, hk, _⟩, _⟩ := hel e he
    obtain ⟨u, hu⟩ := Value.isStrOf_shape hk
    exact ⟨k, u, by rw [← q]; exact hu⟩
  have hss : ss.Perm (firsts xs) := by
    refine perm_of_len _ _ (firsts_nodup xs) (fun x hx => ?_) ?_
    · obtain ⟨e, he, hk⟩ := (hm x).1 (decide_eq_true hx)
      obtain ⟨u, hu⟩ := Value.isStrOf_shape hk
      refine strs_mem hS (t := u) ?_
      rw [← hu]
      exact pm.mem_iff.mpr (List.mem_map.mpr ⟨e, he, rfl⟩)
    · rw [← StrsAre.len_eq hS, hvl]
  refine wpAny_bind (wpAny_newList ?_ (by rw [hvl, sizeLine_eq]; omega))
  have hoL : (s1.heap.push (seqObj "list" vs.toArray 0)).get? s1.heap.objs.size = some (seqObj "list" vs.toArray 0) := Heap.get?_push_size _ rfl
  refine wpAny_bind (wpAny_holding (wpAny_call_entry slot_list_sort ⟨_, hoL, rfl⟩ entry_list_sort
    (list_sort_treeK strKind_oneLt (s := { s1 with heap := s1.heap.push (seqObj "list" vs.toArray 0) }) hoL hS.keysOf (fun v₁ v₂ rest e => keyKind_strs (by rw [← e]; exact hS)) (by rw [hvl]; exact h64) fun st' hp hs => ⟨_, rfl, ?_⟩) (args_list_sort _)))
  obtain ⟨ys, q1, q2, q3⟩ := sorted_out_str hS hp hs
  obtain ⟨c, hc⟩ := sortedHeap_at (vs := vs) (out := (arrOf st').map (·.2)) hoL
  refine wpAny_pure ⟨_, rfl, hQ _ s1.heap.objs.size _ c ys (fun b u e => ?_) g1 o1 hz hc q1 (q2.trans hss) q3⟩
  have q := k1 b u e
  have hlt := Heap.lt_size q
  show (sortedHeap (s1.heap.push (seqObj "list" vs.toArray 0)) s1.heap.objs.size vs _).get? b = some u
  rw [sortedHeap_old (Nat.ne_of_lt hlt) (by rw [size_push']; exact Nat.lt_succ_of_lt hlt)]
  exact Heap.get?_push_of_some _ q
end
section
variable {X : Cx}
/-- the set of these texts at a, its table in order -/
def SetK (P : Program) (w : World) (a : Addr) (xs : List Str) : HO := .ext fun h => SetJs (PySem.strKind P w) h a xs
theorem setK_new {P : Program} {w : World} {H : Hp} {h : Heap} {a : Addr} {xs : List Str} (S : SetJs (PySem.strKind P w) h a xs) : ObjOk P w H h a (SetK P w a xs) := by
  have ⟨o, _, _, _, ho, _⟩ := S
  exact ⟨S, ⟨o, ho⟩, fun _ _ p k => setJs_at p k⟩
def rSetK (K : PySem.W.Frag) (P : Program) (w : World) : List V → Hp → VK → Prop := fun vs H Q => ∃ (l : Addr) (xs : List Str), vs = [.ref l] ∧ SqL K H l (xs.map V.str) ∧ xs.length + 1 < scanBound ∧ ∀ p, H p = none → Q (.ref p) (upd H p (SetK P w p xs))
theorem cr_setK (hc : X.calm = true) : CallR X (.type "set") (rSetK X.K X.prog X.w) := by
  intro pins s σ H vs us Q I r h
  obtain ⟨l, xs, rfl, hq, room, q⟩ := h
  cases r with
  | cons ry rt =>
    cases rt
    cases ry
    obtain ⟨its, rv, pl, hz⟩ := I.list hq
    refine set_ofR (knd := PySem.strKind X.prog X.w) xs (I.ok.hd hc) pl.isList (by rw [List.size_toArray, ← rv.length, List.length_map]) room (fun i v hv => ?_) fun h2 tk S old => ?_
    · obtain ⟨x, t, hx, rfl⟩ := str_at rv i v (by simpa using hv)
      exact ⟨x, hx, strKind_is _ _ _ _, rfl⟩
    · exact ⟨.ref _, upd H s.heap.objs.size (SetK X.prog X.w s.heap.objs.size xs), I.laid (t' := tk) (fun b u e => old b u (Heap.lt_size e) e) (Nat.le_refl _) (setK_new S), rfl, q _ (I.hok.fresh (Nat.le_refl _))⟩
/-- sorted(found), a set of texts, fewer than 64 -/
def rSortSetK (P : Program) (w : World) : List V → Hp → VK → Prop := fun vs H Q => ∃ (a : Addr) (xs : List Str), vs = [V.ref a] ∧ H a = some (SetK P w a xs) ∧ (firsts xs).length < 64 ∧
  ∀ (ys : List Str) (p : Addr), ys.Perm (firsts xs) → sortedS ys = true → H p = none → Q (.ref p) (upd H p (.lst (ys.map V.str)))
theorem cr_sortedK (hc : X.calm = true) : CallR X (.builtin "sorted") (rSortSetK X.prog X.w) := by
  intro pins s σ H vs us Q I r h
  obtain ⟨a, xs, rfl, ha, h64, q⟩ := h
  have R : SetJs (PySem.strKind X.prog X.w) s.heap a xs := (I.hok a _ ha).1
  rw [Vals.ref1 r]
  refine sorted_setJ R (I.ok.hd hc) h64 fun s' p out c ys k g o hp hg hS hpm hso => ?_
  have hlen : (ys.map V.str).length ≤ sizeLine := by rw [List.length_map, hpm.length_eq, sizeLine_eq]; omega
  have hn : H p = none := I.hok.fresh hp
  have J : Inv X pins σ (upd H p (.lst (ys.map V.str))) { s with heap := s'.heap, gens := s'.gens, drawn := s'.drawn, toks := s'.toks } :=
    I.call (ch := []) (Un.laid k hp hn) (I.hok.laid k hp ⟨hlen, out.toList, c, vals_of_strs hS, by rw [Array.toArray_toList]; exact hg⟩) (by rw [g]; exact I.bare) (fun _ z => nomatch z)
  have e : s' = { s with heap := s'.heap, gens := s'.gens, drawn := s'.drawn, toks := s'.toks } := by
    cases s'
    cases s
    cases o
    rfl
  rw [e]
  exact ⟨.ref p, _, J, rfl, q ys p hpm hso hn⟩
end
end L2.Vx

set_option Elab.async false
set_option linter.all false
set_option maxRecDepth 100000
set_option maxHeartbeats 3200000
namespace L2.Vx
open PySem PySem.Spec PyProof.Rows L2
/-! ### [.. for .. in .. for .. in ..]: the walks -/
theorem lc2_it {J : It} {n : Nat} {G : Hp → Prop} {Y : Nat → Hp → V → Hp → Prop} (w : Walk J n G Y) {g : TG} {tt : TT} {B : St → Hp → (Hp → Prop) → Prop} {vs : List Nat} {σ : St} {H1 : Hp} {D : Addr} {Qd : Hp → Prop} (Pv : Nat → Hp → Prop) (h0 : Pv 0 (upd H1 D (.lst []))) (hG : ∀ i H, i ≤ n → Pv i H → G H)
    (hs : ∀ i x H H', i < n → Pv i H → Y i H x H' → g x (wipe σ vs) H' fun σ2 H2 => wipe σ2 vs = wipe σ vs ∧ tt σ2 H2 fun b H3 => if b = true then B σ2 H3 (Pv (i + 1)) else Pv (i + 1) H3) (hd : ∀ H, Pv n H → Qd H) :
    ∃ W : Nat → Nat → Hp → Prop, (∃ m, W 0 m (upd H1 D (.lst []))) ∧ ∀ i m H, W i m H →
      (J.stop i H ∧ Qd H) ∨ (J.go i H ∧ ∃ Nx : Hp → Prop, (∀ H', Nx H' → ∃ m', m' < m ∧ W (i + 1) m' H') ∧ ∀ x H', J.yld i H x H' → g x (wipe σ vs) H' fun σ2 H2 => wipe σ2 vs = wipe σ vs ∧ tt σ2 H2 fun b H3 =>
        if b = true then B σ2 H3 Nx else Nx H3) := by
  refine ⟨fun i m H => m = n - i ∧ i ≤ n ∧ Pv i H, ⟨n, by simp, Nat.zero_le _, h0⟩, ?_⟩
  rintro i m H ⟨rfl, hi, p⟩
  have q := hG i H hi p
  by_cases hlt : i < n
  · refine .inr ⟨w.goes i H hlt q, Pv (i + 1), fun H' p' => ⟨n - (i + 1), by omega, rfl, hlt, p'⟩, fun x H' y => hs i x H H' hlt p (w.yields i H x H' hlt q y)⟩
  · have e : i = n := by omega
    subst e
    exact .inl ⟨w.stops H q, hd H p⟩
theorem lc_in {J : It} {n : Nat} {G : Hp → Prop} {Y : Nat → Hp → V → Hp → Prop} (w : Walk J n G Y) {g : TG} {tt : TT} {te : TE} {vs : List Nat} {σ : St} {H1 : Hp} {D : Addr} {Nx : Hp → Prop} (Pv : Nat → Hp → Prop) (h0 : Pv 0 H1) (hG : ∀ i H, i ≤ n → Pv i H → G H)
    (hs : ∀ i x H H', i < n → Pv i H → Y i H x H' → g x (wipe σ vs) H' fun σ2 H2 => wipe σ2 vs = wipe σ vs ∧ tt σ2 H2 fun b H3 =>
      if b = true then te σ2 H3 fun y H4 => ∃ acc, H4 D = some (.lst acc) ∧ acc.length < sizeLine ∧ Pv (i + 1) (upd H4 D (.lst (acc ++ [y]))) else Pv (i + 1) H3) (hd : ∀ H, Pv n H → Nx H) :
    ∃ W1 : Nat → Nat → Hp → Prop, (∃ m, W1 0 m H1) ∧ ∀ j k H, W1 j k H →
      (J.stop j H ∧ Nx H) ∨ (J.go j H ∧ ∃ Nx1 : Hp → Prop, (∀ H', Nx1 H' → ∃ k', k' < k ∧ W1 (j + 1) k' H') ∧ ∀ x H', J.yld j H x H' → g x (wipe σ vs) H' fun σ3 H5 => wipe σ3 vs = wipe σ vs ∧ tt σ3 H5 fun b H6 =>
        if b = true then te σ3 H6 fun y H7 => ∃ acc, H7 D = some (.lst acc) ∧ acc.length < sizeLine ∧ Nx1 (upd H7 D (.lst (acc ++ [y]))) else Nx1 H6) := by
  refine ⟨fun i m H => m = n - i ∧ i ≤ n ∧ Pv i H, ⟨n, by simp, Nat.zero_le _, h0⟩, ?_⟩
  rintro i m H ⟨rfl, hi, p⟩
  have q := hG i H hi p
  by_cases hlt : i < n
  · refine .inr ⟨w.goes i H hlt q, Pv (i + 1), fun H' p' => ⟨n - (i + 1), by omega, rfl, hlt, p'⟩, fun x H' y => hs i x H H' hlt p (w.yields i H x H' hlt q y)⟩
  · have e : i = n := by omega
    subst e
    exact .inl ⟨w.stops H q, hd H p⟩
end L2.Vx

set_option Elab.async false
set_option linter.all false
set_option maxRecDepth 100000
set_option maxHeartbeats 3200000
namespace L2.Vx
open PySem PySem.Spec PyProof.Rows L2
/-! ### {.. for .. in ..}: any walk -/
theorem dc_it {J : It} {n : Nat} {G : Hp → Prop} {Y : Nat → Hp → V → Hp → Prop} (w : Walk J n G Y) {g : TG} {tt : TT} {tk tv : TE} {vs : List Nat} {σ : St} {H1 : Hp} {D : Addr} {Qd : Hp → Prop} (Pv : Nat → Hp → Prop) (h0 : Pv 0 (upd H1 D (.dK []))) (hG : ∀ i H, i ≤ n → Pv i H → G H)
    (hs : ∀ i x H H', i < n → Pv i H → Y i H x H' → g x (wipe σ vs) H' fun σ2 H2 => wipe σ2 vs = wipe σ vs ∧ tt σ2 H2 fun b H3 =>
      if b = true then tk σ2 H3 fun y H4 => tv σ2 H4 fun z H5 => ∃ kvs k, y = kV k ∧ H5 D = some (.dK kvs) ∧ kvs.length < sizeLine ∧ Pv (i + 1) (upd H5 D (.dK (putK kvs k z))) else Pv (i + 1) H3) (hd : ∀ H, Pv n H → Qd H) :
    ∃ W : Nat → Nat → Hp → Prop, (∃ m, W 0 m (upd H1 D (.dK []))) ∧ ∀ i m H, W i m H →
      (J.stop i H ∧ Qd H) ∨ (J.go i H ∧ ∃ Nx : Hp → Prop, (∀ H', Nx H' → ∃ m', m' < m ∧ W (i + 1) m' H') ∧ ∀ x H', J.yld i H x H' → g x (wipe σ vs) H' fun σ2 H2 => wipe σ2 vs = wipe σ vs ∧ tt σ2 H2 fun b H3 =>
        if b = true then tk σ2 H3 fun y H4 => tv σ2 H4 fun z H5 => ∃ kvs k, y = kV k ∧ H5 D = some (.dK kvs) ∧ kvs.length < sizeLine ∧ Nx (upd H5 D (.dK (putK kvs k z))) else Nx H3) := by
  refine ⟨fun i m H => m = n - i ∧ i ≤ n ∧ Pv i H, ⟨n, by simp, Nat.zero_le _, h0⟩, ?_⟩
  rintro i m H ⟨rfl, hi, p⟩
  have q := hG i H hi p
  by_cases hlt : i < n
  · refine .inr ⟨w.goes i H hlt q, Pv (i + 1), fun H' p' => ⟨n - (i + 1), by omega, rfl, hlt, p'⟩, fun x H' y => hs i x H H' hlt p (w.yields i H x H' hlt q y)⟩
  · have e : i = n := by omega
    subst e
    exact .inl ⟨w.stops H q, hd H p⟩
end L2.Vx

set_option Elab.async false
set_option linter.all false
set_option maxRecDepth 100000
set_option maxHeartbeats 3200000
namespace L2.Vx
open PySem PySem.Spec PyProof.Rows L2
/-! ### zip of two tuples -/
theorem walk_zipT {K : PySem.W.Frag} {a b : Addr} {xs ys : List V} {n : Nat} (hn : n = min xs.length ys.length) : Walk (RZ.ItzT K a b) n (fun H => SqT K H a xs ∧ SqT K H b ys) (YPair (fun i => xs[i]?) (fun i => ys[i]?)) := by
  subst hn
  refine ⟨fun i _ hi q => ?_, fun _ q => ⟨xs, ys, q.1, q.2, by omega⟩, fun i H v H' _ q y => ?_⟩
  · have h1 : i < xs.length := by omega
    have h2 : i < ys.length := by omega
    exact ⟨xs, ys, xs[i], ys[i], q.1, q.2, by simp [h1], by simp [h2]⟩
  · obtain ⟨T, x, z, h1, h2, h3, h4, h5⟩ := y
    exact ⟨T, x, z, h1, h2, h3, h4 xs q.1, h5 ys q.2⟩
theorem cut1 (xs : List V) : cutV xs (some 1) none = xs.drop 1 := by
  unfold cutV
  rw [show (1 : Int) = ((1 : Nat) : Int) from rfl, HT.sIx_nat, HT.sIx_none]
  have e : xs.drop (min 1 xs.length) = xs.drop 1 := by
    by_cases h : 1 ≤ xs.length
    · rw [Nat.min_eq_left h]
    · rw [Nat.min_eq_right (by omega), List.drop_of_length_le (by omega), List.drop_of_length_le (by omega)]
  rw [e]
  exact List.take_of_length_le (by rw [List.length_drop]; omega)
theorem cut01 (xs : List V) : cutV xs none (some 1) = xs.take 1 := by
  unfold cutV
  rw [show (1 : Int) = ((1 : Nat) : Int) from rfl, HT.sIx_nat, HT.sIx_none, Nat.sub_zero, List.drop_zero]
  by_cases h : 1 ≤ xs.length
  · rw [Nat.min_eq_left h]
  · rw [Nat.min_eq_right (by omega), List.take_of_length_le (by omega), List.take_of_length_le (by omega)]
theorem cut0n (xs : List V) (n : Nat) : cutV xs none (some (n : Int)) = xs.take n := by
  unfold cutV
  rw [HT.sIx_nat, HT.sIx_none, Nat.sub_zero, List.drop_zero]
  by_cases h : n ≤ xs.length
  · rw [Nat.min_eq_left h]
  · rw [Nat.min_eq_right (by omega), List.take_of_length_le (by omega), List.take_of_length_le (by omega)]
/-! ### data that may be shown, with ints of up to 90 figures -/
def sOk (d : PyData) : Bool := d.showable && (!d.hasDict && PyData.leavesShort 92 d)
def sOkAll (ds : List PyData) : Bool := PyData.showableAll ds && (!PyData.hasDictAll ds && PyData.leavesShortAll 92 ds)
theorem sOk_tuple {ds : List PyData} (h : sOkAll ds = true) : sOk (.tuple ds) = true := by
  unfold sOk PyData.showable PyData.hasDict PyData.leavesShort
  exact h
theorem sOk_list {ds : List PyData} (h : sOkAll ds = true) : sOk (.list ds) = true := by
  unfold sOk PyData.showable PyData.hasDict PyData.leavesShort
  exact h
theorem sOk_nil : sOkAll [] = true := rfl
theorem sOk_cons {d : PyData} {ds : List PyData} (h : sOk d = true) (h2 : sOkAll ds = true) : sOkAll (d :: ds) = true := by
  unfold sOk at h
  unfold sOkAll at h2 ⊢
  obtain ⟨a1, h⟩ := Bool.and_eq_true_iff.mp h
  obtain ⟨a2, a3⟩ := Bool.and_eq_true_iff.mp h
  obtain ⟨b1, h2⟩ := Bool.and_eq_true_iff.mp h2
  obtain ⟨b2, b3⟩ := Bool.and_eq_true_iff.mp h2
  unfold PyData.showableAll PyData.hasDictAll PyData.leavesShortAll
  rw [a1, a3, b1, b3, Bool.not_or, a2, b2]
  rfl
theorem sOk_all : ∀ {ds : List PyData}, (∀ d ∈ ds, sOk d = true) → sOkAll ds = true
  | [], _ => rfl
  | d :: ds, h => sOk_cons (h d (List.mem_cons_self ..)) (sOk_all fun e he => h e (List.mem_cons_of_mem _ he))
theorem sOk_str {x : Str} (h : ∀ c ∈ x.cps.toList, c < 16 ^ 8) : sOk (.str x) = true := by
  have e : (x.cps.toList.all fun c => decide (c < 16 ^ 8)) = true := List.all_eq_true.mpr fun c hc => decide_eq_true (h c hc)
  unfold sOk PyData.showable PyData.hasDict PyData.leavesShort
  rw [e]
  rfl
theorem sOk_non : sOk .none = true := rfl
theorem sOk_bl (b : Bool) : sOk (.bool b) = true := rfl
theorem sOk_int {i : Int} (h : i.natAbs < 10 ^ 90) : sOk (.int i) = true := by
  have h1 : i.natAbs.log2 < 1920 := by
    by_cases h0 : i.natAbs = 0
    · rw [h0]; decide +kernel
    · exact (Nat.log2_lt h0).mpr (Nat.lt_of_lt_of_le h (by decide +kernel))
  have h2 : (toString i).length ≤ 91 := int_text_length_le10 (k := 90) (by decide) h
  have h3 : (PyData.shown (.int i)).length ≤ 92 := by
    have e : PyData.shown (.int i) = Str.ofString (toString i) := by unfold PyData.shown; rfl
    rw [e]
    have : (Str.ofString (toString i)).length = (toString i).length := PySem.ofString_length _
    omega
  unfold sOk PyData.showable PyData.hasDict PyData.leavesShort
  rw [decide_eq_true h1, decide_eq_true h3]
  rfl
theorem show_s {d : PyData} (h : sOk d = true) (hd : d.depth ≤ 60) (hb : d.bulk ≤ 9000) : shOk d = true ∧ d.depth ≤ 60 ∧ d.shown.length ≤ sizeLine := by
  unfold sOk at h
  obtain ⟨a, h⟩ := Bool.and_eq_true_iff.mp h
  obtain ⟨b, c⟩ := Bool.and_eq_true_iff.mp h
  refine ⟨?_, hd, ?_⟩
  · unfold shOk
    rw [a, b]
    rfl
  · refine Nat.le_trans (PyData.shown_le_bulk 92 (by decide) _ c) ?_
    exact Nat.le_trans (by omega : (92 + 2) * d.bulk + 92 ≤ 1000008) (by decide)
end L2.Vx

set_option Elab.async false
set_option linter.all false
set_option maxRecDepth 100000
set_option maxHeartbeats 3200000
namespace L2.Vx
open PySem PySem.Spec PyProof.Rows L2
open PySem.Sem (wp)
/-! ### zip of a tuple and a list -/
section
variable {prog : Program} {w : World} {A : Around} {E : Value → Shared → Prop} {s : Shared}
theorem tl_item {z B O p q t l : Addr} {m n : Nat} {us vs : Array Value} {u v a b : Value} {Q : Value → Shared → Prop} (D : ZipApart z B O p q t l)
    (hz : IsZip s.heap z B O .none) (hB : IsPair s.heap B (.ref p) (.ref q)) (hO : IsPair s.heap O a b) (hp : s.heap.IsTupleIter p t m) (hq : s.heap.IsListIter q l n)
    (ht : s.heap.IsTuple t us) (hl : s.heap.IsList l vs) (hu : us[m]? = some u) (hv : vs[n]? = some v)
    (hQ : ∀ g, IsZip g z B O (rawInt s.heap.objs.size) → IsPair g O u v → g.IsTupleIter p t (m + 1) → g.IsListIter q l (n + 1) → IsPair g s.heap.objs.size u v → g.objs.size = s.heap.objs.size + 1 →
      (∀ c o, c ≠ z → c ≠ O → c ≠ p → c ≠ q → s.heap.get? c = some o → g.get? c = some o) → Q (.ref s.heap.objs.size) { s with heap := g }) :
    wpAny (model prog w) A (Builtin.«zip.__next__» ⟨[.ref z], []⟩) (fun fin s' => ∃ r, fin = .done (.ret r) ∧ Q r s') E s := by
  show wpAny _ _ (field (.ref z) 2 >>= _) _ _ _; refine wpAny_bind (wpAny_field hz rfl (x := .bool false) rfl ?_)
  show wpAny _ _ (field (.ref z) 3 >>= _) _ _ _; refine wpAny_bind (wpAny_field hz rfl (x := .ref B) rfl ?_)
  refine wpAny_bind (wpAny_seqItems hB rfl ?_)
  show wpAny _ _ (Builtin.SmallTypes.ownedTupleIsFree (.ref z) >>= _) _ _ _; refine wpAny_bind ?_; unfold Builtin.SmallTypes.ownedTupleIsFree
  refine wpAny_bind (wpAny_field hz rfl (x := .none) rfl (wpAny_pure ?_)); simp only [if_true]
  refine wpAny_bind (wpAny_rule ?_)
  refine wpAny_bind (wpAny_field hz rfl (x := .ref O) rfl ?_)
  refine wpAny_bind (wpAny_setField_rec hz (by simp) fun g1 z1 e1 => ?_)
  replace z1 : IsZip g1 z B O .ellipsis := z1
  refine wpAny_bind ?_; simp only [List.zipIdx_cons, List.zipIdx_nil, List.forIn_cons, List.forIn_nil]
  refine wpAny_bind (wpAny_bind (wpAny_onRaise ?_)); show wpAny _ _ (Builtin.SmallTypes.nextOf (.ref p) >>= _) _ _ _
  refine wpAny_bind (RZ.nextOf_tuple_item (hp.extBut e1.extBut D.i1z) (ht.extBut e1.extBut D.l1z) hu fun g2 p2 e2 => wpAny_pure ?_)
  have O2 : IsPair g2 O a b := e2.extBut _ _ D.TOi1 (e1.extBut _ _ D.TOz hO)
  refine wpAny_bind (wpAny_seqItems O2 rfl ?_); refine wpAny_bind (wpAny_updateSeq_pair O2 fun g3 O3 e3 => ?_)
  replace O3 : IsPair g3 O u b := O3
  refine wpAny_bind (wpAny_letGo (wpAny_pure ?_)); refine wpAny_bind (wpAny_bind (wpAny_onRaise ?_))
  show wpAny _ _ (Builtin.SmallTypes.nextOf (.ref q) >>= _) _ _ _
  refine wpAny_bind (wpAny_nextOf_list_item (((hq.extBut e1.extBut D.i2z).extBut e2.extBut D.i12.symm).extBut e3.extBut D.TOi2.symm) (((hl.extBut e1.extBut D.l2z).extBut e2.extBut D.l2i1).extBut e3.extBut D.l2TO) hv fun g4 q4 e4 => wpAny_pure ?_)
  have O4 : IsPair g4 O u b := e4.extBut _ _ D.TOi2 O3
  refine wpAny_bind (wpAny_seqItems O4 rfl ?_); refine wpAny_bind (wpAny_updateSeq_pair O4 fun g5 O5 e5 => ?_)
  replace O5 : IsPair g5 O u v := O5
  refine wpAny_bind (wpAny_letGo (wpAny_pure (wpAny_pure ?_))); refine wpAny_bind (wpAny_seqItems O5 rfl ?_); refine wpAny_bind (wpAny_newTuple ?_)
  have sz : g5.objs.size = s.heap.objs.size := by rw [e5.1, e4.1, e3.1, e2.1, e1.1]
  have z5 : IsZip g5 z B O .ellipsis := e5.extBut _ _ D.TOz.symm (e4.extBut _ _ D.i2z.symm (e3.extBut _ _ D.TOz.symm (e2.extBut _ _ D.i1z.symm z1)))
  have keep : ∀ c o, c ≠ z → c ≠ O → c ≠ p → c ≠ q → s.heap.get? c = some o → g5.get? c = some o := fun c o n1 n2 n3 n4 x =>
    e5.extBut _ _ n2 (e4.extBut _ _ n4 (e3.extBut _ _ n2 (e2.extBut _ _ n3 (e1.extBut _ _ n1 x))))
  have p5 : g5.IsTupleIter p t (m + 1) := ((p2.extBut e3.extBut D.TOi1.symm).extBut e4.extBut D.i12).extBut e5.extBut D.TOi1.symm
  have q5 : g5.IsListIter q l (n + 1) := q4.extBut e5.extBut D.TOi2.symm
  have lz : z < g5.objs.size := Heap.lt_size z5
  show wpAny _ _ (Builtin.SmallTypes.ownedTupleHandOut (.ref z) (.ref g5.objs.size) >>= _) _ _ _; refine wpAny_bind ?_; unfold Builtin.SmallTypes.ownedTupleHandOut
  have z6 : IsZip (g5.push { cls := .type "tuple", data := .seq #[u, v] }) z B O .ellipsis := Heap.get?_push_of_some _ z5
  refine wpAny_bind (wpAny_setField_rec z6 (by simp) fun g7 z7 e7 => ?_)
  replace z7 : IsZip g7 z B O (rawInt g5.objs.size) := z7
  refine wpAny_setField_rec z7 (by simp) fun g8 z8 e8 => ?_
  replace z8 : IsZip g8 z B O (rawInt g5.objs.size) := z8
  have up : ∀ c o, c ≠ z → g5.get? c = some o → g8.get? c = some o := fun c o n1 x => e8.extBut _ _ n1 (e7.extBut _ _ n1 (Heap.get?_push_of_some _ x))
  have T8 : IsPair g8 g5.objs.size u v := e8.extBut _ _ (Nat.ne_of_gt lz) (e7.extBut _ _ (Nat.ne_of_gt lz) (Heap.get?_push_size _ rfl))
  have sz8 : g8.objs.size = g5.objs.size + 1 := by rw [e8.1, e7.1, Heap.size_push]
  rw [sz] at z8 T8 sz8
  refine wpAny_pure ⟨_, rfl, ?_⟩; show Q (.ref g5.objs.size) _; rw [sz]
  exact hQ g8 z8 (up _ _ D.TOz O5) (p5.at fun o x => up _ o D.i1z x) (q5.at fun o x => up _ o D.i2z x) T8 sz8 fun c o n1 n2 n3 n4 x => up c o n1 (keep c o n1 n2 n3 n4 x)
theorem tl_end {z B O p q t l : Addr} {m n : Nat} {us vs : Array Value} {a b : Value} {Q : Fin → Shared → Prop} (hh : A.handled = none) (D : ZipApart z B O p q t l)
    (hz : IsZip s.heap z B O .none) (hB : IsPair s.heap B (.ref p) (.ref q)) (hO : IsPair s.heap O a b) (hp : s.heap.IsTupleIter p t m) (hq : s.heap.IsListIter q l n)
    (ht : s.heap.IsTuple t us) (hl : s.heap.IsList l vs) (he : us[m]? = none ∨ vs[n]? = none)
    (hE : ∀ g e, (∀ c o, c ≠ z → c ≠ O → c ≠ p → c ≠ q → s.heap.get? c = some o → g.get? c = some o) → (∃ o, g.get? e = some o ∧ o.cls = .type "StopIteration") → E (.ref e) { s with heap := g }) :
    wpAny (model prog w) A (Builtin.«zip.__next__» ⟨[.ref z], []⟩) Q E s := by
  show wpAny _ _ (field (.ref z) 2 >>= _) _ _ _; refine wpAny_bind (wpAny_field hz rfl (x := .bool false) rfl ?_)
  show wpAny _ _ (field (.ref z) 3 >>= _) _ _ _; refine wpAny_bind (wpAny_field hz rfl (x := .ref B) rfl ?_)
  refine wpAny_bind (wpAny_seqItems hB rfl ?_)
  show wpAny _ _ (Builtin.SmallTypes.ownedTupleIsFree (.ref z) >>= _) _ _ _; refine wpAny_bind ?_; unfold Builtin.SmallTypes.ownedTupleIsFree
  refine wpAny_bind (wpAny_field hz rfl (x := .none) rfl (wpAny_pure ?_)); simp only [if_true]
  refine wpAny_bind (wpAny_rule ?_)
  refine wpAny_bind (wpAny_field hz rfl (x := .ref O) rfl ?_)
  refine wpAny_bind (wpAny_setField_rec hz (by simp) fun g1 z1 e1 => ?_)
  replace z1 : IsZip g1 z B O .ellipsis := z1
  refine wpAny_bind ?_; simp only [List.zipIdx_cons, List.zipIdx_nil, List.forIn_cons, List.forIn_nil]
  refine wpAny_bind (wpAny_bind (wpAny_onRaise ?_)); show wpAny _ _ (Builtin.SmallTypes.nextOf (.ref p) >>= _) _ _ _
  have fin : ∀ (g : Heap) (e : Addr), IsZip g z B O .ellipsis → (∃ o, g.get? e = some o ∧ o.cls = .type "StopIteration") → e ≠ z := fun g e hz2 ⟨o, ho, hc⟩ x => by subst x; rw [hz2] at ho; cases ho; simp at hc
  cases hu : us[m]? with
  | none =>
    refine wpAny_bind (RZ.nextOf_tuple_end hh (hp.extBut e1.extBut D.i1z) (ht.extBut e1.extBut D.l1z) hu fun g2 e e2 ⟨o, ho, hc⟩ => ?_)
    have z2 : IsZip g2 z B O .ellipsis := e2 _ _ D.i1z.symm z1
    have ez := fin g2 e z2 ⟨o, ho, hc⟩
    refine wpAny_setField_rec z2 (by simp) fun g3 _ e3 => hE g3 e (fun c o n1 _ n3 _ x => e3.extBut _ _ n1 (e2 _ _ n3 (e1.extBut _ _ n1 x))) ⟨o, e3.extBut _ _ ez ho, hc⟩
  | some u =>
    have hv : vs[n]? = none := by rcases he with h | h; rw [hu] at h; cases h; exact h
    refine wpAny_bind (RZ.nextOf_tuple_item (hp.extBut e1.extBut D.i1z) (ht.extBut e1.extBut D.l1z) hu fun g2 p2 e2 => wpAny_pure ?_)
    have O2 : IsPair g2 O a b := e2.extBut _ _ D.TOi1 (e1.extBut _ _ D.TOz hO)
    refine wpAny_bind (wpAny_seqItems O2 rfl ?_); refine wpAny_bind (wpAny_updateSeq_pair O2 fun g3 O3 e3 => ?_)
    refine wpAny_bind (wpAny_letGo (wpAny_pure ?_)); refine wpAny_bind (wpAny_bind (wpAny_onRaise ?_))
    show wpAny _ _ (Builtin.SmallTypes.nextOf (.ref q) >>= _) _ _ _
    refine wpAny_bind (wpAny_nextOf_list_end hh (((hq.extBut e1.extBut D.i2z).extBut e2.extBut D.i12.symm).extBut e3.extBut D.TOi2.symm) (((hl.extBut e1.extBut D.l2z).extBut e2.extBut D.l2i1).extBut e3.extBut D.l2TO) hv fun g4 e e4 ⟨o, ho, hc⟩ => ?_)
    have z4 : IsZip g4 z B O .ellipsis := e4 _ _ D.i2z.symm (e3.extBut _ _ D.TOz.symm (e2.extBut _ _ D.i1z.symm z1))
    have ez := fin g4 e z4 ⟨o, ho, hc⟩
    refine wpAny_setField_rec z4 (by simp) fun g5 _ e5 => hE g5 e (fun c o n1 n2 n3 n4 x => e5.extBut _ _ n1 (e4 _ _ n4 (e3.extBut _ _ n2 (e2.extBut _ _ n3 (e1.extBut _ _ n1 x))))) ⟨o, e5.extBut _ _ ez ho, hc⟩
theorem next_tl_item {z B O p q t l : Addr} {m n : Nat} {us vs : Array Value} {u v a b : Value} {Q : Option Value → Shared → Prop} (D : ZipApart z B O p q t l)
    (hz : IsZip s.heap z B O .none) (hB : IsPair s.heap B (.ref p) (.ref q)) (hO : IsPair s.heap O a b) (hp : s.heap.IsTupleIter p t m) (hq : s.heap.IsListIter q l n)
    (ht : s.heap.IsTuple t us) (hl : s.heap.IsList l vs) (hu : us[m]? = some u) (hv : vs[n]? = some v)
    (hQ : ∀ g, IsZip g z B O (rawInt s.heap.objs.size) → IsPair g O u v → g.IsTupleIter p t (m + 1) → g.IsListIter q l (n + 1) → IsPair g s.heap.objs.size u v → g.objs.size = s.heap.objs.size + 1 →
      (∀ c o, c ≠ z → c ≠ O → c ≠ p → c ≠ q → s.heap.get? c = some o → g.get? c = some o) → Q (some (.ref s.heap.objs.size)) { s with heap := g }) :
    wpAny (model prog w) A (pyNext (.ref z)) Q E s := by
  have T : s.TypeIs (.ref z) "zip" := ⟨_, hz, rfl⟩
  unfold pyNext
  exact wpAny_bind (wpAny_attempt (wpAny_callSpecial?_slot (name := Str.ofString "__next__") T F.slot_zip_next (wpAny_call_entry F.slot_zip_next T F.entry_zip_next
    (tl_item D hz hB hO hp hq ht hl hu hv fun g a1 a2 a3 a4 a5 a6 a7 => wpAny_pure (hQ g a1 a2 a3 a4 a5 a6 a7)) (F.args_zip_next_1 _))))
theorem next_tl_end {z B O p q t l : Addr} {m n : Nat} {us vs : Array Value} {a b : Value} {Q : Option Value → Shared → Prop} (hh : A.handled = none) (D : ZipApart z B O p q t l)
    (hz : IsZip s.heap z B O .none) (hB : IsPair s.heap B (.ref p) (.ref q)) (hO : IsPair s.heap O a b) (hp : s.heap.IsTupleIter p t m) (hq : s.heap.IsListIter q l n)
    (ht : s.heap.IsTuple t us) (hl : s.heap.IsList l vs) (he : us[m]? = none ∨ vs[n]? = none)
    (hQ : ∀ g, (∀ c o, c ≠ z → c ≠ O → c ≠ p → c ≠ q → s.heap.get? c = some o → g.get? c = some o) → Q none { s with heap := g }) : wpAny (model prog w) A (pyNext (.ref z)) Q E s := by
  have T : s.TypeIs (.ref z) "zip" := ⟨_, hz, rfl⟩
  unfold pyNext
  refine wpAny_bind (wpAny_attempt (wpAny_callSpecial?_slot (name := Str.ofString "__next__") T F.slot_zip_next (wpAny_call_entry F.slot_zip_next T F.entry_zip_next
    (tl_end hh D hz hB hO hp hq ht hl he fun g e k ⟨o, ho, hc⟩ => ?_) (F.args_zip_next_1 _))))
  refine wpAny_bind (wpAny_isInstance (T := "StopIteration") (b := true) ⟨o, ho, hc⟩ isSubtype_stop ?_)
  exact wpAny_pure (hQ _ k)
end
abbrev zA (h : Heap) (t : Addr) : Heap := h.push { cls := .type "tuple_iterator", data := .fields #[.ref t, .int 0 0] }
abbrev zB (h : Heap) (t l : Addr) : Heap := (zA h t).push { cls := .type "list_iterator", data := .fields #[.ref l, .int 0 0] }
abbrev zC (h : Heap) (t l : Addr) : Heap := (zB h t l).push { cls := .type "tuple", data := .seq #[.ref h.objs.size, .ref (zA h t).objs.size] }
abbrev zD (h : Heap) (t l : Addr) : Heap := (zC h t l).push { cls := .type "tuple", data := .seq #[.none, .none] }
abbrev zE (h : Heap) (t l : Addr) : Heap := (zD h t l).push { cls := .type "zip", data := .fields #[.none, .bool false, .bool false, .ref (zB h t l).objs.size, .ref (zC h t l).objs.size] }
theorem meets_tl (t l : Addr) (us vs : Array Value) :
    Meets (Builtin.«zip.__new__» ⟨[.type "zip", .ref t, .ref l], []⟩) (fun _ R s => s.heap.IsTuple t us ∧ s.heap.IsList l vs ∧ R (.ok (.ret (.ref (zD s.heap t l).objs.size))) { s with heap := zE s.heap t l }) :=
  .of_wp fun prog w A R s h => by
    obtain ⟨hp, g, d, tk, os⟩ := s
    obtain ⟨ht, hl, h⟩ := h
    have hs := sub_zip
    have h1 : Heap.IsTuple (Shared.heap ⟨hp, g, d, tk, os⟩) t us := ht
    have h2 : Heap.IsList (Shared.heap ⟨hp.push { cls := .type "tuple_iterator", data := .fields #[.ref t, .int 0 0] }, g, d, tk, os⟩) l vs := Heap.IsList.push hl _
    wp_walk using wpAny_pyIter_tuple h1, wpAny_pyIter_list h2
    exact ⟨_, rfl, h⟩
section
variable {prog : Program} {w : World} {A : Around} {E : Value → Shared → Prop} {s : Shared}
theorem call_tl {t l : Addr} {us vs : Array Value} {Q : Value → Shared → Prop} (ht : s.heap.IsTuple t us) (hl : s.heap.IsList l vs)
    (h : ∀ g, IsZip g (s.heap.objs.size + 4) (s.heap.objs.size + 2) (s.heap.objs.size + 3) .none → IsPair g (s.heap.objs.size + 2) (.ref s.heap.objs.size) (.ref (s.heap.objs.size + 1)) →
      IsPair g (s.heap.objs.size + 3) .none .none → g.IsTupleIter s.heap.objs.size t 0 → g.IsListIter (s.heap.objs.size + 1) l 0 → g.objs.size = s.heap.objs.size + 5 →
      (∀ c o, s.heap.get? c = some o → g.get? c = some o) → Q (.ref (s.heap.objs.size + 4)) { s with heap := g }) : wpAny (model prog w) A (call (.type "zip") [.ref t, .ref l]) Q E s := by
  refine callType_new F.called_zip (by decide) (F.typeCall_zip_2 _ _) (F.newCall_zip_2 _ _) (fun obj => F.args_object_init_3 obj _ _) F.entry_zip_new (meets_tl t l us vs) ⟨ht, hl, ?_⟩
  have n1 : (zA s.heap t).objs.size = s.heap.objs.size + 1 := Heap.size_push ..
  have n2 : (zB s.heap t l).objs.size = s.heap.objs.size + 2 := by rw [Heap.size_push, n1]
  have n3 : (zC s.heap t l).objs.size = s.heap.objs.size + 3 := by rw [Heap.size_push, n2]
  have n4 : (zD s.heap t l).objs.size = s.heap.objs.size + 4 := by rw [Heap.size_push, n3]
  have n5 : (zE s.heap t l).objs.size = s.heap.objs.size + 5 := by rw [Heap.size_push, n4]
  have a5 : (zE s.heap t l).get? (zD s.heap t l).objs.size = some _ := Heap.get?_push_size _ rfl
  have a4 : (zE s.heap t l).get? (zC s.heap t l).objs.size = some _ := Heap.get?_push_of_some _ (Heap.get?_push_size _ rfl)
  have a3 : (zE s.heap t l).get? (zB s.heap t l).objs.size = some _ := Heap.get?_push_of_some _ (Heap.get?_push_of_some _ (Heap.get?_push_size _ rfl))
  have a2 : (zE s.heap t l).get? (zA s.heap t).objs.size = some _ := Heap.get?_push_of_some _ (Heap.get?_push_of_some _ (Heap.get?_push_of_some _ (Heap.get?_push_size _ rfl)))
  have a1 : (zE s.heap t l).get? s.heap.objs.size = some _ := Heap.get?_push_of_some _ (Heap.get?_push_of_some _ (Heap.get?_push_of_some _ (Heap.get?_push_of_some _ (Heap.get?_push_size _ rfl))))
  show _ ∧ _
  rw [n2, n3, n4] at a5; rw [n1, n2] at a3; rw [n3] at a4; rw [n1] at a2; rw [n4]
  exact ⟨⟨_, a5, rfl⟩, h _ a5 a3 a4 ⟨_, a1, rfl, rfl⟩ ⟨_, a2, rfl, rfl⟩ n5 fun c o x => Heap.get?_push_of_some _ (Heap.get?_push_of_some _ (Heap.get?_push_of_some _ (Heap.get?_push_of_some _ (Heap.get?_push_of_some _ x))))⟩
end
/-- a tuple at a and a list at b as they stand at each turn -/
def ItzM (K : PySem.W.Frag) (a b : Addr) : It :=
  ⟨fun i H => ∃ (us vs : List V) (u v : V), SqT K H a us ∧ SqL K H b vs ∧ us[i]? = some u ∧ vs[i]? = some v,
    fun i H r G => ∃ T u v, r = .ref T ∧ H T = none ∧ G = upd H T (.tup [u, v]) ∧ (∀ us, SqT K H a us → us[i]? = some u) ∧ ∀ vs, SqL K H b vs → vs[i]? = some v,
    fun i H => ∃ us vs : List V, SqT K H a us ∧ SqL K H b vs ∧ (us.length ≤ i ∨ vs.length ≤ i)⟩
theorem turn_tl {P : Program} {w : World} {K : PySem.W.Frag} {elts : List Expr} {kk : Nat} {tpos : Pos} {a b z B O p q : Addr} (D : ZipApart z B O p q a b) :
    Turn P w K (.Tuple elts kk tpos) (ItzM K a b) [z, B, O, p, q] z (fun i h => IsZip h z B O .none ∧ IsPair h B (.ref p) (.ref q) ∧ (∃ x y, IsPair h O x y) ∧ h.IsTupleIter p a i ∧ h.IsListIter q b i) where
  mem := by simp
  obj := fun i h st c hc => by
    obtain ⟨g1, g2, ⟨x, y, g3⟩, ⟨o1, e1, _, d1⟩, ⟨o2, e2, _, d2⟩⟩ := st
    have five : c = z ∨ c = B ∨ c = O ∨ c = p ∨ c = q := by simpa using hc
    rcases five with r | r | r | r | r
    · rw [r]; exact ⟨_, g1, fun _ r => nomatch r⟩
    · rw [r]; exact ⟨_, g2, fun _ r => nomatch r⟩
    · rw [r]; exact ⟨_, g3, fun _ r => nomatch r⟩
    · rw [r]; exact ⟨o1, e1, fun _ r => by rw [d1] at r; cases r⟩
    · rw [r]; exact ⟨o2, e2, fun _ r => by rw [d2] at r; cases r⟩
  keep := fun i h h' st k => by
    obtain ⟨g1, g2, ⟨x, y, g3⟩, g4, g5⟩ := st
    exact ⟨k z (by simp) _ g1, k B (by simp) _ g2, ⟨x, y, k O (by simp) _ g3⟩, g4.at fun o r => k p (by simp) o r, g5.at fun o r => k q (by simp) o r⟩
  item := by
    intro X hP hw hK hc i pins s σ H E I hf st hg
    subst hP hw hK
    obtain ⟨g1, g2, ⟨x0, y0, g3⟩, g4, g5⟩ := st
    obtain ⟨us, vs, u, v, qu, qv, hu, hv⟩ := hg
    obtain ⟨its, rv, hT, _⟩ := I.tuple qu
    obtain ⟨its2, rv2, hL, _⟩ := I.list qv
    obtain ⟨m, hm, rm⟩ := rv.get hu
    obtain ⟨n, hn, rn⟩ := rv2.get hv
    have lz : z < s.heap.objs.size := Heap.lt_size g1
    refine next_tl_item D g1 g2 g3 g4 g5 hT hL.isList (u := m) (v := n) (by simpa using hm) (by simpa using hn) fun g z' O' p' q' T' sz hk => ?_
    refine ⟨_, rfl, wpAny_letOwnedTupleGo_zip (s := { s with heap := g }) z' fun g' z'' sb => ?_⟩
    have T2 : g'.get? s.heap.objs.size = some { cls := .type "tuple", data := .seq #[m, n] } := (sb.2 _ (Nat.ne_of_gt lz)).trans T'
    have new : ObjOk X.prog X.w (upd H s.heap.objs.size (.tup [u, v])) g' s.heap.objs.size (.tup [u, v]) := ⟨by show 2 ≤ sizeLine; decide, [m, n], .cons rm (.cons rn .nil), ⟨_, T2, rfl, _, rfl⟩⟩
    have I1 : Inv X pins σ (upd H s.heap.objs.size (.tup [u, v])) { s with heap := g' } :=
      I.turnedNew (t' := s.toks) (ch := [z, B, O, p, q]) (fun c o hb r => (sb.2 c (fun e => hb (by simp [e]))).trans (hk c o (fun e => hb (by simp [e])) (fun e => hb (by simp [e])) (fun e => hb (by simp [e])) (fun e => hb (by simp [e])) r)) hf (Nat.le_refl _) new
    refine ⟨.ref s.heap.objs.size, _, I1, rfl, ⟨_, u, v, rfl, I.hok.fresh (Nat.le_refl _), rfl, fun l hl => by rw [I.tuple_inj hl qu]; exact hu, fun l hl => by rw [I.list_inj hl qv]; exact hv⟩, ⟨z'', ?_, ⟨m, n, ?_⟩, ?_, ?_⟩, fun c hcm => ?_⟩
    · exact (sb.2 _ D.TIz).trans (hk _ _ D.TIz D.TITO D.TIi1 D.TIi2 g2)
    · exact (sb.2 _ D.TOz).trans O'
    · exact p'.at fun o r => (sb.2 _ D.i1z).trans r
    · exact q'.at fun o r => (sb.2 _ D.i2z).trans r
    · have lt : c < s.heap.objs.size := by
        have five : c = z ∨ c = B ∨ c = O ∨ c = p ∨ c = q := by simpa using hcm
        rcases five with r | r | r | r | r
        · rw [r]; exact lz
        · rw [r]; exact Heap.lt_size g2
        · rw [r]; exact Heap.lt_size g3
        · rw [r]; obtain ⟨_, e, _⟩ := g4; exact Heap.lt_size e
        · rw [r]; obtain ⟨_, e, _⟩ := g5; exact Heap.lt_size e
      rw [upd_ne (Nat.ne_of_lt lt)]
      exact (hf c hcm).1
  done := by
    intro X hP hw hK hc i pins s σ H E I hf st hg
    subst hP hw hK
    obtain ⟨g1, g2, ⟨x0, y0, g3⟩, g4, g5⟩ := st
    obtain ⟨us, vs, qu, qv, he⟩ := hg
    obtain ⟨its, rv, hT, _⟩ := I.tuple qu
    obtain ⟨its2, rv2, hL, _⟩ := I.list qv
    have k1 := rv.length
    have k2 := rv2.length
    have h : its.toArray[i]? = none ∨ its2.toArray[i]? = none := by
      rcases he with r | r
      · exact .inl (by simp; omega)
      · exact .inr (by simp; omega)
    exact next_tl_end (I.ok.hd hc) D g1 g2 g3 g4 g5 hT hL.isList h fun g hk => ⟨rfl, I.turnedL (t' := s.toks) (ch := [z, B, O, p, q]) (fun c o hb r =>
      hk c o (fun e => hb (by simp [e])) (fun e => hb (by simp [e])) (fun e => hb (by simp [e])) (fun e => hb (by simp [e])) r) hf⟩
  self := fun A i s Q E st h => wpAny_pyIter_zip st.1 h
def iZipM (K : PySem.W.Frag) (ta : TA) : TI := fun σ H R => ta σ H fun vs H1 => ∃ a b xs ys, vs = [.ref a, .ref b] ∧ SqT K H1 a xs ∧ SqL K H1 b ys ∧ R (ItzM K a b) H1
theorem pi_zipM {X : Cx} {e e2 : Expr} {ta : TA} {p pos tpos : Pos} {elts : List Expr} {kk : Nat} (hg : Gl X "zip") (hm : X.mg "zip" = none) (ha : PA X [e, e2] ta)
    (hs : starEach [e, e2] X.env = (false, eval e X.env) :: starEach [e2] X.env := by rfl) (hpl : (backTo pos (starEach [e2] X.env)).any (·.1) = false := by rfl) :
    PI X (.Tuple elts kk tpos) (.Call (.Name "zip" p) [e, e2] [] pos) (iZipM X.K ta) := by
  refine ⟨fun pins s σ H R I h => ?_⟩
  refine Call_ (ld_blt I hg hm PyProof.Rows.boot_zip (PyProof.Rows.callWith_type1 (thn (ha.run pos pins s σ H _ I h) fun ws s1 ⟨vs, H1, I1, r1, q1⟩ => ?_) hs hpl))
  obtain ⟨a, b, xs, ys, rfl, qa, qb, q⟩ := q1
  have new : ∀ c, c ∈ [s1.heap.objs.size + 4, s1.heap.objs.size + 2, s1.heap.objs.size + 3, s1.heap.objs.size, s1.heap.objs.size + 1] → FpOk X pins H1 c := fun c hc => by
    have le : s1.heap.objs.size ≤ c := by
      have five : c = s1.heap.objs.size + 4 ∨ c = s1.heap.objs.size + 2 ∨ c = s1.heap.objs.size + 3 ∨ c = s1.heap.objs.size ∨ c = s1.heap.objs.size + 1 := by simpa using hc
      rcases five with r | r | r | r | r <;> rw [r] <;> first | exact Nat.le_refl _ | exact Nat.le_add_right _ _
    exact I1.fpOk le (I1.hok.fresh le)
  obtain ⟨its, rv, hT, _⟩ := I1.tuple qa
  obtain ⟨its2, rv2, hL, _⟩ := I1.list qb
  obtain ⟨o1, ho1, _⟩ := id hT
  obtain ⟨u1, u2, rfl, r1, r2⟩ := vals2 r1
  cases r1
  cases r2
  refine call_tl (show s1.heap.IsTuple a its.toArray from hT) hL.isList fun g hz hB hO h1 h2 sz hk => wpAny_pyIter_zip hz ?_
  have I2 : Inv X pins σ H1 { s1 with heap := g } := I1.kept (t' := s1.toks) hk
  exact ⟨s1.heap.objs.size + 4, [s1.heap.objs.size + 4, s1.heap.objs.size + 2, s1.heap.objs.size + 3, s1.heap.objs.size, s1.heap.objs.size + 1], _, _, H1, rfl, I2, turn_tl (PySem.W.ktu_apart s1.heap.objs.size a b (Heap.lt_size ho1) hL.lt), ⟨hz, hB, ⟨_, _, hO⟩, h1, h2⟩, new, q⟩
theorem walk_zipM {K : PySem.W.Frag} {a b : Addr} {xs ys : List V} {n : Nat} (hn : n = min xs.length ys.length) : Walk (ItzM K a b) n (fun H => SqT K H a xs ∧ SqL K H b ys) (YPair (fun i => xs[i]?) (fun i => ys[i]?)) := by
  subst hn
  refine ⟨fun i _ hi q => ?_, fun _ q => ⟨xs, ys, q.1, q.2, by omega⟩, fun i H v H' _ q y => ?_⟩
  · have h1 : i < xs.length := by omega
    have h2 : i < ys.length := by omega
    exact ⟨xs, ys, xs[i], ys[i], q.1, q.2, by simp [h1], by simp [h2]⟩
  · obtain ⟨T, x, z, h1, h2, h3, h4, h5⟩ := y
    exact ⟨T, x, z, h1, h2, h3, h4 xs q.1, h5 ys q.2⟩
/-! ### x in a tuple, its items data of any depth -/
section
variable {X : Cx}
def rInTD (K : PySem.W.Frag) : R2 := fun x y H Q => ∃ d ds, Dp K H x d ∧ Dp K H y (.tuple ds) ∧ SeqAt.shaped d = true ∧ SeqAt.shaped (.tuple ds) = true ∧ Q (.bl (ds.any fun z => PyData.eqv z d)) H
theorem op_inTD (hu : X.A.units + 65 < cLine) : OpR X (compareOp .In) (rInTD X.K) := by
  intro pins s σ H x y v u Q I rx ry h
  obtain ⟨d, ds, hd, he, sd, se, q⟩ := h
  obtain ⟨as, r1⟩ := Dp.reads I d x v hd rx
  obtain ⟨bs, r2⟩ := Dp.reads I (.tuple ds) y u he ry
  have k := SeqAt.depth_of_shaped sd
  have lay : PyData.canLayAll0 ds = true := by
    have z := SeqAt.canLay_of_shaped se
    unfold PyData.canLay0 at z
    exact z
  exact SeqAt.in_tuple_reads r2 r1 lay (SeqAt.canLay_of_shaped sd) (by have := Nat.min_le_right (PyData.depthAll ds) d.depth; omega) ⟨.bl _, H, I, rfl, q⟩
end
end L2.Vx

set_option Elab.async false
set_option linter.all false
set_option maxRecDepth 100000
namespace L2.Vx
open PySem PySem.Spec PyProof.Rows L2
/-! ### sorted texts are as they are by one sequence alone -/
def leS (a b : Str) : Prop := a.cps.toList ≤ b.cps.toList
theorem leS_of {a b : Str} (h : ltCps b.cps.toList a.cps.toList = false) : leS a b := by
  rw [ltCps_eq] at h
  exact List.not_lt.mp (of_decide_eq_false h)
theorem rising_pair : ∀ (r : List Str) (x : Str), risingS x r = true → (x :: r).Pairwise leS
  | [], x, _ => List.pairwise_singleton _ _
  | y :: r, x, h => by
    obtain ⟨h1, h2⟩ := Bool.and_eq_true_iff.mp (show (!ltCps y.cps.toList x.cps.toList && risingS y r) = true from h)
    have h3 : leS x y := leS_of (by simpa using h1)
    have ih := rising_pair r y h2
    refine List.pairwise_cons.mpr ⟨fun z hz => ?_, ih⟩
    rcases List.mem_cons.mp hz with rfl | hz
    · exact h3
    · exact List.le_trans h3 ((List.pairwise_cons.mp ih).1 z hz)
theorem sorted_pair {ys : List Str} (h : sortedS ys = true) : ys.Pairwise leS := by
  cases ys with
  | nil => exact .nil
  | cons x r => exact rising_pair r x h
theorem sorted_one {ys zs : List Str} (hp : ys.Perm zs) (h : sortedS ys = true) (k : sortedS zs = true) : ys = zs := by
  refine List.Perm.eq_of_pairwise (fun a b _ _ h1 h2 => ?_) (sorted_pair h) (sorted_pair k) hp
  have e : a.cps.toList = b.cps.toList := List.le_antisymm h1 h2
  cases a
  cases b
  exact congrArg Str.mk (Array.toList_inj.mp e)
end L2.Vx

set_option Elab.async false
set_option linter.all false
set_option maxRecDepth 100000
set_option maxHeartbeats 3200000
namespace L2.Vx
open PySem PySem.Spec PyProof.Rows L2
open PySem.W (Frag)
/-! ### tuples that are known to the object -/
def PlT (H : Hp) (a : Addr) (xs : List V) : Prop := ∃ o : Obj, H a = some (.frz o (.tup xs)) ∧ o.cls = .type "tuple" ∧ o.dict = none ∧ ∃ (its : Array Value) (n : Nat), o.data = .seq its n
theorem PlT.sq {K : Frag} {H : Hp} {a : Addr} {xs : List V} (h : PlT H a xs) : SqT K H a xs := by
  obtain ⟨o, e, _⟩ := h
  exact .inl (.inr ⟨o, e⟩)
theorem PlT.same {H H' : Hp} {a : Addr} {xs : List V} (h : PlT H a xs) (s : Same H H') : PlT H' a xs := by
  obtain ⟨o, e, r⟩ := h
  exact ⟨o, s _ _ e, r⟩
section
variable {X : Cx} {pins : List (Addr × Obj)} {σ : St} {H : Hp} {s : Shared}
theorem laidF {vs : List V} {us : List Value} {Q : VK} (I : Inv X pins σ H s) (r : Vals vs us) (hz : vs.length ≤ sizeLine) (q : ∀ p H', H p = none → Same H H' → PlT H' p vs → Q (.ref p) H') :
    EP X pins σ Q (.ref s.heap.objs.size) { s with heap := s.heap.push { cls := .type "tuple", data := .seq us.toArray } } := by
  have hp := I.hok.fresh (Nat.le_refl s.heap.objs.size)
  refine ⟨.ref s.heap.objs.size, upd H s.heap.objs.size (.frz { cls := .type "tuple", data := .seq us.toArray } (.tup vs)), I.laid (t' := s.toks) (fun b u q => Heap.get?_push_of_some _ q) (Nat.le_refl _) ⟨Heap.get?_push_size _ rfl, hz, us, r, IsTup.new _ _⟩, rfl, q _ _ hp (same_new hp) ⟨_, upd_same, rfl, rfl, _, _, rfl⟩⟩
def tTupF (t : TA) : TE := fun σ H Q => t σ H fun xs H1 => xs.length ≤ sizeLine ∧ ∀ p H', H1 p = none → Same H1 H' → PlT H' p xs → Q (.ref p) H'
theorem pe_tupF {es : List Expr} {pos : Pos} {t : TA} {x1} (h : PA X es t) : PE X (.Tuple es x1 pos) (tTupF t) := by
  refine ⟨fun pins s σ H Q I hq => ?_⟩
  refine wpAny_Tuple_spliced (thn (h.run pos pins s σ H _ I hq) fun us s1 ⟨xs, H1, I1, r, z, q⟩ => ⟨by rw [← r.length]; exact z, ?_⟩)
  exact laidF I1 r z q
/-- t + u -/
def rCatF (K : Frag) : R2 := fun x y H Q => ∃ a b xs ys, x = .ref a ∧ y = .ref b ∧ SqT K H a xs ∧ SqT K H b ys ∧ xs.length + ys.length ≤ sizeLine ∧ (xs = [] → Q (.ref b) H) ∧ (xs ≠ [] → ys = [] → Q (.ref a) H) ∧
  (xs ≠ [] → ys ≠ [] → ∀ p H', H p = none → Same H H' → PlT H' p (xs ++ ys) → Q (.ref p) H')
theorem op_catF : OpR X (binaryOp .Add) (rCatF X.K) := by
  intro pins s σ H x y v u Q I rx ry h
  obtain ⟨a, b, xs, ys, rfl, rfl, ha, hb, hz, q0, q1, q2⟩ := h
  cases rx
  cases ry
  obtain ⟨its, r1, p1, _⟩ := I.tuple ha
  obtain ⟨its2, r2, p2, _⟩ := I.tuple hb
  by_cases hx : xs = []
  · subst hx
    cases r1
    exact cat_tup0 (ws := its2) p1 p2 ⟨.ref b, H, I, rfl, q0 rfl⟩
  · refine HT.cat_tup p1 p2 (fun z => hx (r1.nil_iff.mp z)) (fun z => ⟨.ref a, H, I, rfl, q1 hx (r2.nil_iff.mp z)⟩) (fun z => ?_) (by rw [← r1.length, ← r2.length]; exact hz)
    exact laidF I (r1.append r2) (by rw [List.length_append]; exact hz) (q2 hx fun w => z (r2.nil_iff.mpr w))
theorem rCatF_pl {K : Frag} {a b : Addr} {xs ys : List V} {Q : VK} (ha : SqT K H a xs) (hb : SqT K H b ys) (hz : xs.length + ys.length ≤ sizeLine) (pa : ys = [] → PlT H a xs) (pb : xs = [] → PlT H b ys)
    (q : ∀ p H', Same H H' → PlT H' p (xs ++ ys) → Q (.ref p) H') : rCatF K (.ref a) (.ref b) H Q := by
  refine ⟨a, b, xs, ys, rfl, rfl, ha, hb, hz, fun h => ?_, fun _ h => ?_, fun _ _ p H' _ s1 h1 => q p H' s1 h1⟩
  · subst h
    exact q b H (Same.refl H) (pb rfl)
  · subst h
    exact q a H (Same.refl H) (by rw [List.append_nil]; exact pa rfl)
/-- t[lo:hi] -/
def rSlF (K : Frag) : V → Option Int → Option Int → Hp → VK → Prop := fun x lo hi H Q => ∃ a xs, x = .ref a ∧ SqT K H a xs ∧
  ((HT.sIx xs.length 0 lo = 0 ∧ HT.sIx xs.length xs.length hi = xs.length) → Q (.ref a) H) ∧ ∀ p H', H p = none → Same H H' → PlT H' p (cutV xs lo hi) → Q (.ref p) H'
theorem cut_whole {xs : List V} {lo hi : Option Int} (h : HT.sIx xs.length 0 lo = 0 ∧ HT.sIx xs.length xs.length hi = xs.length) : cutV xs lo hi = xs := by
  unfold cutV
  rw [h.1, h.2, Nat.sub_zero, List.drop_zero, List.take_length]
theorem sl_tupF : SlR X (rSlF X.K) := by
  intro pins s σ H x v vl vu lo hi sl Q I rx hs pl pu h
  obtain ⟨a, xs, rfl, hx, q0, q⟩ := h
  cases rx
  obtain ⟨its, r, ht, hz⟩ := I.tuple hx
  have hlen : its.toArray.size = xs.length := by rw [List.size_toArray]; exact r.length.symm
  refine ⟨"tuple", _, PyProof.Rows.slot_tuple_getitem.lookup, ht.typeIs, ?_⟩
  by_cases hw : HT.sIx xs.length 0 lo = 0 ∧ HT.sIx xs.length xs.length hi = xs.length
  · exact getItem_tuple_whole ht hs pl pu (by rw [hlen]; exact hw) ⟨.ref a, H, I, rfl, q0 hw⟩
  · refine HT.getItem_tuple_cut ht hs pl pu (by rw [hlen]; exact hw) ?_ (by rw [hlen]; exact hz)
    rw [hlen]
    exact laidF I ((r.drop (HT.sIx xs.length 0 lo)).take (HT.sIx xs.length xs.length hi - HT.sIx xs.length 0 lo)) (Nat.le_trans (cutV_length xs lo hi) hz) q
/-- .. as it stands: a part that is not the whole is known -/
theorem rSlF_pl {K : Frag} {a : Addr} {xs : List V} {lo hi : Option Int} {Q : VK} (ha : SqT K H a xs) (pa : (HT.sIx xs.length 0 lo = 0 ∧ HT.sIx xs.length xs.length hi = xs.length) → PlT H a xs)
    (q : ∀ p H', Same H H' → PlT H' p (cutV xs lo hi) → Q (.ref p) H') : rSlF K (.ref a) lo hi H Q := by
  refine ⟨a, xs, rfl, ha, fun h => q a H (Same.refl H) ?_, fun p H' _ s1 h1 => q p H' s1 h1⟩
  rw [cut_whole h]
  exact pa h
/-- tuple(l) of a list -/
theorem call_tupleF : CallR X (.type "tuple") (fun xs H Q => ∃ p ys, xs = [.ref p] ∧ SqL X.K H p ys ∧ ∀ l H', H l = none → Same H H' → PlT H' l ys → Q (.ref l) H') := by
  intro pins s σ H xs us Q I r h
  obtain ⟨p, ys, rfl, hq, q⟩ := h
  obtain ⟨u, rfl, rx⟩ := vals1 r
  cases rx
  obtain ⟨its, r', pl, hz⟩ := I.list hq
  have hlen := r'.length
  refine call_tuple_list pl.isList (fun h' kp => ?_) (by simp only [List.size_toArray] <;> omega)
  have I1 : Inv X pins σ H { s with heap := h' } := I.kept (t' := s.toks) kp
  exact laidF I1 r' hz q
/-! dict(t) of a tuple of pairs -/
theorem pairs_raw (I : Inv X pins σ H s) : ∀ {ps : List Addr} {kvs : List (Key × V)}, Paired (fun p kv => SqT X.K H p [kV kv.1, kv.2]) ps kvs →
    ∃ (prs : List (Key × Value)) (raw : List (Value × Value)), KV kvs prs ∧ prs.length = ps.length ∧ raw.length = ps.length ∧ ∀ (j : Nat) (u v : Value), raw[j]? = some (u, v) → ∃ (k : Key) (b : Addr), prs[j]? = some (k, v) ∧ ps[j]? = some b ∧ IsTup s.heap b #[u, v] ∧ keyIs k u = true
  | _, _, .nil => ⟨[], [], .nil, rfl, rfl, fun j u v e => by simp at e⟩
  | _, _, .cons (a := p) (b := kv) h t => by
    obtain ⟨prs, raw, r, hl, hl2, hp⟩ := pairs_raw I t
    obtain ⟨its, rv, ht, _⟩ := I.tuple h
    obtain ⟨u, y, ei, ru, ry⟩ := vals2 rv
    subst ei
    refine ⟨(kv.1, y) :: prs, (u, y) :: raw, .cons ⟨rfl, ry⟩ r, by rw [List.length_cons, List.length_cons, hl], by rw [List.length_cons, List.length_cons, hl2], fun j u' v' e => ?_⟩
    cases j with
    | zero =>
      have e' : (u, y) = (u', v') := Option.some.inj e
      cases e'
      exact ⟨kv.1, p, rfl, rfl, ht, kV_is (P := X.prog) (w := X.w) ru⟩
    | succ j =>
      obtain ⟨k, b, e1, e2, e3⟩ := hp j u' v' (by simpa using e)
      exact ⟨k, b, by simpa using e1, by simpa using e2, e3⟩
theorem call_dictF (hcalm : X.calm = true) : CallR X (.type "dict") (fun xs H Q => ∃ (a : Addr) (ps : List Addr) (kvs : List (Key × V)), xs = [.ref a] ∧ PlT H a (ps.map V.ref) ∧ Paired (fun p kv => SqT X.K H p [kV kv.1, kv.2]) ps kvs ∧
    ∀ p, H p = none → Q (.ref p) (upd H p (.dK (mergeK [] kvs)))) := by
  intro pins s σ H xs us Q I r q
  obtain ⟨a, ps, kvs, ex, hq, hp, q⟩ := q
  subst ex
  obtain ⟨u, eu, rx⟩ := vals1 r
  subst eu
  cases rx
  obtain ⟨its, rv, pl, hz⟩ := I.tuple (hq.sq (K := X.K))
  have ei := refs_at rv
  subst ei
  rw [List.length_map] at hz
  obtain ⟨prs, raw, rel, hl, hl2, hpr⟩ := pairs_raw I hp
  obtain ⟨o, eo, hc, hd, its2, n2, hdat⟩ := hq
  obtain ⟨ho, -⟩ := (show s.heap.get? a = some o ∧ _ from I.hok a _ eo)
  obtain ⟨o2, ho2, _, n3, hdat3⟩ := pl
  rw [ho] at ho2
  cases ho2
  have hitems : PySem.PairItems s.heap (ps.map Value.ref).toArray (fun j => ps.getD j 0) raw := by
    refine ⟨by simp [hl2], fun j k v e => ?_⟩
    obtain ⟨k', b, _, e2, e3, _⟩ := hpr j k v e
    have eb : ps.getD j 0 = b := by rw [List.getD_eq_getElem?_getD, e2]; rfl
    refine ⟨?_, ?_⟩
    · show (ps.map Value.ref).toArray[j]? = some (Value.ref (ps.getD j 0))
      rw [eb]
      simp [e2]
    · show PySem.PairAt s.heap (ps.getD j 0) k v
      rw [eb]
      exact .inl e3
  refine PySem.call_dict_pairs (knd := mixKind X.prog X.w) (kvs := prs) (PySem.PairArg.tuple a (ps.map Value.ref).toArray (fun j => ps.getD j 0) raw) (I.ok.hd hcalm) ⟨⟨o, n3, ho, hc, hd, hdat3⟩, hitems⟩ ⟨by rw [hl, hl2], fun i key v e => ?_⟩ (by rw [hl2]; exact hz) fun h' tk hd' k => ?_
  · obtain ⟨k', b, e1, _, _, e4⟩ := hpr i key v e
    exact ⟨k', e1, e4⟩
  · have hm : (s.heap.objs.size == sysModules) = false := beq_eq_false_iff_ne.mpr (Nat.ne_of_gt I.big)
    have hlen : (mergeK [] kvs).length ≤ sizeLine := by
      refine Nat.le_trans (length_mergeK kvs []) ?_
      rw [List.length_nil, Nat.zero_add, rel.length, hl]
      exact hz
    exact ⟨.ref s.heap.objs.size, upd H s.heap.objs.size (.dK (mergeK [] kvs)), I.laid (t' := tk) (fun b o e => k b o (fun z => nomatch z) e) (Nat.le_refl _) (show ObjOk X.prog X.w _ _ _ (.dK (mergeK [] kvs)) from ⟨hlen, hm, merged [] prs, KV.merge rel .nil, hd'⟩), rfl, q _ (I.hok.fresh (Nat.le_refl _))⟩
end
end L2.Vx

set_option Elab.async false
set_option linter.all false
set_option maxRecDepth 100000
set_option maxHeartbeats 3200000
namespace L2.Vx
open PySem PySem.Spec PyProof.Rows L2 HT
open PySem.W (Frag)
/-! ### t[::-1] of a tuple -/
section
variable {prog : Program} {w : World} {A : Around} {E : Value → Shared → Prop} {s : Shared}
theorem sliceApplied_rev {sl : Addr} {vl vu vs : Value} {n : Nat} {Q : Int × Int × Nat → Shared → Prop} (hs : s.heap.IsSliceOf sl vl vu vs) (pl : IsPart vl none) (pu : IsPart vu none) (ps : IsPart vs (some (-1)))
    (h : Q ((n : Int) - 1, -1, n) s) : wpAny (model prog w) A (Builtin.Slice.sliceApplied (.ref sl) (pure (n : Int))) Q E s := by
  obtain ⟨os, hos, hcs, hds⟩ := id hs
  unfold Builtin.Slice.sliceApplied Builtin.Slice.sliceFields
  refine wpAny_bind (wpAny_bind (wpAny_field hos hds (x := vl) rfl (wpAny_bind (wpAny_field hos hds (x := vu) rfl (wpAny_bind (wpAny_field hos hds (x := vs) rfl (wpAny_pure ?_)))))))
  refine wpAny_bind (slicePart_ ps ?_)
  show wpAny _ _ (if ((-1 : Int) == 0) = true then _ else _) _ _ s
  rw [if_neg (by decide)]
  refine wpAny_bind (slicePart_ pl (wpAny_bind (slicePart_ pu (wpAny_bind (wpAny_pure ?_)))))
  show wpAny _ _ (match Builtin.Slice.sliceAdjust none none (-1) (n : Int) with | (lo, hi) => pure (lo, (-1 : Int), Builtin.Slice.slicePlaces lo hi (-1))) _ _ s
  have e1 : Builtin.Slice.sliceAdjust none none (-1) (n : Int) = ((n : Int) - 1, -1) := by
    unfold Builtin.Slice.sliceAdjust
    simp
  rw [e1]
  have e2 : Builtin.Slice.slicePlaces ((n : Int) - 1) (-1) (-1) = n := by
    unfold Builtin.Slice.slicePlaces
    have h1 : ¬ ((-1 : Int) > 0) := by omega
    simp only [h1, if_false]
    by_cases hn : (n : Int) - 1 > -1
    · rw [if_pos hn]
      have : ((n : Int) - 1 - -1 - 1) / (- -1) + 1 = (n : Int) := by
        rw [show (- -1 : Int) = 1 by decide, Int.ediv_one]
        omega
      rw [this, Int.toNat_natCast]
    · rw [if_neg hn]
      omega
  show wpAny _ _ (pure ((n : Int) - 1, (-1 : Int), Builtin.Slice.slicePlaces ((n : Int) - 1) (-1) (-1))) _ _ s
  rw [e2]
  exact wpAny_pure h
theorem pick_rev (xs : Array Value) : ((List.range xs.size).filterMap fun (k : Nat) => xs[((xs.size : Int) - 1 + (k : Int) * -1).toNat]?).toArray = xs.toList.reverse.toArray := by
  have e : (List.range xs.size).filterMap (fun (k : Nat) => xs[((xs.size : Int) - 1 + (k : Int) * -1).toNat]?) = ((List.range xs.size).map fun k => xs.size - 1 - k).filterMap (xs[·]?) := by
    rw [List.filterMap_map]
    congr 1
    funext k
    show xs[((xs.size : Int) - 1 + (k : Int) * -1).toNat]? = xs[xs.size - 1 - k]?
    by_cases hk : k < xs.size
    · congr 1
      omega
    · by_cases h0 : xs.size = 0
      · rw [Array.getElem?_eq_none (by omega), Array.getElem?_eq_none (by omega)]
      · congr 1
        omega
  rw [e, PySem.W.krv_range, List.filterMap_reverse, PySem.W.krv_all]
theorem getItem_tuple_rev {t sl : Addr} {items : Array Value} {vl vu vs : Value} {Q : Value → Shared → Prop} (ht : IsTup s.heap t items) (hs : s.heap.IsSliceOf sl vl vu vs) (pl : IsPart vl none) (pu : IsPart vu none) (ps : IsPart vs (some (-1)))
    (h : Q (.ref s.heap.objs.size) { s with heap := s.heap.push { cls := .type "tuple", data := .seq items.toList.reverse.toArray } }) (hsz : items.size ≤ sizeLine) : wpAny (model prog w) A (getItem (.ref t) (.ref sl)) Q E s := by
  have htake : sizeOk (.seq items.toList.reverse.toArray) := by
    show items.toList.reverse.toArray.size ≤ sizeLine
    rw [List.size_toArray, List.length_reverse, Array.length_toList]
    exact hsz
  obtain ⟨os, hos, hcs, hds⟩ := id hs
  have hTs : s.TypeIs (.ref sl) "slice" := ⟨os, hos, hcs⟩
  unfold getItem
  try with_reducible refine wpAny_holding ?_
  first | refine wpAny_bind (wpAny_pure ?_) | skip
  refine wpAny_bind (wpAny_sequenceKey ht.typeIs (by decide) ?_)
  refine wpAny_bind (wpAny_callSpecial?_slot (name := Str.ofString "__getitem__") ht.typeIs PyProof.Rows.slot_tuple_getitem
    (wpAny_call_entry PyProof.Rows.slot_tuple_getitem ht.typeIs entry_tuple_getitem ?_ (args_tuple_getitem _ _)))
  show wpAny _ _ (Builtin.Tuple.tupleItemsOf (.ref t) >>= _) _ _ s
  refine wpAny_bind (tupleItemsOf_ ht ?_)
  refine wpAny_bind (wpAny_typeOf hTs ?_)
  rw [if_pos (by decide)]
  refine wpAny_bind (sliceApplied_rev hs pl pu ps ?_)
  have hno : ¬ ((((items.size : Int) - 1) == 0 && (-1 : Int) == 1 && items.size == items.size) = true) := by
    intro q
    rw [Bool.and_eq_true, Bool.and_eq_true] at q
    exact absurd q.1.2 (by decide)
  show wpAny _ _ (if (((items.size : Int) - 1) == 0 && (-1 : Int) == 1 && items.size == items.size) = true then _ else _) _ _ s
  rw [if_neg hno, pick_rev]
  first
    | exact wpAny_bind (m := Builtin.Tuple.tupleExact _) (wpAny_newObj_type (wpAny_pure ⟨_, rfl, wpAny_pure h⟩) htake)
    | exact wpAny_bind (m := Builtin.Tuple.tupleExact _) (wpAny_newObj_type (wpAny_bind (wpAny_pure (wpAny_pure ⟨_, rfl, wpAny_pure h⟩))) htake)
    | exact wpAny_bind (wpAny_bind (m := Builtin.Tuple.tupleExact _) (wpAny_newObj_type (wpAny_pure (wpAny_pure ⟨_, rfl, wpAny_pure h⟩)) htake))
    | exact wpAny_bind (wpAny_bind (m := Builtin.Tuple.tupleExact _) (wpAny_newObj_type (wpAny_pure ⟨_, rfl, wpAny_pure h⟩) htake))
end
section
variable {X : Cx}
def tRevF (K : Frag) (te : TE) : TE := fun σ H Q => te σ H fun x H1 => ∃ a xs, x = .ref a ∧ SqT K H1 a xs ∧ ∀ p H', H1 p = none → Same H1 H' → PlT H' p xs.reverse → Q (.ref p) H'
theorem pe_revF {e : Expr} {te : TE} {k : Nat} {p1 p2 p3 pos : Pos} (he : PE X e te) : PE X (.Subscript e (.Slice none none (some (.UnaryOp .USub (.Constant (.int 1) k p1) p2)) p3) pos) (tRevF X.K te) := by
  refine ⟨fun pins s σ H Q I h => ?_⟩
  refine Subscript_ (thn (he.run pins s σ H _ I h) fun v s1 ⟨x, H1, I1, r1, q1⟩ => ?_)
  obtain ⟨a, xs, ex, hx, q⟩ := q1
  subst ex
  cases r1
  have hst : PO X (some (.UnaryOp .USub (.Constant (.int 1) k p1) p2)) (tPart (tUn (rU fun i => .int (-i)) (tC (.int 1)))) := po_some (pe_un un_neg pe_int)
  refine wpAny_Slice (thn (po_none.run pins s1 σ H1 (fun o H2 => o = none ∧ H2 = H1) I1 ⟨rfl, rfl⟩) fun vl s2 ⟨l, H2, I2, pl, el, e2⟩ => ?_)
  subst el e2
  refine thn (po_none.run pins s2 σ H2 (fun o H3 => o = none ∧ H3 = H2) I2 ⟨rfl, rfl⟩) fun vu s3 ⟨u, H3, I3, pu, eu, e3⟩ => ?_
  subst eu e3
  refine thn (hst.run pins s3 σ H3 (fun o H4 => o = some (-1) ∧ H4 = H3) I3 ⟨1, rfl, -1, rfl, rfl, rfl⟩) fun vs s4 ⟨o, H4, I4, ps, eo, e4⟩ => ?_
  subst eo e4
  have I5 : Inv X pins σ H4 { s4 with heap := s4.heap.push { cls := .type "slice", data := .fields #[vl, vu, vs] } } := I4.kept (t' := s4.toks) fun b ob q => Heap.get?_push_of_some _ q
  obtain ⟨its, r, ht, hz⟩ := I5.tuple hx
  have hlen := r.length
  show wpAny (model X.prog X.w) X.A (subscriptTail e (.Slice none none (some (.UnaryOp .USub (.Constant (.int 1) k p1) p2)) p3) (.ref a) (.ref s4.heap.objs.size)) (EP X pins σ Q) X.xe { s4 with heap := s4.heap.push { cls := .type "slice", data := .fields #[vl, vu, vs] } }
  refine tail_any (ops := [.ref a, .ref s4.heap.objs.size]) ht.typeIs PyProof.Rows.slot_tuple_getitem.lookup ?_ (by with_unfolding_all rfl)
  refine getItem_tuple_rev ht (Heap.IsSliceOf.new _ vl vu vs) pl pu ps ?_ (by rw [List.size_toArray]; omega)
  exact laidF I5 r.reverse (by rw [List.length_reverse]; exact hz) q
end
end L2.Vx

set_option Elab.async false
set_option linter.all false
set_option maxRecDepth 100000
set_option maxHeartbeats 3200000
namespace L2.Vx
open PySem PySem.Spec PyProof.Rows L2
open PySem.W (Frag)
/-! ### {t: v for .. in ..}: the keys are tuples of ints and texts -/
section
variable {X : Cx} {pins : List (Addr × Obj)} {σ : St} {H : Hp} {s : Shared}
theorem d_storeT {E : Value → Shared → Prop} {a : Addr} {v : V} {r : Value} {kvs : List (List Key × V)} {k : List Key} {b : Addr} {Q : Unit → Shared → Prop} (hu : X.A.units + 1 < cLine) (I : Inv X pins σ H s) (e : H a = some (.dT kvs)) (eb : H b = some (.tup (k.map kV)))
    (l : kvs.length < sizeLine) (rv : RelV v r) (h : ∀ s', Inv X pins σ (upd H a (.dT (putK kvs k v))) s' → Q () s') :
    wpAny (model X.prog X.w) X.A (dictSet a (.ref b) r) Q E s := by
  obtain ⟨z, hd, xs, rel, dd⟩ := dt_of I.hok e
  have hz : xs.length ≤ sizeLine := by rw [← Paired.length rel]; exact z
  have hl : (putK kvs k v).length ≤ sizeLine := by have := length_putK kvs k v; omega
  refine wpAny_dictSet_heap (knd := tupleKind (mixKind X.prog X.w)) (hsz := hz) ?_ (key_of I.hok eb) dd fun h' dd' hs => h _ ?_
  · show X.A.units < cLine
    omega
  obtain ⟨q, es, ep, hq, h2, h3, h4, _, h5⟩ := dd'
  refine d_write I (by rw [e]; exact True.intro) hs ⟨q, hq⟩ ⟨hl, hd, _, (rel.put k eb rv).keeps fun c ys ec => ?_, q, es, ep, hq, h2, h3, h4, h5⟩
  rw [upd_ne (ne_of ec e (fun z => nomatch z))]
  exact ec
end
section
variable {X : Cx}
/-- what is stored at a dict's address, told by a relation of the heaps ahead and behind -/
def tDcS (e0 : HO) (Sto : Addr → V → V → Hp → Hp → Prop) (wi : TI) (g : TG) (tt : TT) (tk tv : TE) (vs : List Nat) : TE := fun σ H Q => wi σ H fun J H1 => ∀ D, H1 D = none → ∃ W : Nat → Nat → Hp → Prop, (∃ m, W 0 m (upd H1 D e0)) ∧ ∀ i m H, W i m H →
  (J.stop i H ∧ Q (.ref D) H) ∨ (J.go i H ∧ ∃ Nx : Hp → Prop, (∀ H', Nx H' → ∃ m', m' < m ∧ W (i + 1) m' H') ∧ ∀ x H', J.yld i H x H' → g x (wipe σ vs) H' fun σ2 H2 => wipe σ2 vs = wipe σ vs ∧ tt σ2 H2 fun b H3 =>
    if b = true then tk σ2 H3 fun y H4 => tv σ2 H4 fun z H5 => ∃ H6, Sto D y z H5 H6 ∧ Nx H6 else Nx H3)
theorem dcS_core {pins : List (Addr × Obj)} {s : Shared} {σ : St} {H : Hp} {Q : VK} {kx vx tg iter : Expr} {ifs : List Expr} {scope : Scope} {own : List (Str × Nat)} {pos pos' : Pos} {e0 : HO} {Sto : Addr → V → V → Hp → Hp → Prop} {wi : TI} {g : TG} {tt : TT} {tk tv : TE} {use : Option (Value → Sem Unit)} {Qf : Value → Shared → Prop}
    (he0 : ∀ (H : Hp) (h : Heap), sysModules < h.objs.size → ObjOk X.prog X.w H (h.push { cls := .type "dict", data := .dict #[] }) h.objs.size e0) (hst : ∀ {Y : Cx} {pins : List (Addr × Obj)} {σ : St} {H H' : Hp} {s : Shared} {D : Addr} {y z : V} {u r : Value} {Q : Unit → Shared → Prop} {E : Value → Shared → Prop}, Y.prog = X.prog → Y.w = X.w → Y.A = X.A → Inv Y pins σ H s → Sto D y z H H' → RelV y u → RelV z r → (∀ s', Inv Y pins σ H' s' → Q () s') → wpAny (model Y.prog Y.w) Y.A (dictSet D u r) Q E s) (hc : X.calm = true) (hN : X.N.Nodup) (I : Inv X pins σ H s) (hi : PI X tg iter wi) (ok : BlkOk X.N X.env.scope scope own)
    (hg : ∀ (s : Shared) (H : Hp) (C : Addr) (cl : List (Str × Addr)) (fp : List Addr), PG (X.blk s H scope (compEnvC scope cl C X.env) fp) tg g) (ht : ∀ (s : Shared) (H : Hp) (C : Addr) (cl : List (Str × Addr)) (fp : List Addr), PTs (X.blk s H scope (compEnvC scope cl C X.env) fp) ifs tt)
    (hk : ∀ (s : Shared) (H : Hp) (C : Addr) (cl : List (Str × Addr)) (fp : List Addr), PE (X.blk s H scope (compEnvC scope cl C X.env) fp) kx tk)
    (he : ∀ (s : Shared) (H : Hp) (C : Addr) (cl : List (Str × Addr)) (fp : List Addr), PE (X.blk s H scope (compEnvC scope cl C X.env) fp) vx tv) (hs : ∀ x, foldedSetIterable iter X.env x = pure x)
    (h : tDcS e0 Sto wi g tt tk tv (own.map (·.2)) σ H Q)
    (hRR : ∀ D C s' m H', Inv X pins σ H' s' → Q (.ref D) H' → s'.heap.Ns C m → FpOk X pins H' C → compPost (model X.prog X.w) X.A X.xe use Qf (.ref D) C (.ok .next) s') :
    wpAny (model X.prog X.w) X.A (comprehension (.DictComp kx vx [⟨tg, iter, ifs, 0⟩] scope pos) scope X.env pos' newDict false (eval iter X.env) use) Qf X.xe s := by
  have hfree : ∀ y ∈ scope.names, y.2 = .free → ∃ c, X.env.cells.lookup y.1 = some c := fun y hy e => by
    rcases ok.free y hy e with k | k
    · exact I.ok.has _ (.inl k)
    · exact I.ok.has _ (.inr k)
  refine wpAny_comprehension_free (use := use) rfl hs (closure_ok hfree) ok.kind (fun y hy e => by rw [ok.uniq y hy, e])
    (thn (hi.run pins s σ H _ I h) fun xv s1 hx => thn hx fun itv s2 h2 => ?_)
  obtain ⟨it, fp, tn, J, H2, e, I2, T, st2, f2, q⟩ := h2
  subst e
  refine wpAny_newObj_type (newEnv_comp ?_)
  generalize hD : s2.heap.objs.size = D
  have hDn : H2 D = none := I2.hok.fresh (Nat.le_of_eq hD)
  obtain ⟨W, ⟨m0, w0⟩, turn⟩ := q D hDn
  -- the new list
  generalize hs3 : ({ s2 with heap := s2.heap.push { cls := .type "dict", data := .dict #[] } } : Shared) = s3
  have I3 : Inv X pins σ (upd H2 D e0) s3 := by
    rw [← hs3]
    refine I2.laid (t' := s2.toks) (fun b o e => Heap.get?_push_of_some _ e) (Nat.le_of_eq hD) ?_
    rw [← hD]
    exact he0 _ s2.heap I2.big
  have h3 : s3.heap = s2.heap.push { cls := .type "dict", data := .dict #[] } := by rw [← hs3]
  have sz : ∀ b ∈ fp, b < s2.heap.objs.size := fun b hb => by
    obtain ⟨o, e, _⟩ := T.obj _ _ st2 b hb
    exact Heap.lt_size e
  have f3 : ∀ b ∈ fp, FpOk X pins (upd H2 D e0) b ∧ b < s3.heap.objs.size := fun b hb => by
    have hlt := sz b hb
    refine ⟨⟨?_, (f2 b hb).2⟩, by rw [h3, Heap.size_push]; exact Nat.lt_succ_of_lt hlt⟩
    rw [upd_ne (by rw [← hD]; exact Nat.ne_of_lt hlt)]
    exact (f2 b hb).1
  have st3 : tn 0 s3.heap := T.keep _ _ _ st2 fun b _ o e => by rw [h3]; exact Heap.get?_push_of_some _ e
  have I4 := block_start I3 ok hN f3
  have pg := hg s3 (upd H2 D e0) s3.heap.objs.size (cellsFrom (s3.heap.objs.size + 1) scope.names (cloFrom X.env.cells scope.names [])) fp
  have pt := ht s3 (upd H2 D e0) s3.heap.objs.size (cellsFrom (s3.heap.objs.size + 1) scope.names (cloFrom X.env.cells scope.names [])) fp
  have pk := hk s3 (upd H2 D e0) s3.heap.objs.size (cellsFrom (s3.heap.objs.size + 1) scope.names (cloFrom X.env.cells scope.names [])) fp
  have pe := he s3 (upd H2 D e0) s3.heap.objs.size (cellsFrom (s3.heap.objs.size + 1) scope.names (cloFrom X.env.cells scope.names [])) fp
  show codeAny _ _ (.compStart (.DictComp kx vx [⟨tg, iter, ifs, 0⟩] scope pos) 0 (.ref it) (.ref D) (compEnvC scope (cellsFrom (s3.heap.objs.size + 1) scope.names (cloFrom X.env.cells scope.names [])) s3.heap.objs.size X.env)) (compPost (model X.prog X.w) X.A X.xe use Qf (.ref D) s3.heap.objs.size) { s3 with heap := pushCells (s3.heap.push { cls := .type "dict", data := .dict #[] }) scope.names }
  have nfp : ∀ b ∈ fp, (upd H2 D e0) b = none := fun b hb => (f3 b hb).1.1
  generalize hce : compEnvC scope (cellsFrom (s3.heap.objs.size + 1) scope.names (cloFrom X.env.cells scope.names [])) s3.heap.objs.size X.env = ce at I4 pg pt pk pe ⊢
  have cL : ce.locals = s3.heap.objs.size := by subst hce; rfl
  generalize hH3 : upd H2 D e0 = H3 at I3 I4 pg pt pk pe w0 nfp f3
  generalize hs4 : ({ s3 with heap := pushCells (s3.heap.push { cls := .type "dict", data := .dict #[] }) scope.names } : Shared) = s4 at I4 ⊢
  have st4 : tn 0 s4.heap := T.keep _ _ _ st3 fun b _ o e => by rw [← hs4]; exact pushCells_keeps _ _ _ _ (Heap.get?_push_of_some _ e)
  have stat : ∀ {σ' : St} {H' : Hp} {s' : Shared}, Inv (X.blk s3 H3 scope ce fp) [] σ' H' s' → (∀ b ∈ fp, H' b = none) → ∀ b ∈ fp, FpOk (X.blk s3 H3 scope ce fp) [] H' b := fun {σ' H' s'} I' hn b hb =>
    ⟨hn b hb, (I'.ok.exf b hb).1, I'.ok.exfs b hb, .inl hb, fun x c e => (I'.ok.exf b hb).2 x c e, fun p hp => absurd (show p ∈ ([] : List (Addr × Obj)) ++ [] from hp) (by simp)⟩
  have loop : codeAny (model X.prog X.w) X.A (.compLoop (.DictComp kx vx [⟨tg, iter, ifs, 0⟩] scope pos) 0 (.ref it) (.ref D) ce) (compPost (model X.prog X.w) X.A X.xe use Qf (.ref D) s3.heap.objs.size) s4 := by
    refine compLoop_anyD (fun n s' => ∃ i H', Inv (X.blk s3 H3 scope ce fp) [] (wipe σ (own.map (·.2))) H' s' ∧ tn i s'.heap ∧ (∀ b ∈ fp, H' b = none) ∧ W i n H') ?_ m0 ⟨0, H3, I4, st4, nfp, w0⟩
    rintro n s5 ⟨i, H5, I5, st5, n5, w5⟩
    rcases turn i n H5 w5 with ⟨stop, qq⟩ | ⟨go, Nx, hNx, step⟩
    · have td := T.done (X.blk s3 H3 scope ce fp) rfl rfl rfl hc i [] s5 _ H5 (fun _ _ => False) I5 (stat I5 n5) st5 stop
      refine thnF td fun r s6 ⟨hr, I6⟩ => ?_
      subst hr
      -- back in the def's context
      have I7 : Inv X pins σ H5 s6 := I3.call' (ch := fp) I6.os I6.base I6.hok I6.bare fun b hb => ⟨(f3 b hb).1.2.2.2.1, (f3 b hb).1.2.1, (f3 b hb).1.2.2.2.2.1, (f3 b hb).1.2.2.2.2.2⟩
      have nC : H5 s3.heap.objs.size = none := by
        have z : H5 ce.locals = none := I6.free
        rw [cL] at z
        exact z
      obtain ⟨m, hn, _⟩ := I6.loc
      have hn : s6.heap.Ns ce.locals m := hn
      rw [cL] at hn
      exact hRR D s3.heap.objs.size s6 m H5 I7 qq hn (I3.fpOk (Nat.le_refl _) nC)
    · have ti := T.item (X.blk s3 H3 scope ce fp) rfl rfl rfl hc i [] s5 _ H5 (fun _ _ => False) I5 (stat I5 n5) st5 go
      refine thnF ti fun r s6 ⟨u, hr, h6⟩ => ?_
      subst hr
      refine thnF h6 fun _ s7 ⟨x, H7, I7, r7, y7, st7, n7⟩ => ?_
      have I7' := I7.pinned (stat I7 n7) (T.obj _ _ st7)
      refine thnF (pg.run _ s7 _ H7 x u _ I7' r7 (step x H7 y7)) fun _ s8 ⟨σ8, H8, I8, hw8, q8⟩ => ?_
      refine thnF (pt.run _ s8 σ8 H8 _ I8 q8) fun b s9 ⟨H9, I9, q9⟩ => ?_
      -- the turn's end
      have fin : ∀ {s' : Shared} {H' : Hp}, Inv (X.blk s3 H3 scope ce fp) ([] ++ pinsAt fp s7.heap) σ8 H' s' → Nx H' → ∃ m, m < n ∧ ∃ i H', Inv (X.blk s3 H3 scope ce fp) [] (wipe σ (own.map (·.2))) H' s' ∧ tn i s'.heap ∧ (∀ b ∈ fp, H' b = none) ∧ W i m H' := fun {s' H'} I' nx => by
        obtain ⟨m', hm, w'⟩ := hNx H' nx
        have pin' : ∀ b ∈ fp, ∀ o, s7.heap.get? b = some o → s'.heap.get? b = some o ∧ H' b = none := fun b hb o e =>
          let z := I'.pin (b, o) (List.mem_append_right _ (List.mem_append_right _ (mem_pinsAt hb e)))
          ⟨z.1, z.2.1⟩
        have hl : (wipe σ (own.map (·.2))).length = σ8.length := by rw [← hw8, wipe_length]
        refine ⟨m', hm, i + 1, H', (I'.unpinned (pins := [])).weak hl (fun j v e => ?_), T.keep _ _ _ st7 fun b hb o e => (pin' b hb o e).1, fun b hb => ?_, w'⟩
        · rw [← hw8] at e
          exact (wipe_some e).1
        · obtain ⟨o, e, _⟩ := T.obj _ _ st7 b hb
          exact (pin' b hb o e).2
      cases b with
      | false =>
        simp only [Bool.false_eq_true, if_false] at q9 ⊢
        exact fin I9 q9
      | true =>
        simp only [if_true] at q9 ⊢
        refine thnF (pk.run _ s9 σ8 H9 _ I9 q9) fun z s10 ⟨yk, H10, I10, r10, q10⟩ => ?_
        refine thnF (pe.run _ s10 σ8 H10 _ I10 q10) fun z2 s11 ⟨yv, H11, I11, r11, H12, st12, nx⟩ => ?_
        exact hst (Y := X.blk s3 H3 scope ce fp) rfl rfl rfl I11 st12 r10 r11 fun s12 I12 => fin I12 nx
  exact codeAny_compStart_dict loop (T.self X.A 0 _ _ _ st4 loop)
/-- as a value -/
theorem pe_dcS {kx vx tg iter : Expr} {ifs : List Expr} {scope : Scope} {own : List (Str × Nat)} {pos : Pos} {e0 : HO} {Sto : Addr → V → V → Hp → Hp → Prop} {wi : TI} {g : TG} {tt : TT} {tk tv : TE} (he0 : ∀ (H : Hp) (h : Heap), sysModules < h.objs.size → ObjOk X.prog X.w H (h.push { cls := .type "dict", data := .dict #[] }) h.objs.size e0) (hst : ∀ {Y : Cx} {pins : List (Addr × Obj)} {σ : St} {H H' : Hp} {s : Shared} {D : Addr} {y z : V} {u r : Value} {Q : Unit → Shared → Prop} {E : Value → Shared → Prop}, Y.prog = X.prog → Y.w = X.w → Y.A = X.A → Inv Y pins σ H s → Sto D y z H H' → RelV y u → RelV z r → (∀ s', Inv Y pins σ H' s' → Q () s') → wpAny (model Y.prog Y.w) Y.A (dictSet D u r) Q E s) (hc : X.calm = true) (hN : X.N.Nodup) (hi : PI X tg iter wi) (ok : BlkOk X.N X.env.scope scope own)
    (hg : ∀ (s : Shared) (H : Hp) (C : Addr) (cl : List (Str × Addr)) (fp : List Addr), PG (X.blk s H scope (compEnvC scope cl C X.env) fp) tg g) (ht : ∀ (s : Shared) (H : Hp) (C : Addr) (cl : List (Str × Addr)) (fp : List Addr), PTs (X.blk s H scope (compEnvC scope cl C X.env) fp) ifs tt)
    (hk : ∀ (s : Shared) (H : Hp) (C : Addr) (cl : List (Str × Addr)) (fp : List Addr), PE (X.blk s H scope (compEnvC scope cl C X.env) fp) kx tk)
    (he : ∀ (s : Shared) (H : Hp) (C : Addr) (cl : List (Str × Addr)) (fp : List Addr), PE (X.blk s H scope (compEnvC scope cl C X.env) fp) vx tv) (hs : ∀ x, foldedSetIterable iter X.env x = pure x := by intro _; rfl) :
    PE X (.DictComp kx vx [⟨tg, iter, ifs, 0⟩] scope pos) (tDcS e0 Sto wi g tt tk tv (own.map (·.2))) := by
  refine ⟨fun pins s σ H Q I h => ?_⟩
  rw [arm_eval_DictComp]
  refine dcS_core he0 hst hc hN I hi ok hg ht hk he hs h fun D C s' m H' I' q hn f => ⟨m, hn, fun h'' sb => ?_⟩
  obtain ⟨f0, f1, f2, f3, f4, f5⟩ := f
  exact ⟨.ref D, H', I'.turned (t' := s'.toks) (fun b o hb e => (sb.2 b hb).trans e) f0 f1 f3 f4 f5, rfl, q⟩
/-- keys that are tuples of ints and texts -/
def StoT : Addr → V → V → Hp → Hp → Prop := fun D y z H H' => ∃ kvs k b, y = .ref b ∧ H D = some (.dT kvs) ∧ H b = some (.tup (k.map kV)) ∧ kvs.length < sizeLine ∧ H' = upd H D (.dT (putK kvs k z))
theorem pe_dcT {kx vx tg iter : Expr} {ifs : List Expr} {scope : Scope} {own : List (Str × Nat)} {pos : Pos} {wi : TI} {g : TG} {tt : TT} {tk tv : TE} (hu : X.A.units + 1 < cLine) (hc : X.calm = true) (hN : X.N.Nodup) (hi : PI X tg iter wi) (ok : BlkOk X.N X.env.scope scope own)
    (hg : ∀ (s : Shared) (H : Hp) (C : Addr) (cl : List (Str × Addr)) (fp : List Addr), PG (X.blk s H scope (compEnvC scope cl C X.env) fp) tg g) (ht : ∀ (s : Shared) (H : Hp) (C : Addr) (cl : List (Str × Addr)) (fp : List Addr), PTs (X.blk s H scope (compEnvC scope cl C X.env) fp) ifs tt)
    (hk : ∀ (s : Shared) (H : Hp) (C : Addr) (cl : List (Str × Addr)) (fp : List Addr), PE (X.blk s H scope (compEnvC scope cl C X.env) fp) kx tk)
    (he : ∀ (s : Shared) (H : Hp) (C : Addr) (cl : List (Str × Addr)) (fp : List Addr), PE (X.blk s H scope (compEnvC scope cl C X.env) fp) vx tv) (hs : ∀ x, foldedSetIterable iter X.env x = pure x := by intro _; rfl) :
    PE X (.DictComp kx vx [⟨tg, iter, ifs, 0⟩] scope pos) (tDcS (.dT []) StoT wi g tt tk tv (own.map (·.2))) := by
  refine pe_dcS (fun H h hb => dt_empty h hb) (fun {Y pins σ H H' s D y z u r Q E} e1 e2 e3 I st ry rz k => ?_) hc hN hi ok hg ht hk he hs
  obtain ⟨kvs, ks, b, rfl, hD, hb, hl, rfl⟩ := st
  cases ry
  exact d_storeT (X := Y) (by rw [e3]; exact hu) I hD hb hl rz k
theorem dcS_it {e0 : HO} {Sto : Addr → V → V → Hp → Hp → Prop} {J : It} {n : Nat} {G : Hp → Prop} {Y : Nat → Hp → V → Hp → Prop} (w : Walk J n G Y) {g : TG} {tt : TT} {tk tv : TE} {vs : List Nat} {σ : St} {H1 : Hp} {D : Addr} {Qd : Hp → Prop} (Pv : Nat → Hp → Prop) (h0 : Pv 0 (upd H1 D e0)) (hG : ∀ i H, i ≤ n → Pv i H → G H)
    (hs : ∀ i x H H', i < n → Pv i H → Y i H x H' → g x (wipe σ vs) H' fun σ2 H2 => wipe σ2 vs = wipe σ vs ∧ tt σ2 H2 fun b H3 =>
      if b = true then tk σ2 H3 fun y H4 => tv σ2 H4 fun z H5 => ∃ H6, Sto D y z H5 H6 ∧ Pv (i + 1) H6 else Pv (i + 1) H3) (hd : ∀ H, Pv n H → Qd H) :
    ∃ W : Nat → Nat → Hp → Prop, (∃ m, W 0 m (upd H1 D e0)) ∧ ∀ i m H, W i m H →
      (J.stop i H ∧ Qd H) ∨ (J.go i H ∧ ∃ Nx : Hp → Prop, (∀ H', Nx H' → ∃ m', m' < m ∧ W (i + 1) m' H') ∧ ∀ x H', J.yld i H x H' → g x (wipe σ vs) H' fun σ2 H2 => wipe σ2 vs = wipe σ vs ∧ tt σ2 H2 fun b H3 =>
        if b = true then tk σ2 H3 fun y H4 => tv σ2 H4 fun z H5 => ∃ H6, Sto D y z H5 H6 ∧ Nx H6 else Nx H3) := by
  refine ⟨fun i m H => m = n - i ∧ i ≤ n ∧ Pv i H, ⟨n, by simp, Nat.zero_le _, h0⟩, ?_⟩
  rintro i m H ⟨rfl, hi, p⟩
  have q := hG i H hi p
  by_cases hlt : i < n
  · refine .inr ⟨w.goes i H hlt q, Pv (i + 1), fun H' p' => ⟨n - (i + 1), by omega, rfl, hlt, p'⟩, fun x H' y => hs i x H H' hlt p (w.yields i H x H' hlt q y)⟩
  · have e : i = n := by omega
    subst e
    exact .inl ⟨w.stops H q, hd H p⟩
end
end L2.Vx

set_option Elab.async false
set_option linter.all false
namespace L2.BF
/-! ### bounds of differences: rounds of lowering, without the model -/
variable {α : Type} [DecidableEq α]
abbrev B (α : Type) := α × α × Int
abbrev Sums (α : Type) := α → Option Int
abbrev Fst (α : Type) := α → Option (B α)
def put {β : Type} (f : α → Option β) (a : α) (b : β) : α → Option β := fun x => if x = a then some b else f x
theorem put_same {β : Type} {f : α → Option β} {a : α} {b : β} : put f a b a = some b := if_pos rfl
theorem put_ne {β : Type} {f : α → Option β} {a x : α} {b : β} (h : x ≠ a) : put f a b x = f x := if_neg h
/-- whether this bound lowers -/
def less (S : Sums α) (b : B α) (v : Int) : Bool := match S b.1 with
  | none => true
  | some u => decide (v + b.2.2 < u)
structure Sta (α : Type) where
  S : Sums α
  F : Fst α
  low : Option α
def relax (t : Sta α) (b : B α) : Sta α := match t.S b.2.1 with
  | none => t
  | some v => if less t.S b v = true then ⟨put t.S b.1 (v + b.2.2), put t.F b.1 b, some b.1⟩ else t
def round (bs : List (B α)) (S : Sums α) (F : Fst α) : Sta α := bs.foldl relax ⟨S, F, none⟩
/-- sums only get less -/
def Le (S T : Sums α) : Prop := ∀ x v, S x = some v → ∃ u, T x = some u ∧ u ≤ v
theorem Le.refl (S : Sums α) : Le S S := fun _ v h => ⟨v, h, Int.le_refl v⟩
theorem Le.trans {S T U : Sums α} (h : Le S T) (k : Le T U) : Le S U := fun x v e => by
  obtain ⟨u, e1, l1⟩ := h x v e
  obtain ⟨y, e2, l2⟩ := k x u e1
  exact ⟨y, e2, Int.le_trans l2 l1⟩
theorem relax_le (t : Sta α) (b : B α) : Le t.S (relax t b).S := by
  unfold relax
  split
  · exact Le.refl _
  · rename_i v hv
    split
    · rename_i hl
      intro x u hx
      by_cases e : x = b.1
      · subst e
        refine ⟨_, put_same, ?_⟩
        unfold less at hl
        rw [hx] at hl
        have := of_decide_eq_true hl
        omega
      · exact ⟨u, (put_ne e).trans hx, Int.le_refl u⟩
    · exact Le.refl _
theorem fold_le (bs : List (B α)) : ∀ t : Sta α, Le t.S (bs.foldl relax t).S := by
  induction bs with
  | nil => exact fun t => Le.refl _
  | cons b bs ih => exact fun t => (relax_le t b).trans (ih _)
/-- behind its bound a term is low enough -/
theorem relax_does (t : Sta α) (b : B α) {v : Int} (h : t.S b.2.1 = some v) : ∃ u, (relax t b).S b.1 = some u ∧ u ≤ v + b.2.2 := by
  unfold relax
  rw [h]
  dsimp only
  split
  · exact ⟨_, put_same, Int.le_refl _⟩
  · rename_i hl
    unfold less at hl
    cases e : t.S b.1 with
    | none => rw [e] at hl; exact absurd rfl hl
    | some u =>
      rw [e] at hl
      refine ⟨u, rfl, ?_⟩
      have : ¬ (v + b.2.2 < u) := fun q => hl (decide_eq_true q)
      omega
theorem fold_does (bs : List (B α)) : ∀ (t : Sta α) (b : B α), b ∈ bs → ∀ v, t.S b.2.1 = some v → ∃ u, (bs.foldl relax t).S b.1 = some u ∧ u ≤ v + b.2.2 := by
  induction bs with
  | nil => intro t b hb; cases hb
  | cons c bs ih =>
    intro t b hb v hv
    rcases List.mem_cons.mp hb with rfl | hb
    · obtain ⟨u, e, l⟩ := relax_does t b hv
      obtain ⟨y, e2, l2⟩ := fold_le bs (relax t b) _ _ e
      exact ⟨y, e2, Int.le_trans l2 l⟩
    · obtain ⟨u, e, l⟩ := relax_le t c _ _ hv
      obtain ⟨y, e2, l2⟩ := ih (relax t c) b hb u e
      exact ⟨y, e2, by omega⟩
/-- a way, its sum, how many bounds it has -/
inductive Way (bs : List (B α)) : α → α → Int → Nat → Prop where
  | nil (t : α) : Way bs t t 0 0
  | cons {b : B α} {e : α} {s : Int} {n : Nat} (hb : b ∈ bs) (w : Way bs b.2.1 e s n) : Way bs b.1 e (b.2.2 + s) (n + 1)
/-- the sums behind r rounds -/
def after (bs : List (B α)) (S : Sums α) (F : Fst α) : Nat → Sta α
  | 0 => ⟨S, F, none⟩
  | r + 1 => round bs (after bs S F r).S (after bs S F r).F
theorem after_le (bs : List (B α)) (S : Sums α) (F : Fst α) (r : Nat) : Le (after bs S F r).S (after bs S F (r + 1)).S := fold_le bs ⟨_, _, none⟩
/-- behind r rounds the sums are at most those of all ways of at most r bounds -/
theorem after_way (bs : List (B α)) (S : Sums α) (F : Fst α) : ∀ (r : Nat) (t e : α) (s : Int) (n : Nat), Way bs t e s n → n ≤ r → ∀ v, S e = some v → ∃ u, (after bs S F r).S t = some u ∧ u ≤ s + v
  | 0, t, e, s, n, w, hn, v, hv => by
    cases w with
    | nil => exact ⟨v, hv, by omega⟩
    | cons hb w => omega
  | r + 1, t, e, s, n, w, hn, v, hv => by
    cases w with
    | nil =>
      obtain ⟨u, e1, l1⟩ := after_way bs S F r t t 0 0 (.nil t) (by omega) v hv
      obtain ⟨y, e2, l2⟩ := after_le bs S F r _ _ e1
      exact ⟨y, e2, by omega⟩
    | @cons b _ s n hb w =>
      obtain ⟨u, e1, l1⟩ := after_way bs S F r b.2.1 e s n w (by omega) v hv
      obtain ⟨y, e2, l2⟩ := fold_does bs ⟨(after bs S F r).S, (after bs S F r).F, none⟩ b hb u e1
      exact ⟨y, e2, by omega⟩
/-- each sum is the one of some way to an end -/
def Real (bs : List (B α)) (S0 S : Sums α) : Prop := ∀ t v, S t = some v → ∃ e s n v0, Way bs t e s n ∧ S0 e = some v0 ∧ v = s + v0
theorem real_relax {bs : List (B α)} {S0 : Sums α} {t : Sta α} {b : B α} (hb : b ∈ bs) (h : Real bs S0 t.S) : Real bs S0 (relax t b).S := by
  unfold relax
  split
  · exact h
  · rename_i v hv
    split
    · intro x u hx
      by_cases e : x = b.1
      · subst e
        have hx2 : some (v + b.2.2) = some u := put_same.symm.trans hx
        obtain ⟨e, s, n, v0, w, he, q⟩ := h _ _ hv
        refine ⟨e, b.2.2 + s, n + 1, v0, .cons hb w, he, ?_⟩
        have := Option.some.inj hx2
        omega
      · exact h x u ((put_ne e).symm.trans hx)
    · exact h
theorem real_fold {bs : List (B α)} {S0 : Sums α} : ∀ (cs : List (B α)) (t : Sta α), (∀ c ∈ cs, c ∈ bs) → Real bs S0 t.S → Real bs S0 (cs.foldl relax t).S := by
  intro cs
  induction cs with
  | nil => exact fun t _ h => h
  | cons c cs ih => exact fun t hc h => ih _ (fun d hd => hc d (List.mem_cons_of_mem _ hd)) (real_relax (hc c (List.mem_cons_self ..)) h)
theorem real_after (bs : List (B α)) (S : Sums α) (F : Fst α) : ∀ r, Real bs S (after bs S F r).S
  | 0 => fun t v h => ⟨t, 0, 0, v, .nil t, h, by omega⟩
  | r + 1 => real_fold bs ⟨_, _, none⟩ (fun _ h => h) (real_after bs S F r)
/-- a round that lowers nothing leaves all as it is, and each bound is kept -/
theorem fold_low (bs : List (B α)) : ∀ t : Sta α, (bs.foldl relax t).low = none → t.low = none := by
  induction bs with
  | nil => exact fun t h => h
  | cons b bs ih =>
    intro t h
    have h1 := ih _ h
    unfold relax at h1
    split at h1
    · exact h1
    · split at h1
      · cases h1
      · exact h1
theorem relax_same {t : Sta α} {b : B α} (h : (relax t b).low = none) : relax t b = t := by
  unfold relax at h ⊢
  split
  · rfl
  · rename_i v hv
    rw [hv] at h
    dsimp only at h
    split
    · rename_i hl
      rw [if_pos hl] at h
      cases h
    · rfl
theorem fold_same (bs : List (B α)) : ∀ t : Sta α, (bs.foldl relax t).low = none → bs.foldl relax t = t := by
  induction bs with
  | nil => exact fun t _ => rfl
  | cons b bs ih =>
    intro t h
    have h1 := fold_low bs _ h
    have e := relax_same h1
    have h2 : (bs.foldl relax t).low = none := by
      have : (b :: bs).foldl relax t = bs.foldl relax (relax t b) := rfl
      rw [this, e] at h
      exact h
    show bs.foldl relax (relax t b) = t
    rw [e]
    exact ih t h2
theorem round_kept {bs : List (B α)} {S : Sums α} {F : Fst α} (h : (round bs S F).low = none) : (round bs S F).S = S ∧ (round bs S F).F = F ∧ ∀ b ∈ bs, ∀ v, S b.2.1 = some v → ∃ u, S b.1 = some u ∧ u ≤ v + b.2.2 := by
  have e : round bs S F = ⟨S, F, none⟩ := fold_same bs _ h
  refine ⟨by rw [e], by rw [e], fun b hb v hv => ?_⟩
  obtain ⟨u, e1, l1⟩ := fold_does bs ⟨S, F, none⟩ b hb v hv
  have e2 : (bs.foldl relax ⟨S, F, none⟩) = ⟨S, F, none⟩ := e
  rw [e2] at e1
  exact ⟨u, e1, l1⟩
/-- where each bound is kept, no ring has a sum below 0 -/
theorem way_kept {bs : List (B α)} {S : Sums α} (hk : ∀ b ∈ bs, ∀ v, S b.2.1 = some v → ∃ u, S b.1 = some u ∧ u ≤ v + b.2.2) : ∀ {t e : α} {s : Int} {n : Nat}, Way bs t e s n → ∀ v, S e = some v → ∃ u, S t = some u ∧ u ≤ s + v := by
  intro t e s n w
  induction w with
  | nil t => exact fun v h => ⟨v, h, by omega⟩
  | cons hb w ih =>
    intro v h
    obtain ⟨u, e1, l1⟩ := ih v h
    obtain ⟨y, e2, l2⟩ := hk _ hb u e1
    exact ⟨y, e2, by omega⟩
theorem no_ring {bs : List (B α)} {S : Sums α} (hk : ∀ b ∈ bs, ∀ v, S b.2.1 = some v → ∃ u, S b.1 = some u ∧ u ≤ v + b.2.2) {t : α} {s : Int} {n : Nat} (w : Way bs t t s n) {v : Int} (h : S t = some v) : 0 ≤ s := by
  obtain ⟨u, e, l⟩ := way_kept hk w v h
  rw [h] at e
  have := Option.some.inj e
  omega
/-- a way with the list of its terms -/
inductive SWay (bs : List (B α)) : α → α → Int → List α → Prop where
  | nil (t : α) : SWay bs t t 0 [t]
  | cons {b : B α} {e : α} {s : Int} {l : List α} (hb : b ∈ bs) (w : SWay bs b.2.1 e s l) : SWay bs b.1 e (b.2.2 + s) (b.1 :: l)
theorem SWay.way {bs : List (B α)} {t e : α} {s : Int} {l : List α} (w : SWay bs t e s l) : ∃ n, n + 1 = l.length ∧ Way bs t e s n := by
  induction w with
  | nil t => exact ⟨0, rfl, .nil t⟩
  | cons hb w ih =>
    obtain ⟨n, h, w2⟩ := ih
    exact ⟨n + 1, by rw [List.length_cons, ← h], .cons hb w2⟩
theorem SWay.in_ {bs : List (B α)} {T : List α} (hT : ∀ b ∈ bs, b.1 ∈ T ∧ b.2.1 ∈ T) {t e : α} {s : Int} {l : List α} (w : SWay bs t e s l) (ht : t ∈ T) : ∀ x ∈ l, x ∈ T := by
  induction w with
  | nil t => intro x hx; rw [List.mem_singleton.mp hx]; exact ht
  | cons hb w ih =>
    intro x hx
    rcases List.mem_cons.mp hx with rfl | hx
    · exact (hT _ hb).1
    · exact ih (hT _ hb).2 x hx
theorem SWay.cut {bs : List (B α)} {t e : α} {s : Int} {l : List α} (w : SWay bs t e s l) : ∀ x ∈ l, ∃ s1 n1 s2 l2, Way bs t x s1 n1 ∧ SWay bs x e s2 l2 ∧ s = s1 + s2 ∧ l2.Sublist l := by
  induction w with
  | nil t =>
    intro x hx
    rw [List.mem_singleton.mp hx]
    exact ⟨0, 0, 0, [t], .nil t, .nil t, rfl, List.Sublist.refl _⟩
  | @cons b e s l hb w ih =>
    intro x hx
    rcases List.mem_cons.mp hx with rfl | hx
    · exact ⟨0, 0, b.2.2 + s, b.1 :: l, .nil _, .cons hb w, by omega, List.Sublist.refl _⟩
    · obtain ⟨s1, n1, s2, l2, w1, w2, q, sub⟩ := ih x hx
      exact ⟨b.2.2 + s1, n1 + 1, s2, l2, .cons hb w1, w2, by omega, sub.cons _⟩
/-- without rings below 0 each way has one at most as dear without a term twice -/
theorem simple {bs : List (B α)} (no : ∀ t s n, Way bs t t s n → 0 ≤ s) {t e : α} {s : Int} {n : Nat} (w : Way bs t e s n) : ∃ s2 l, SWay bs t e s2 l ∧ l.Nodup ∧ s2 ≤ s := by
  induction w with
  | nil t => exact ⟨0, [t], .nil t, List.pairwise_singleton _ _, Int.le_refl _⟩
  | @cons b e s n hb w ih =>
    obtain ⟨s2, l, w2, nd, le⟩ := ih
    by_cases h : b.1 ∈ l
    · obtain ⟨s1, n1, s3, l2, u1, u2, q, sub⟩ := w2.cut b.1 h
      have := no _ _ _ (Way.cons hb u1)
      exact ⟨s3, l2, u2, nd.sublist sub, by omega⟩
    · exact ⟨b.2.2 + s2, b.1 :: l, .cons hb w2, List.nodup_cons.mpr ⟨h, nd⟩, by omega⟩
theorem nodup_le : ∀ (l T : List α), l.Nodup → (∀ x ∈ l, x ∈ T) → l.length ≤ T.length
  | [], T, _, _ => Nat.zero_le _
  | x :: l, T, nd, h => by
    obtain ⟨nx, nl⟩ := List.nodup_cons.mp nd
    have hx := h x (List.mem_cons_self ..)
    have k := nodup_le l (T.erase x) nl fun y hy => (List.mem_erase_of_ne (fun e : y = x => nx (by rw [← e]; exact hy))).mpr (h y (List.mem_cons_of_mem _ hy))
    rw [List.length_erase_of_mem hx] at k
    have : 0 < T.length := List.length_pos_of_mem hx
    rw [List.length_cons]
    omega
/-- without rings below 0 the round behind as many rounds as there are terms, less one, lowers nothing -/
theorem settles {bs : List (B α)} {T : List α} (hT : ∀ b ∈ bs, b.1 ∈ T ∧ b.2.1 ∈ T) (no : ∀ t s n, Way bs t t s n → 0 ≤ s) (S : Sums α) (F : Fst α) {r : Nat} (hr : T.length ≤ r + 1) : (round bs (after bs S F r).S (after bs S F r).F).low = none := by
  have key : ∀ cs : List (B α), (∀ c ∈ cs, c ∈ bs) → ∀ t : Sta α, Real bs S t.S → Le (after bs S F r).S t.S → t.low = none → (cs.foldl relax t).low = none := by
    intro cs
    induction cs with
    | nil => exact fun _ t _ _ h => h
    | cons c cs ih =>
      intro hc t hre hle hlow
      have hcb := hc c (List.mem_cons_self ..)
      have same : relax t c = t := by
        unfold relax
        split
        · rfl
        · rename_i v hv
          split
          · rename_i hl
            obtain ⟨e, s, n, v0, w, he, q⟩ := hre _ _ hv
            obtain ⟨s2, l, w2, nd, le⟩ := simple no (Way.cons hcb w)
            obtain ⟨m, hm, w3⟩ := w2.way
            have lim := nodup_le l T nd (w2.in_ hT (hT _ hcb).1)
            obtain ⟨u, e1, l1⟩ := after_way bs S F r _ e s2 m w3 (by omega) v0 he
            obtain ⟨y, e2, l2⟩ := hle _ _ e1
            exfalso
            unfold less at hl
            rw [e2] at hl
            have := of_decide_eq_true hl
            omega
          · rfl
      show (cs.foldl relax (relax t c)).low = none
      rw [same]
      exact ih (fun d hd => hc d (List.mem_cons_of_mem _ hd)) t hre hle hlow
  exact key bs (fun _ h => h) ⟨_, _, none⟩ (real_after bs S F r) (Le.refl _) rfl
/-- where even the last one of as many rounds as there are terms lowers something, there is a ring below 0 -/
theorem ring_of {bs : List (B α)} {T : List α} (hT : ∀ b ∈ bs, b.1 ∈ T ∧ b.2.1 ∈ T) (S : Sums α) (F : Fst α) {r : Nat} (hr : T.length ≤ r + 1) (h : (round bs (after bs S F r).S (after bs S F r).F).low ≠ none) : ∃ t s n, Way bs t t s n ∧ s < 0 := by
  apply Classical.byContradiction
  intro c
  refine h (settles hT (fun t s n w => ?_) S F hr)
  apply Classical.byContradiction
  intro d
  exact c ⟨t, s, n, w, by omega⟩
end L2.BF

set_option Elab.async false
set_option linter.all false
namespace L2.BF
/-! ### the law's own sums, by one middle term more at a time -/
variable {α : Type} [DecidableEq α]
/-- a way of one bound at least, with the list of its terms between -/
inductive Mid (bs : List (B α)) : α → α → Int → List α → Prop where
  | one {b : B α} (hb : b ∈ bs) : Mid bs b.1 b.2.1 b.2.2 []
  | cons {b : B α} {e : α} {s : Int} {l : List α} (hb : b ∈ bs) (w : Mid bs b.2.1 e s l) : Mid bs b.1 e (b.2.2 + s) (b.2.1 :: l)
theorem Mid.join {bs : List (B α)} {x m y : α} {s1 s2 : Int} {l1 l2 : List α} (w : Mid bs x m s1 l1) (v : Mid bs m y s2 l2) : Mid bs x y (s1 + s2) (l1 ++ m :: l2) := by
  induction w with
  | one hb => exact .cons hb v
  | @cons b e s l hb w ih =>
    have := Mid.cons hb (ih v)
    rw [← Int.add_assoc] at this
    exact this
theorem Mid.split {bs : List (B α)} {x y : α} {s : Int} : ∀ {l1 : List α} {m : α} {l2 : List α}, Mid bs x y s (l1 ++ m :: l2) → ∃ s1 s2, Mid bs x m s1 l1 ∧ Mid bs m y s2 l2 ∧ s = s1 + s2 := by
  intro l1
  induction l1 generalizing x s with
  | nil =>
    intro m l2 w
    cases w with
    | cons hb w => exact ⟨_, _, .one hb, w, rfl⟩
  | cons a l1 ih =>
    intro m l2 w
    cases w with
    | cons hb w =>
      obtain ⟨s1, s2, w1, w2, q⟩ := ih w
      exact ⟨_, s2, .cons hb w1, w2, by rw [q, Int.add_assoc]⟩
theorem Mid.way {bs : List (B α)} {x y : α} {s : Int} {l : List α} (w : Mid bs x y s l) : Way bs x y s (l.length + 1) := by
  induction w with
  | @one b hb =>
    have := Way.cons hb (.nil b.2.1)
    rw [Int.add_zero] at this
    exact this
  | cons hb w ih => exact .cons hb ih
theorem Way.mid0 {bs : List (B α)} {x y : α} {s : Int} {n : Nat} (w : Way bs x y s n) : (n = 0 ∧ x = y ∧ s = 0) ∨ ∃ l, Mid bs x y s l := by
  induction w with
  | nil t => exact .inl ⟨rfl, rfl, rfl⟩
  | @cons b e s n hb w ih =>
    rcases ih with ⟨_, h2, h3⟩ | ⟨l, w2⟩
    · subst h2 h3
      rw [Int.add_zero]
      exact .inr ⟨[], .one hb⟩
    · exact .inr ⟨_, .cons hb w2⟩
theorem Way.mid {bs : List (B α)} {x y : α} {s : Int} {n : Nat} (w : Way bs x y s (n + 1)) : ∃ l, Mid bs x y s l := by
  rcases w.mid0 with ⟨h, _⟩ | h
  · cases h
  · exact h
theorem twice : ∀ l : List α, ¬ l.Nodup → ∃ m l1 l2 l3, l = l1 ++ m :: (l2 ++ m :: l3)
  | [], h => absurd List.nodup_nil h
  | a :: l, h => by
    by_cases ha : a ∈ l
    · obtain ⟨l2, l3, e⟩ := List.append_of_mem ha
      exact ⟨a, [], l2, l3, by rw [e]; rfl⟩
    · obtain ⟨m, l1, l2, l3, e⟩ := twice l fun q => h (List.nodup_cons.mpr ⟨ha, q⟩)
      exact ⟨m, a :: l1, l2, l3, by rw [e]; rfl⟩
/-- a ring below 0 gives one without a term twice -/
theorem ring_simple {bs : List (B α)} : ∀ (n : Nat) (x : α) (s : Int) (l : List α), l.length ≤ n → Mid bs x x s l → s < 0 → ∃ y s2 l2, Mid bs y y s2 l2 ∧ (y :: l2).Nodup ∧ s2 < 0 := by
  intro n
  induction n with
  | zero =>
    intro x s l hl w hs
    have e : l = [] := List.length_eq_zero_iff.mp (by omega)
    subst e
    exact ⟨x, s, [], w, List.pairwise_singleton _ _, hs⟩
  | succ n ih =>
    intro x s l hl w hs
    by_cases nd : (x :: l).Nodup
    · exact ⟨x, s, l, w, nd, hs⟩
    by_cases hx : x ∈ l
    · obtain ⟨l1, l2, e⟩ := List.append_of_mem hx
      subst e
      obtain ⟨s1, s2, w1, w2, q⟩ := w.split
      rw [List.length_append, List.length_cons] at hl
      by_cases h1 : s1 < 0
      · exact ih x s1 l1 (by omega) w1 h1
      · exact ih x s2 l2 (by omega) w2 (by omega)
    · obtain ⟨m, l1, l2, l3, e⟩ := twice l fun q => nd (List.nodup_cons.mpr ⟨hx, q⟩)
      subst e
      obtain ⟨s1, s4, w1, w4, q⟩ := w.split
      obtain ⟨s2, s3, w2, w3, q2⟩ := w4.split
      rw [List.length_append, List.length_cons, List.length_append, List.length_cons] at hl
      by_cases h2 : s2 < 0
      · exact ih m s2 l2 (by omega) w2 h2
      · exact ih x (s1 + s3) (l1 ++ m :: l3) (by rw [List.length_append, List.length_cons]; omega) (w1.join w3) (by omega)
abbrev Tab (α : Type) := α × α → Option Int
def lower (f : Tab α) (k : α × α) (v : Int) : Tab α := put f k (min v ((f k).getD v))
def first (bs : List (B α)) : Tab α := bs.foldl (fun f b => lower f (b.1, b.2.1) b.2.2) fun _ => none
def cell (m x : α) (f : Tab α) (y : α) : Tab α := match f (x, m), f (m, y) with
  | some a, some c => lower f (x, y) (a + c)
  | _, _ => f
def line (T : List α) (m : α) (f : Tab α) (x : α) : Tab α := T.foldl (cell m x) f
def stage (T : List α) (f : Tab α) (m : α) : Tab α := T.foldl (line T m) f
def sums (bs : List (B α)) (T : List α) : Tab α := T.foldl (stage T) (first bs)
def LeT (f g : Tab α) : Prop := ∀ k v, f k = some v → ∃ u, g k = some u ∧ u ≤ v
theorem LeT.refl (f : Tab α) : LeT f f := fun _ v h => ⟨v, h, Int.le_refl v⟩
theorem LeT.trans {f g h : Tab α} (a : LeT f g) (b : LeT g h) : LeT f h := fun k v e => by
  obtain ⟨u, e1, l1⟩ := a k v e
  obtain ⟨y, e2, l2⟩ := b k u e1
  exact ⟨y, e2, Int.le_trans l2 l1⟩
theorem lower_le (f : Tab α) (k : α × α) (v : Int) : LeT f (lower f k v) := fun x u h => by
  by_cases e : x = k
  · subst e
    refine ⟨_, put_same, ?_⟩
    rw [h]
    exact Int.min_le_right _ _
  · exact ⟨u, (put_ne e).trans h, Int.le_refl u⟩
theorem lower_does (f : Tab α) (k : α × α) (v : Int) : ∃ u, lower f k v k = some u ∧ u ≤ v := ⟨_, put_same, Int.min_le_left _ _⟩
theorem foldl_le {β : Type} {g : Tab α → β → Tab α} (dec : ∀ f b, LeT f (g f b)) : ∀ (l : List β) (f : Tab α), LeT f (l.foldl g f)
  | [], f => LeT.refl f
  | b :: l, f => (dec f b).trans (foldl_le dec l _)
theorem foldl_hit {β : Type} {g : Tab α → β → Tab α} (dec : ∀ f b, LeT f (g f b)) {k : α × α} {v : Int} : ∀ (l : List β) (f : Tab α) (y : β), y ∈ l → (∀ f2, LeT f f2 → ∃ u, g f2 y k = some u ∧ u ≤ v) → ∃ u, l.foldl g f k = some u ∧ u ≤ v
  | [], _, _, h, _ => by cases h
  | b :: l, f, y, h, hit => by
    rcases List.mem_cons.mp h with rfl | h
    · obtain ⟨u, e, q⟩ := hit f (LeT.refl f)
      obtain ⟨z, e2, q2⟩ := foldl_le dec l (g f y) _ _ e
      exact ⟨z, e2, Int.le_trans q2 q⟩
    · exact foldl_hit dec l (g f b) y h fun f2 h2 => hit f2 ((dec f b).trans h2)
theorem cell_le (m x : α) (f : Tab α) (y : α) : LeT f (cell m x f y) := by
  unfold cell
  split
  · exact lower_le _ _ _
  · exact LeT.refl f
theorem line_le (T : List α) (m : α) (f : Tab α) (x : α) : LeT f (line T m f x) := foldl_le (cell_le m x) T f
theorem stage_le (T : List α) (f : Tab α) (m : α) : LeT f (stage T f m) := foldl_le (line_le T m) T f
theorem stage_does {T : List α} {f : Tab α} {m x y : α} {a c : Int} (hx : x ∈ T) (hy : y ∈ T) (ha : f (x, m) = some a) (hc : f (m, y) = some c) : ∃ u, stage T f m (x, y) = some u ∧ u ≤ a + c := by
  refine foldl_hit (line_le T m) T f x hx fun f2 h2 => ?_
  refine foldl_hit (cell_le m x) T f2 y hy fun f3 h3 => ?_
  obtain ⟨a2, e1, l1⟩ := (h2.trans h3) _ _ ha
  obtain ⟨c2, e2, l2⟩ := (h2.trans h3) _ _ hc
  unfold cell
  rw [e1, e2]
  obtain ⟨u, e, l⟩ := lower_does f3 (x, y) (a2 + c2)
  exact ⟨u, e, by omega⟩
theorem first_does {bs : List (B α)} {b : B α} (hb : b ∈ bs) : ∃ u, first bs (b.1, b.2.1) = some u ∧ u ≤ b.2.2 :=
  foldl_hit (g := fun f (c : B α) => lower f (c.1, c.2.1) c.2.2) (fun f c => lower_le f (c.1, c.2.1) c.2.2) bs (fun _ => none) b hb fun f2 _ => lower_does f2 _ _
/-- behind the middle terms Ms the sums are at most those of ways with unlike terms of Ms between -/
theorem stages_way {bs : List (B α)} {T : List α} (hT : ∀ b ∈ bs, b.1 ∈ T ∧ b.2.1 ∈ T) : ∀ (k : Nat) (Ms : List α), Ms.length = k → ∀ (x y : α) (s : Int) (l : List α), Mid bs x y s l → l.Nodup → (∀ z ∈ l, z ∈ Ms) → x ∈ T → y ∈ T → (∀ z ∈ Ms, z ∈ T) → ∃ u, Ms.foldl (stage T) (first bs) (x, y) = some u ∧ u ≤ s := by
  intro k
  induction k with
  | zero =>
    intro Ms hM x y s l w nd hl hx hy hMT
    have e : Ms = [] := List.length_eq_zero_iff.mp hM
    subst e
    cases w with
    | one hb => exact first_does hb
    | cons hb w => exact absurd (hl _ (List.mem_cons_self ..)) (List.not_mem_nil)
  | succ k ih =>
    intro Ms hM x y s l w nd hl hx hy hMT
    have hne : Ms ≠ [] := fun e => by rw [e] at hM; cases hM
    obtain ⟨N, m, rfl⟩ : ∃ N m, Ms = N ++ [m] := ⟨Ms.dropLast, Ms.getLast hne, (List.dropLast_concat_getLast hne).symm⟩
    have hN : N.length = k := by rw [List.length_append, List.length_singleton] at hM; omega
    have hNT : ∀ z ∈ N, z ∈ T := fun z hz => hMT z (List.mem_append_left _ hz)
    have hmT : m ∈ T := hMT m (List.mem_append_right _ (List.mem_singleton.mpr rfl))
    rw [List.foldl_append]
    show ∃ u, stage T (N.foldl (stage T) (first bs)) m (x, y) = some u ∧ u ≤ s
    have drop : ∀ z, z ∈ l → z ≠ m → z ∈ N := fun z hz hn => by
      rcases List.mem_append.mp (hl z hz) with q | q
      · exact q
      · exact absurd (List.mem_singleton.mp q) hn
    by_cases hm : m ∈ l
    · obtain ⟨l1, l2, e⟩ := List.append_of_mem hm
      subst e
      obtain ⟨s1, s2, w1, w2, q⟩ := w.split
      obtain ⟨n1, n2, n3⟩ := List.nodup_append.mp nd
      obtain ⟨n4, n5⟩ := List.nodup_cons.mp n2
      obtain ⟨a, ea, la⟩ := ih N hN x m s1 l1 w1 n1 (fun z hz => drop z (List.mem_append_left _ hz) (fun e => n3 z hz m (List.mem_cons_self ..) e)) hx hmT hNT
      obtain ⟨c, ec, lc⟩ := ih N hN m y s2 l2 w2 n5 (fun z hz => drop z (List.mem_append_right _ (List.mem_cons_of_mem _ hz)) (fun e => n4 (e ▸ hz))) hmT hy hNT
      obtain ⟨u, e, lu⟩ := stage_does hx hy ea ec
      exact ⟨u, e, by omega⟩
    · obtain ⟨u, e, lu⟩ := ih N hN x y s l w nd (fun z hz => drop z hz (fun e => hm (e ▸ hz))) hx hy hNT
      obtain ⟨v, e2, lv⟩ := stage_le T _ m _ _ e
      exact ⟨v, e2, by omega⟩
/-- each sum is the one of some way -/
def RealT (bs : List (B α)) (f : Tab α) : Prop := ∀ x y v, f (x, y) = some v → ∃ l, Mid bs x y v l
theorem real_lower {bs : List (B α)} {f : Tab α} (h : RealT bs f) {x y : α} {v : Int} {l : List α} (w : Mid bs x y v l) : RealT bs (lower f (x, y) v) := fun a c u e => by
  by_cases q : (a, c) = (x, y)
  · have e1 : a = x := congrArg Prod.fst q
    have e2 : c = y := congrArg Prod.snd q
    subst e1 e2
    have e3 : some (min v ((f (a, c)).getD v)) = some u := put_same.symm.trans e
    have e4 := Option.some.inj e3
    cases hf : f (a, c) with
    | none =>
      rw [hf] at e4
      have : u = v := by rw [← e4]; exact Int.min_self v
      rw [this]
      exact ⟨l, w⟩
    | some z =>
      rw [hf] at e4
      have e5 : min v z = u := e4
      by_cases hz : v ≤ z
      · rw [Int.min_eq_left hz] at e5
        rw [← e5]
        exact ⟨l, w⟩
      · rw [Int.min_eq_right (by omega)] at e5
        rw [← e5]
        exact h a c z hf
  · exact h a c u ((put_ne q).symm.trans e)
theorem foldl_real {β : Type} {bs : List (B α)} {g : Tab α → β → Tab α} : ∀ (l : List β) (f : Tab α), (∀ f b, b ∈ l → RealT bs f → RealT bs (g f b)) → RealT bs f → RealT bs (l.foldl g f)
  | [], f, _, h => h
  | b :: l, f, st, h => foldl_real l (g f b) (fun f c hc => st f c (List.mem_cons_of_mem _ hc)) (st f b (List.mem_cons_self ..) h)
theorem real_cell {bs : List (B α)} {f : Tab α} (h : RealT bs f) (m x y : α) : RealT bs (cell m x f y) := by
  unfold cell
  split
  · rename_i a c ha hc
    obtain ⟨l1, w1⟩ := h _ _ _ ha
    obtain ⟨l2, w2⟩ := h _ _ _ hc
    exact real_lower h (w1.join w2)
  · exact h
theorem sums_real (bs : List (B α)) (T : List α) : RealT bs (sums bs T) := by
  refine foldl_real T (first bs) (fun f m _ h => ?_) ?_
  · exact foldl_real T f (fun f x _ h => foldl_real T f (fun f y _ h => real_cell h m x y) h) h
  · exact foldl_real bs _ (fun f b hb h => real_lower h (.one hb)) fun _ _ _ e => by cases e
/-- the law's word: a ring below 0 just where a term's own sum is below 0 -/
theorem ring_iff {bs : List (B α)} {T : List α} (hT : ∀ b ∈ bs, b.1 ∈ T ∧ b.2.1 ∈ T) : (∃ t s n, Way bs t t s n ∧ s < 0) ↔ ∃ t ∈ T, ∃ v, sums bs T (t, t) = some v ∧ v < 0 := by
  constructor
  · rintro ⟨t, s, n, w, hs⟩
    cases n with
    | zero => cases w with
      | nil => exact absurd hs (by decide)
    | succ n =>
      obtain ⟨l, w2⟩ := w.mid
      obtain ⟨y, s2, l2, w3, nd, h3⟩ := ring_simple l.length t s l (Nat.le_refl _) w2 hs
      obtain ⟨n1, n2⟩ := List.nodup_cons.mp nd
      have inT : ∀ {a c : α} {s : Int} {l : List α}, Mid bs a c s l → a ∈ T ∧ ∀ z ∈ l, z ∈ T := by
        intro a c s l w
        induction w with
        | one hb => exact ⟨(hT _ hb).1, fun z hz => by cases hz⟩
        | cons hb w ih =>
          refine ⟨(hT _ hb).1, fun z hz => ?_⟩
          rcases List.mem_cons.mp hz with rfl | hz
          · exact (hT _ hb).2
          · exact ih.2 z hz
      obtain ⟨hy, hz⟩ := inT w3
      obtain ⟨u, e, lu⟩ := stages_way hT T.length T rfl y y s2 l2 w3 n2 hz hy hy (fun z h => h)
      exact ⟨y, hy, u, e, by omega⟩
  · rintro ⟨t, _, v, e, hv⟩
    obtain ⟨l, w⟩ := sums_real bs T t t v e
    exact ⟨t, v, _, w.way, hv⟩
end L2.BF

set_option Elab.async false
set_option linter.all false
namespace L2.BF
/-! ### where the first bounds lead -/
variable {α : Type} [DecidableEq α]
/-- steps along the first bounds -/
inductive PWay (F : Fst α) : α → α → Int → Nat → Prop where
  | nil (t : α) : PWay F t t 0 0
  | cons {t e : α} {b : B α} {s : Int} {n : Nat} (h : F t = some b) (w : PWay F b.2.1 e s n) : PWay F t e (b.2.2 + s) (n + 1)
theorem PWay.join {F : Fst α} {x y z : α} {s1 s2 : Int} {n1 n2 : Nat} (w : PWay F x y s1 n1) (v : PWay F y z s2 n2) : PWay F x z (s1 + s2) (n1 + n2) := by
  induction w with
  | nil t => rw [Int.zero_add, Nat.zero_add]; exact v
  | @cons t e b s n h w ih =>
    have := PWay.cons h (ih v)
    rw [← Int.add_assoc] at this
    rw [show n + 1 + n2 = n + n2 + 1 by omega]
    exact this
/-- what holds of sums and first bounds at all times -/
structure Ok (bs : List (B α)) (S : Sums α) (F : Fst α) : Prop where
  real : ∀ t b, F t = some b → b ∈ bs ∧ b.1 = t ∧ ∃ v u, S t = some v ∧ S b.2.1 = some u ∧ u + b.2.2 ≤ v
  ring : ∀ t s n, PWay F t t s (n + 1) → s < 0
theorem Ok.along {bs : List (B α)} {S : Sums α} {F : Fst α} (h : Ok bs S F) {x y : α} {s : Int} {n : Nat} (w : PWay F x y s n) : ∀ v, S x = some v → ∃ u, S y = some u ∧ s + u ≤ v := by
  induction w with
  | nil t => exact fun v e => ⟨v, e, by omega⟩
  | cons hf w ih =>
    intro v e
    obtain ⟨_, _, v1, u1, e1, e2, l⟩ := h.real _ _ hf
    rw [e] at e1
    have q := Option.some.inj e1
    obtain ⟨u, e3, l3⟩ := ih u1 e2
    exact ⟨u, e3, by omega⟩
/-- steps by the new first bounds: up to the first coming to x they are old ones -/
theorem old_till {F : Fst α} {x : α} {b : B α} {y : α} : ∀ {n : Nat} {s : Int}, PWay (put F x b) y x s n → ∃ s1 n1 s2 n2, PWay F y x s1 n1 ∧ PWay (put F x b) x x s2 n2 ∧ s = s1 + s2 ∧ n = n1 + n2 := by
  intro n
  induction n generalizing y with
  | zero =>
    intro s w
    cases w with
    | nil => exact ⟨0, 0, 0, 0, .nil x, .nil x, rfl, rfl⟩
  | succ n ih =>
    intro s w
    by_cases hy : y = x
    · subst hy
      exact ⟨0, 0, s, n + 1, .nil _, w, by omega, by omega⟩
    · cases w with
      | cons hf w =>
        obtain ⟨s1, n1, s2, n2, w1, w2, q1, q2⟩ := ih w
        rw [put_ne hy] at hf
        exact ⟨_, n1 + 1, s2, n2, .cons hf w1, w2, by rw [q1, Int.add_assoc], by omega⟩
theorem old_or {F : Fst α} {x : α} {b : B α} : ∀ {n : Nat} {y z : α} {s : Int}, PWay (put F x b) y z s n → PWay F y z s n ∨ ∃ s1 n1 s2 n2, PWay (put F x b) y x s1 n1 ∧ PWay (put F x b) x z s2 n2 ∧ s = s1 + s2 ∧ n = n1 + n2 := by
  intro n
  induction n with
  | zero =>
    intro y z s w
    cases w with
    | nil => exact .inl (.nil _)
  | succ n ih =>
    intro y z s w
    by_cases hy : y = x
    · subst hy
      exact .inr ⟨0, 0, s, n + 1, .nil _, w, by omega, by omega⟩
    · cases w with
      | cons hf w =>
        rcases ih w with w1 | ⟨s1, n1, s2, n2, w1, w2, q1, q2⟩
        · rw [put_ne hy] at hf
          exact .inl (.cons hf w1)
        · exact .inr ⟨_, n1 + 1, s2, n2, .cons hf w1, w2, by rw [q1, Int.add_assoc], by omega⟩
theorem ok_relax {bs : List (B α)} {t : Sta α} {b : B α} (hb : b ∈ bs) (h : Ok bs t.S t.F) : Ok bs (relax t b).S (relax t b).F := by
  unfold relax
  split
  · exact h
  rename_i v hv
  split
  case isFalse => exact h
  rename_i hl
  have low : ∀ o, t.S b.1 = some o → v + b.2.2 < o := fun o e => by
    unfold less at hl
    rw [e] at hl
    exact of_decide_eq_true hl
  -- a loop at b.1 by the new first bounds
  have loop : ∀ n s, PWay (put t.F b.1 b) b.1 b.1 s n → (n = 0 ∧ s = 0) ∨ s < 0 := by
    intro n
    induction n using Nat.strongRecOn with
    | ind n ih =>
      intro s w
      cases w with
      | nil => exact .inl ⟨rfl, rfl⟩
      | @cons _ _ c s n hf w =>
        rw [put_same] at hf
        cases hf
        obtain ⟨s1, n1, s2, n2, w1, w2, q1, q2⟩ := old_till w
        obtain ⟨u, e, l⟩ := h.along w1 v hv
        have := low u e
        rcases ih n2 (by omega) s2 w2 with ⟨_, q⟩ | q
        · exact .inr (by omega)
        · exact .inr (by omega)
  refine ⟨fun x c hx => ?_, fun x s n w => ?_⟩
  · by_cases e : x = b.1
    · subst e
      have e2 : some b = some c := put_same.symm.trans hx
      cases e2
      refine ⟨hb, rfl, v + b.2.2, ?_⟩
      by_cases q : b.2.1 = b.1
      · refine ⟨v + b.2.2, put_same, by rw [q]; exact put_same, ?_⟩
        have := low v (by rw [← q]; exact hv)
        omega
      · exact ⟨v, put_same, (put_ne q).trans hv, Int.le_refl _⟩
    · obtain ⟨h1, h2, o, u, e1, e2, l⟩ := h.real x c ((put_ne e).symm.trans hx)
      refine ⟨h1, h2, o, ?_⟩
      by_cases q : c.2.1 = b.1
      · refine ⟨v + b.2.2, (put_ne e).trans e1, by rw [q]; exact put_same, ?_⟩
        rw [q] at e2
        have := low u e2
        omega
      · exact ⟨u, (put_ne e).trans e1, (put_ne q).trans e2, l⟩
  · rcases old_or w with w1 | ⟨s1, n1, s2, n2, w1, w2, q1, q2⟩
    · exact h.ring x s n w1
    · have w3 := w2.join w1
      rcases loop _ _ w3 with ⟨z, _⟩ | q
      · omega
      · omega
theorem ok_fold {bs : List (B α)} : ∀ (cs : List (B α)) (t : Sta α), (∀ c ∈ cs, c ∈ bs) → Ok bs t.S t.F → Ok bs (cs.foldl relax t).S (cs.foldl relax t).F := by
  intro cs
  induction cs with
  | nil => exact fun t _ h => h
  | cons c cs ih => exact fun t hc h => ih _ (fun d hd => hc d (List.mem_cons_of_mem _ hd)) (ok_relax (hc c (List.mem_cons_self ..)) h)
theorem ok_after (bs : List (B α)) (S : Sums α) : ∀ r, Ok bs (after bs S (fun _ => none) r).S (after bs S (fun _ => none) r).F
  | 0 => ⟨fun t b h => (by cases h), fun t s n w => (by cases w with | cons h _ => exact absurd h (fun z => by cases z))⟩
  | r + 1 => ok_fold bs ⟨_, _, none⟩ (fun _ h => h) (ok_after bs S r)
/-! the round in which a term got less last -/
def lows (t : Sta α) (b : B α) : Bool := match t.S b.2.1 with
  | none => false
  | some v => less t.S b v
def mark (r : Nat) (t : Sta α) (R : α → Nat) (b : B α) : α → Nat := if lows t b = true then fun x => if x = b.1 then r else R x else R
def foldG (r : Nat) : List (B α) → Sta α → (α → Nat) → Sta α × (α → Nat)
  | [], t, R => (t, R)
  | b :: bs, t, R => foldG r bs (relax t b) (mark r t R b)
theorem foldG_fst (r : Nat) : ∀ (bs : List (B α)) (t : Sta α) (R : α → Nat), (foldG r bs t R).1 = bs.foldl relax t
  | [], t, R => rfl
  | b :: bs, t, R => foldG_fst r bs (relax t b) (mark r t R b)
theorem relax_not {t : Sta α} {b : B α} (h : lows t b = false) : relax t b = t := by
  unfold lows at h
  unfold relax
  split
  · rfl
  · rename_i v hv
    rw [hv] at h
    dsimp only at h
    rw [if_neg (by rw [h]; exact Bool.false_ne_true)]
theorem relax_yes {t : Sta α} {b : B α} (h : lows t b = true) : ∃ v, t.S b.2.1 = some v ∧ less t.S b v = true ∧ relax t b = ⟨put t.S b.1 (v + b.2.2), put t.F b.1 b, some b.1⟩ := by
  unfold lows at h
  unfold relax
  cases hv : t.S b.2.1 with
  | none => rw [hv] at h; cases h
  | some v =>
    rw [hv] at h
    dsimp only at h ⊢
    exact ⟨v, rfl, h, if_pos h⟩
/-- in round r: marks are at most r, lowered terms have first bounds, these lead to terms marked one less at least; what is long unchanged is kept -/
structure Gst (bs : List (B α)) (r : Nat) (t : Sta α) (R : α → Nat) (done : List (B α)) : Prop where
  most : ∀ x, R x ≤ r
  has : ∀ x, 1 ≤ R x → ∃ b, t.F x = some b
  next : ∀ x b, t.F x = some b → 1 ≤ R x ∧ R x ≤ R b.2.1 + 1
  old : ∀ b ∈ bs, R b.2.1 + 2 ≤ r → ∀ v, t.S b.2.1 = some v → ∃ u, t.S b.1 = some u ∧ u ≤ v + b.2.2
  new : ∀ b ∈ done, R b.2.1 + 1 ≤ r → ∀ v, t.S b.2.1 = some v → ∃ u, t.S b.1 = some u ∧ u ≤ v + b.2.2
  low : ∀ x, t.low = some x → R x = r
theorem gst_step {bs : List (B α)} {r : Nat} (hr : 1 ≤ r) {t : Sta α} {R : α → Nat} {done : List (B α)} {b : B α} (hb : b ∈ bs) (G : Gst bs r t R done) : Gst bs r (relax t b) (mark r t R b) (done ++ [b]) := by
  cases hl : lows t b with
  | false =>
    have e1 := relax_not hl
    have e2 : mark r t R b = R := if_neg (by rw [hl]; exact Bool.false_ne_true)
    rw [e2]
    refine ⟨G.most, fun x h => ?_, fun x c h => ?_, fun c hc h v e => ?_, fun c hc h v e => ?_, fun x h => ?_⟩
    · rw [e1]; exact G.has x h
    · rw [e1] at h; exact G.next x c h
    · rw [e1] at e ⊢; exact G.old c hc h v e
    · rcases List.mem_append.mp hc with hc | hc
      · rw [e1] at e ⊢; exact G.new c hc h v e
      · rw [List.mem_singleton.mp hc] at e ⊢
        have e0 : t.S b.2.1 = some v := by rw [e1] at e; exact e
        exact relax_does t b e0
    · rw [e1] at h; exact G.low x h
  | true =>
    obtain ⟨v0, hv0, hless, e1⟩ := relax_yes hl
    have e2 : mark r t R b = fun x => if x = b.1 then r else R x := if_pos hl
    have m1 : mark r t R b b.1 = r := by rw [e2]; exact if_pos rfl
    have m2 : ∀ x, x ≠ b.1 → mark r t R b x = R x := fun x h => by rw [e2]; exact if_neg h
    have le := relax_le t b
    have lowR : r ≤ R b.2.1 + 1 := by
      apply Classical.byContradiction
      intro c
      obtain ⟨u, e, l⟩ := G.old b hb (by omega) v0 hv0
      unfold less at hless
      rw [e] at hless
      have := of_decide_eq_true hless
      omega
    have keep : ∀ (c : B α), c.2.1 ≠ b.1 → ∀ v, (relax t b).S c.2.1 = some v → (∀ v, t.S c.2.1 = some v → ∃ u, t.S c.1 = some u ∧ u ≤ v + c.2.2) → ∃ u, (relax t b).S c.1 = some u ∧ u ≤ v + c.2.2 := fun c hn v e k => by
      have e0 : t.S c.2.1 = some v := by rw [e1] at e; exact (put_ne hn).symm.trans e
      obtain ⟨u, e3, l⟩ := k v e0
      obtain ⟨y, e4, l4⟩ := le _ _ e3
      exact ⟨y, e4, by omega⟩
    refine ⟨fun x => ?_, fun x h => ?_, fun x c h => ?_, fun c hc h v e => ?_, fun c hc h v e => ?_, fun x h => ?_⟩
    · by_cases hx : x = b.1
      · rw [hx, m1]; exact Nat.le_refl _
      · rw [m2 x hx]; exact G.most x
    · by_cases hx : x = b.1
      · exact ⟨b, by rw [e1, hx]; exact put_same⟩
      · rw [m2 x hx] at h
        obtain ⟨c, q⟩ := G.has x h
        exact ⟨c, by rw [e1]; exact (put_ne hx).trans q⟩
    · by_cases hx : x = b.1
      · rw [e1, hx] at h
        have q : some b = some c := put_same.symm.trans h
        cases q
        rw [hx, m1]
        refine ⟨hr, ?_⟩
        by_cases hs : b.2.1 = b.1
        · rw [hs, m1]; omega
        · rw [m2 _ hs]; exact lowR
      · rw [e1] at h
        have q := G.next x c ((put_ne hx).symm.trans h)
        rw [m2 x hx]
        refine ⟨q.1, ?_⟩
        by_cases hs : c.2.1 = b.1
        · rw [hs, m1]
          have := G.most x
          omega
        · rw [m2 _ hs]; exact q.2
    · have hn : c.2.1 ≠ b.1 := fun z => by rw [z, m1] at h; omega
      rw [m2 _ hn] at h
      exact keep c hn v e (G.old c hc h)
    · have hn : c.2.1 ≠ b.1 := fun z => by rw [z, m1] at h; omega
      rw [m2 _ hn] at h
      rcases List.mem_append.mp hc with hc | hc
      · exact keep c hn v e (G.new c hc h)
      · rw [List.mem_singleton.mp hc] at hn e ⊢
        have e0 : t.S b.2.1 = some v := by rw [e1] at e; exact (put_ne hn).symm.trans e
        exact relax_does t b e0
    · rw [e1] at h
      have q : b.1 = x := Option.some.inj h
      rw [← q, m1]
theorem gst_fold {bs : List (B α)} {r : Nat} (hr : 1 ≤ r) : ∀ (cs done : List (B α)) (t : Sta α) (R : α → Nat), (∀ c ∈ cs, c ∈ bs) → Gst bs r t R done → Gst bs r (foldG r cs t R).1 (foldG r cs t R).2 (done ++ cs)
  | [], done, t, R, _, G => by rw [List.append_nil]; exact G
  | c :: cs, done, t, R, hc, G => by
    have := gst_fold hr cs (done ++ [c]) (relax t c) (mark r t R c) (fun d hd => hc d (List.mem_cons_of_mem _ hd)) (gst_step hr (hc c (List.mem_cons_self ..)) G)
    rw [List.append_assoc] at this
    exact this
/-- the marks behind r rounds -/
theorem marks (bs : List (B α)) (S : Sums α) : ∀ r, ∃ R, Gst bs (r + 1) ⟨(after bs S (fun _ => none) r).S, (after bs S (fun _ => none) r).F, none⟩ R []
  | 0 => ⟨fun _ => 0, fun _ => by omega, fun x h => by omega, fun x b h => (by cases h), fun b _ h => by omega, fun b h => (by cases h), fun x h => (by cases h)⟩
  | r + 1 => by
    obtain ⟨R, G⟩ := marks bs S r
    have G2 := gst_fold (by omega) bs [] _ R (fun _ h => h) G
    rw [foldG_fst, List.nil_append] at G2
    refine ⟨_, fun x => Nat.le_succ_of_le (G2.most x), G2.has, G2.next, fun b hb h => G2.new b hb (by omega), fun b h => (by cases h), fun x h => (by cases h)⟩
/-- from a term that got less in round r + 1 the first bounds lead on for as many steps -/
theorem leads (bs : List (B α)) (S : Sums α) (r : Nat) {x : α} (h : (round bs (after bs S (fun _ => none) r).S (after bs S (fun _ => none) r).F).low = some x) :
    ∀ k, k ≤ r + 1 → ∃ y s, PWay (after bs S (fun _ => none) (r + 1)).F x y s k := by
  obtain ⟨R, G⟩ := marks bs S r
  have G2 := gst_fold (by omega) bs [] _ R (fun _ h => h) G
  rw [foldG_fst, List.nil_append] at G2
  generalize (foldG (r + 1) bs ⟨(after bs S (fun _ => none) r).S, (after bs S (fun _ => none) r).F, none⟩ R).2 = R2 at G2
  have e : bs.foldl relax ⟨(after bs S (fun _ => none) r).S, (after bs S (fun _ => none) r).F, none⟩ = after bs S (fun _ => none) (r + 1) := rfl
  rw [e] at G2
  have hx : R2 x = r + 1 := G2.low x h
  have key : ∀ k y, k ≤ R2 y → ∃ z s, PWay (after bs S (fun _ => none) (r + 1)).F y z s k := by
    intro k
    induction k with
    | zero => exact fun y _ => ⟨y, 0, .nil y⟩
    | succ k ih =>
      intro y hy
      obtain ⟨b, hb⟩ := G2.has y (by omega)
      obtain ⟨_, q⟩ := G2.next y b hb
      obtain ⟨z, s, w⟩ := ih b.2.1 (by omega)
      exact ⟨z, _, .cons hb w⟩
  exact fun k hk => key k x (by omega)
end L2.BF

set_option Elab.async false
set_option linter.all false
namespace L2.BF
/-! ### behind as many steps as there are terms stands a term of a ring below 0 -/
variable {α : Type} [DecidableEq α]
inductive PN (F : Fst α) : α → α → List α → Prop where
  | nil (t : α) : PN F t t [t]
  | cons {t e : α} {b : B α} {l : List α} (h : F t = some b) (w : PN F b.2.1 e l) : PN F t e (t :: l)
theorem PWay.pn {F : Fst α} {x y : α} {s : Int} {n : Nat} (w : PWay F x y s n) : ∃ l, PN F x y l ∧ l.length = n + 1 := by
  induction w with
  | nil t => exact ⟨[t], .nil t, rfl⟩
  | cons h w ih =>
    obtain ⟨l, q, e⟩ := ih
    exact ⟨_ :: l, .cons h q, by rw [List.length_cons, e]⟩
theorem PN.tail {F : Fst α} {y : α} : ∀ {l1 : List α} {x m : α} {l2 : List α}, PN F x y (l1 ++ m :: l2) → PN F m y (m :: l2)
  | [], x, m, l2, w => by
    have e : x = m := by
      generalize hl : ([] : List α) ++ m :: l2 = l at w
      cases w with
      | nil => exact (List.cons.inj hl).1.symm
      | cons h w => exact (List.cons.inj hl).1.symm
    subst e
    exact w
  | a :: l1, x, m, l2, w => by
    generalize hl : (a :: l1) ++ m :: l2 = l at w
    cases w with
    | nil =>
      have := congrArg List.length hl
      simp at this
    | cons h w =>
      have q := (List.cons.inj hl).2
      rw [← q] at w
      exact PN.tail w
theorem PN.head {F : Fst α} {y : α} : ∀ {l1 : List α} {x m : α} {l2 : List α}, PN F x y (l1 ++ m :: l2) → ∃ s, PWay F x m s l1.length
  | [], x, m, l2, w => by
    have e : x = m := by
      generalize hl : ([] : List α) ++ m :: l2 = l at w
      cases w with
      | nil => exact (List.cons.inj hl).1.symm
      | cons h w => exact (List.cons.inj hl).1.symm
    subst e
    exact ⟨0, .nil _⟩
  | a :: l1, x, m, l2, w => by
    generalize hl : (a :: l1) ++ m :: l2 = l at w
    cases w with
    | nil =>
      have := congrArg List.length hl
      simp at this
    | cons h w =>
      have q := (List.cons.inj hl).2
      rw [← q] at w
      obtain ⟨s, v⟩ := PN.head w
      exact ⟨_, .cons h v⟩
theorem PN.in_ {bs : List (B α)} {T : List α} {F : Fst α} (hF : ∀ t b, F t = some b → b ∈ bs) (hT : ∀ b ∈ bs, b.1 ∈ T ∧ b.2.1 ∈ T) {x y : α} {l : List α} (w : PN F x y l) (hx : x ∈ T) : ∀ z ∈ l, z ∈ T := by
  induction w with
  | nil t => intro z hz; rw [List.mem_singleton.mp hz]; exact hx
  | cons h w ih =>
    intro z hz
    rcases List.mem_cons.mp hz with rfl | hz
    · exact hx
    · exact ih (hT _ (hF _ _ h)).2 z hz
theorem PN.way {F : Fst α} {x y : α} {l : List α} (w : PN F x y l) : ∃ s n, PWay F x y s n := by
  induction w with
  | nil t => exact ⟨0, 0, .nil t⟩
  | cons h w ih =>
    obtain ⟨s, n, z⟩ := ih
    exact ⟨_, _, .cons h z⟩
/-- a ring moves along with its terms -/
theorem ring_on {F : Fst α} {m y : α} {s : Int} {a : Nat} (w : PWay F m y s a) : ∀ {s2 : Int} {c : Nat}, PWay F m m s2 (c + 1) → ∃ s3, PWay F y y s3 (c + 1) := by
  induction w with
  | nil t => exact fun {s2} {c} v => ⟨s2, v⟩
  | @cons t e b s n h w ih =>
    intro s2 c v
    cases v with
    | cons h2 v =>
      rw [h] at h2
      cases h2
      exact ih (v.join (.cons h (.nil _)))
theorem behind (bs : List (B α)) (T : List α) (S : Sums α) (r : Nat) (hT : ∀ b ∈ bs, b.1 ∈ T ∧ b.2.1 ∈ T) (hr : T.length ≤ r + 1) {x : α} (hx : x ∈ T) (h : (round bs (after bs S (fun _ => none) r).S (after bs S (fun _ => none) r).F).low = some x) :
    ∃ y s, PWay (after bs S (fun _ => none) (r + 1)).F x y s (r + 1) ∧ ∃ s2 c, PWay (after bs S (fun _ => none) (r + 1)).F y y s2 (c + 1) ∧ s2 < 0 ∧ c ≤ r := by
  obtain ⟨y, s, w⟩ := leads bs S r h (r + 1) (Nat.le_refl _)
  have ok := ok_after bs S (r + 1)
  refine ⟨y, s, w, ?_⟩
  obtain ⟨l, q, e⟩ := w.pn
  have hin := q.in_ (fun t b hb => (ok.real t b hb).1) hT hx
  have nd : ¬ l.Nodup := fun nd => by
    have := nodup_le l T nd hin
    omega
  obtain ⟨m, l1, l2, l3, el⟩ := twice l nd
  subst el
  have q2 := q.tail
  have e3 : m :: (l2 ++ m :: l3) = (m :: l2) ++ m :: l3 := rfl
  rw [e3] at q2
  obtain ⟨s2, v⟩ := q2.head
  have q3 := q2.tail
  obtain ⟨s4, n, u⟩ := q3.way
  obtain ⟨s3, z⟩ := ring_on u v
  refine ⟨s3, _, z, ok.ring _ _ _ z, ?_⟩
  rw [List.length_append, List.length_cons, List.length_append, List.length_cons] at e
  omega
end L2.BF

set_option Elab.async false
set_option linter.all false
namespace L2.BF
/-! ### the least sums to one term, beside the law's own -/
variable {α : Type} [DecidableEq α]
theorem SWay.mid {bs : List (B α)} {t e : α} {s : Int} {l : List α} (w : SWay bs t e s l) : l.Nodup → t ∈ l ∧ ((t = e ∧ s = 0) ∨ ∃ l2, Mid bs t e s l2 ∧ l2.Nodup ∧ ∀ z ∈ l2, z ∈ l ∧ z ≠ t) := by
  induction w with
  | nil t => exact fun _ => ⟨List.mem_singleton.mpr rfl, .inl ⟨rfl, rfl⟩⟩
  | @cons b e s l hb w ih =>
    intro nd
    obtain ⟨n1, n2⟩ := List.nodup_cons.mp nd
    refine ⟨List.mem_cons_self .., .inr ?_⟩
    obtain ⟨hm, h⟩ := ih n2
    rcases h with ⟨h2, h3⟩ | ⟨l2, m, n3, hz⟩
    · subst h2 h3
      rw [Int.add_zero]
      exact ⟨[], .one hb, List.nodup_nil, fun z hz => by cases hz⟩
    · refine ⟨b.2.1 :: l2, .cons hb m, List.nodup_cons.mpr ⟨fun q => (hz _ q).2 rfl, n3⟩, fun z q => ?_⟩
      rcases List.mem_cons.mp q with rfl | q
      · exact ⟨List.mem_cons_of_mem _ hm, fun e => n1 (e ▸ hm)⟩
      · exact ⟨List.mem_cons_of_mem _ (hz z q).1, fun e => n1 (e ▸ (hz z q).1)⟩
def only (o : α) : Sums α := fun x => if x = o then some 0 else none
/-- without rings below 0, and where each bound is kept, the sums to one end are the law's -/
theorem least_eq {bs : List (B α)} {T : List α} (hT : ∀ b ∈ bs, b.1 ∈ T ∧ b.2.1 ∈ T) (no : ∀ t s n, Way bs t t s n → 0 ≤ s) {o : α} {S : Sums α} (hre : Real bs (only o) S) (hle : Le (only o) S)
    (hk : ∀ b ∈ bs, ∀ v, S b.2.1 = some v → ∃ u, S b.1 = some u ∧ u ≤ v + b.2.2) {x : α} (hx : x ∈ T) (ho : o ∈ T) (hne : x ≠ o) : S x = sums bs T (x, o) := by
  have end_ : ∀ e v0, only o e = some v0 → e = o ∧ v0 = 0 := fun e v0 h => by
    unfold only at h
    by_cases q : e = o
    · rw [if_pos q] at h
      exact ⟨q, (Option.some.inj h).symm⟩
    · rw [if_neg q] at h; cases h
  obtain ⟨w0, e0, l0⟩ := hle o 0 (if_pos rfl)
  have up : ∀ v, S x = some v → ∃ u, sums bs T (x, o) = some u ∧ u ≤ v := fun v e => by
    obtain ⟨f, s, n, v0, w, hf, q⟩ := hre x v e
    obtain ⟨rfl, rfl⟩ := end_ f v0 hf
    obtain ⟨s2, l, w2, nd, le⟩ := simple no w
    have inT := w2.in_ hT hx
    rcases (w2.mid nd).2 with ⟨h1, _⟩ | ⟨l2, m, n2, hz⟩
    · exact absurd h1 hne
    · obtain ⟨u, eu, lu⟩ := stages_way hT T.length T rfl x f s2 l2 m n2 (fun z q => inT z (hz z q).1) hx ho (fun z h => h)
      exact ⟨u, eu, by omega⟩
  have down : ∀ u, sums bs T (x, o) = some u → ∃ v, S x = some v ∧ v ≤ u := fun u e => by
    obtain ⟨l, m⟩ := sums_real bs T x o u e
    obtain ⟨v, ev, lv⟩ := way_kept hk m.way w0 e0
    exact ⟨v, ev, by omega⟩
  cases h : S x with
  | none =>
    cases h2 : sums bs T (x, o) with
    | none => rfl
    | some u =>
      obtain ⟨v, e, _⟩ := down u h2
      rw [h] at e
      cases e
  | some v =>
    obtain ⟨u, e, l⟩ := up v h
    obtain ⟨y, e2, l2⟩ := down u e
    rw [h] at e2
    have := Option.some.inj e2
    rw [e]
    congr 1
    omega
end L2.BF

set_option Elab.async false
set_option linter.all false
namespace L2.BF
/-! ### the way that the first bounds tell -/
variable {α : Type} [DecidableEq α]
theorem Ok.way {bs : List (B α)} {S : Sums α} {F : Fst α} (h : Ok bs S F) {x y : α} {s : Int} {n : Nat} (w : PWay F x y s n) : Way bs x y s n := by
  induction w with
  | nil t => exact .nil t
  | cons hf w ih =>
    obtain ⟨hb, e, _⟩ := h.real _ _ hf
    have := Way.cons hb ih
    rw [e] at this
    exact this
/-- a term has a first bound, or its sum is the one it began with; with a first bound it is less -/
structure Had (S0 S : Sums α) (F : Fst α) : Prop where
  or_ : ∀ x v, S x = some v → (∃ b, F x = some b) ∨ S0 x = some v
  less : ∀ x b v0, F x = some b → S0 x = some v0 → ∃ v, S x = some v ∧ v < v0
theorem had_relax {S0 : Sums α} {t : Sta α} (b : B α) (hle : Le S0 t.S) (h : Had S0 t.S t.F) : Had S0 (relax t b).S (relax t b).F := by
  cases hl : lows t b with
  | false => rw [relax_not hl]; exact h
  | true =>
    obtain ⟨v, hv, hless, e⟩ := relax_yes hl
    rw [e]
    refine ⟨fun x u hx => ?_, fun x c v0 hx h0 => ?_⟩
    · by_cases q : x = b.1
      · exact .inl ⟨b, by rw [q]; exact put_same⟩
      · rcases h.or_ x u ((put_ne q).symm.trans hx) with ⟨c, hc⟩ | hc
        · exact .inl ⟨c, (put_ne q).trans hc⟩
        · exact .inr hc
    · by_cases q : x = b.1
      · subst q
        obtain ⟨u, e1, l1⟩ := hle _ _ h0
        refine ⟨_, put_same, ?_⟩
        unfold L2.BF.less at hless
        rw [e1] at hless
        have := of_decide_eq_true hless
        omega
      · obtain ⟨u, e1, l1⟩ := h.less x c v0 ((put_ne q).symm.trans hx) h0
        exact ⟨u, (put_ne q).trans e1, l1⟩
theorem had_fold {S0 : Sums α} : ∀ (cs : List (B α)) (t : Sta α), Le S0 t.S → Had S0 t.S t.F → Had S0 (cs.foldl relax t).S (cs.foldl relax t).F := by
  intro cs
  induction cs with
  | nil => exact fun t _ h => h
  | cons c cs ih => exact fun t hle h => ih _ (hle.trans (relax_le t c)) (had_relax c hle h)
theorem le_after (bs : List (B α)) (S : Sums α) (F : Fst α) : ∀ r, Le S (after bs S F r).S
  | 0 => Le.refl S
  | r + 1 => (le_after bs S F r).trans (after_le bs S F r)
theorem had_after (bs : List (B α)) (S : Sums α) : ∀ r, Had S (after bs S (fun _ => none) r).S (after bs S (fun _ => none) r).F
  | 0 => ⟨fun x v h => .inr h, fun x b v0 h => (by cases h)⟩
  | r + 1 => had_fold bs ⟨_, _, none⟩ (le_after bs S _ r) (had_after bs S r)
/-- without rings below 0 the first bounds lead from each term that has a sum to an end, in fewer steps than there are terms -/
theorem to_end {bs : List (B α)} {T : List α} (hT : ∀ b ∈ bs, b.1 ∈ T ∧ b.2.1 ∈ T) (no : ∀ t s n, Way bs t t s n → 0 ≤ s) {S0 S : Sums α} {F : Fst α} (ok : Ok bs S F) (had : Had S0 S F) {x : α} (hx : x ∈ T) {v : Int} (hv : S x = some v) :
    ∃ y s n, n < T.length ∧ PWay F x y s n ∧ F y = none ∧ ∃ u, S0 y = some u ∧ S y = some u := by
  have noP : ∀ y s c, ¬ PWay F y y s (c + 1) := fun y s c w => by
    have a := ok.ring y s c w
    have b := no y s (c + 1) (ok.way w)
    omega
  have short : ∀ y s n, PWay F x y s n → n < T.length := fun y s n w => by
    obtain ⟨l, q, e⟩ := w.pn
    have hin := q.in_ (fun t b hb => (ok.real t b hb).1) hT hx
    apply Classical.byContradiction
    intro c
    have nd : ¬ l.Nodup := fun nd => by
      have := nodup_le l T nd hin
      omega
    obtain ⟨m, l1, l2, l3, el⟩ := twice l nd
    subst el
    have q2 := q.tail
    have e3 : m :: (l2 ++ m :: l3) = (m :: l2) ++ m :: l3 := rfl
    rw [e3] at q2
    obtain ⟨s2, v⟩ := q2.head
    exact noP _ _ _ v
  have go : ∀ k, (∃ y s n, PWay F x y s n ∧ F y = none) ∨ ∃ y s, PWay F x y s k := by
    intro k
    induction k with
    | zero => exact .inr ⟨x, 0, .nil x⟩
    | succ k ih =>
      rcases ih with h | ⟨y, s, w⟩
      · exact .inl h
      · cases hf : F y with
        | none => exact .inl ⟨y, s, k, w, hf⟩
        | some b => exact .inr ⟨_, _, w.join (.cons hf (.nil _))⟩
  rcases go T.length with ⟨y, s, n, w, hf⟩ | ⟨y, s, w⟩
  · obtain ⟨u, eu, _⟩ := ok.along w v hv
    rcases had.or_ y u eu with ⟨b, hb⟩ | h0
    · rw [hf] at hb; cases hb
    · exact ⟨y, s, n, short y s n w, w, hf, u, h0, eu⟩
  · exact absurd (short y s _ w) (by omega)
/-- where each bound is kept, the sum of the steps is the difference of the sums -/
theorem even {bs : List (B α)} {S : Sums α} {F : Fst α} (ok : Ok bs S F) (hk : ∀ b ∈ bs, ∀ v, S b.2.1 = some v → ∃ u, S b.1 = some u ∧ u ≤ v + b.2.2) {x y : α} {s : Int} {n : Nat} (w : PWay F x y s n) {v u : Int} (hv : S x = some v) (hu : S y = some u) : v = s + u := by
  obtain ⟨u2, e, l⟩ := ok.along w v hv
  rw [hu] at e
  have q := Option.some.inj e
  obtain ⟨v2, e2, l2⟩ := way_kept hk (ok.way w) u hu
  rw [hv] at e2
  have q2 := Option.some.inj e2
  omega
end L2.BF

set_option Elab.async false
set_option linter.all false
namespace L2.BF
/-! ### the list of bounds along the first bounds -/
variable {α : Type} [DecidableEq α]
inductive PL (F : Fst α) : α → α → List (B α) → Prop where
  | nil (t : α) : PL F t t []
  | cons {t e : α} {b : B α} {cs : List (B α)} (h : F t = some b) (w : PL F b.2.1 e cs) : PL F t e (b :: cs)
def sumB (cs : List (B α)) : Int := (cs.map fun b => b.2.2).sum
theorem PL.snoc {F : Fst α} {x y : α} {cs : List (B α)} {b : B α} (w : PL F x y cs) (h : F y = some b) : PL F x b.2.1 (cs ++ [b]) := by
  induction w with
  | nil t => exact .cons h (.nil _)
  | cons g w ih => exact .cons g (ih h)
theorem PL.pway {F : Fst α} {x y : α} {cs : List (B α)} (w : PL F x y cs) : PWay F x y (sumB cs) cs.length := by
  induction w with
  | nil t => exact .nil t
  | @cons t e b cs h w ih =>
    have : sumB (b :: cs) = b.2.2 + sumB cs := by unfold sumB; rw [List.map_cons, List.sum_cons]
    rw [this]
    exact .cons h ih
theorem PL.mem {bs : List (B α)} {F : Fst α} (hF : ∀ t b, F t = some b → b ∈ bs) {x y : α} {cs : List (B α)} (w : PL F x y cs) : ∀ b ∈ cs, b ∈ bs := by
  induction w with
  | nil t => exact fun b h => by cases h
  | cons h w ih =>
    intro b hb
    rcases List.mem_cons.mp hb with rfl | hb
    · exact hF _ _ h
    · exact ih b hb
/-- bounds one behind the other, from x to y -/
inductive Chain : α → α → List (B α) → Prop where
  | nil (t : α) : Chain t t []
  | cons {e : α} {b : B α} {cs : List (B α)} (w : Chain b.2.1 e cs) : Chain b.1 e (b :: cs)
theorem PL.chain {F : Fst α} (hF : ∀ t b, F t = some b → b.1 = t) {x y : α} {cs : List (B α)} (w : PL F x y cs) : Chain x y cs := by
  induction w with
  | nil t => exact .nil t
  | @cons t e b cs h w ih =>
    have q := Chain.cons (b := b) ih
    rw [hF t b h] at q
    exact q
theorem Chain.way {bs : List (B α)} {x y : α} {cs : List (B α)} (w : Chain x y cs) (h : ∀ b ∈ cs, b ∈ bs) : Way bs x y (sumB cs) cs.length := by
  induction w with
  | nil t => exact .nil t
  | @cons e b cs w ih =>
    have : sumB (b :: cs) = b.2.2 + sumB cs := by unfold sumB; rw [List.map_cons, List.sum_cons]
    rw [this]
    exact .cons (h b (List.mem_cons_self ..)) (ih fun c hc => h c (List.mem_cons_of_mem _ hc))
/-- what a round lowered last begins some bound -/
theorem low_fold {bs : List (B α)} : ∀ (cs : List (B α)) (t : Sta α), (∀ c ∈ cs, c ∈ bs) → (∀ x, t.low = some x → ∃ b ∈ bs, b.1 = x) → ∀ x, (cs.foldl relax t).low = some x → ∃ b ∈ bs, b.1 = x
  | [], t, _, h => h
  | c :: cs, t, hc, h => by
    refine low_fold cs (relax t c) (fun d hd => hc d (List.mem_cons_of_mem _ hd)) fun x e => ?_
    unfold relax at e
    split at e
    · exact h x e
    · split at e
      · exact ⟨c, hc c (List.mem_cons_self ..), Option.some.inj e⟩
      · exact h x e
theorem low_mem {bs : List (B α)} {S : Sums α} {F : Fst α} {x : α} (h : (round bs S F).low = some x) : ∃ b ∈ bs, b.1 = x :=
  low_fold bs ⟨S, F, none⟩ (fun _ h => h) (fun x e => by cases e) x h
/-- values that begin at 0 for all terms, behind a round that lowers nothing, keep all bounds -/
theorem values {bs : List (B α)} {T : List α} (hT : ∀ b ∈ bs, b.1 ∈ T ∧ b.2.1 ∈ T) {S0 S : Sums α} {F : Fst α} (h0 : ∀ x ∈ T, S0 x = some 0) (hle : Le S0 S) (h : (round bs S F).low = none) :
    ∃ val : α → Int, (∀ x ∈ T, S x = some (val x)) ∧ ∀ b ∈ bs, val b.1 - val b.2.1 ≤ b.2.2 := by
  obtain ⟨_, _, hk⟩ := round_kept h
  have hs : ∀ x ∈ T, ∃ v, S x = some v := fun x hx => by
    obtain ⟨u, e, _⟩ := hle x 0 (h0 x hx)
    exact ⟨u, e⟩
  have hv : ∀ x ∈ T, S x = some ((S x).getD 0) := fun x hx => by
    obtain ⟨v, e⟩ := hs x hx
    rw [e]
    rfl
  refine ⟨fun x => (S x).getD 0, hv, fun b hb => ?_⟩
  obtain ⟨u, e, l⟩ := hk b hb _ (hv _ (hT b hb).2)
  have q : some ((S b.1).getD 0) = some u := (hv _ (hT b hb).1).symm.trans e
  have q2 := Option.some.inj q
  show (S b.1).getD 0 - (S b.2.1).getD 0 ≤ b.2.2
  rw [q2]
  omega
/-- a chain's ring by the first bounds is below 0 -/
theorem ring_pl {bs : List (B α)} {S : Sums α} {F : Fst α} (ok : Ok bs S F) {y : α} {cs : List (B α)} (w : PL F y y cs) (hne : cs ≠ []) : Chain y y cs ∧ (∀ c ∈ cs, c ∈ bs) ∧ sumB cs < 0 := by
  refine ⟨w.chain fun t b h => (ok.real t b h).2.1, w.mem fun t b h => (ok.real t b h).1, ?_⟩
  have p := w.pway
  obtain ⟨c, r, e⟩ := List.exists_cons_of_ne_nil hne
  rw [e] at p ⊢
  exact ok.ring y _ _ p
end L2.BF

set_option Elab.async false
set_option linter.all false
namespace L2.BF
/-! ### the least way -/
variable {α : Type} [DecidableEq α]
theorem only_iff {o e : α} {v0 : Int} (h : only o e = some v0) : e = o ∧ v0 = 0 := by
  unfold only at h
  by_cases q : e = o
  · rw [if_pos q] at h
    exact ⟨q, (Option.some.inj h).symm⟩
  · rw [if_neg q] at h; cases h
/-- the least of all ways' sums, or none -/
def Least (bs : List (B α)) (x y : α) (o : Option Int) : Prop := match o with
  | none => ∀ s n, ¬ Way bs x y s n
  | some v => (∃ n, Way bs x y v n) ∧ ∀ s n, Way bs x y s n → v ≤ s
theorem Least.uniq {bs : List (B α)} {x y : α} {o p : Option Int} (h : Least bs x y o) (k : Least bs x y p) : o = p := by
  cases o with
  | none =>
    cases p with
    | none => rfl
    | some v =>
      obtain ⟨⟨n, w⟩, _⟩ := k
      exact absurd w (h v n)
  | some u =>
    obtain ⟨⟨n, w⟩, l⟩ := h
    cases p with
    | none => exact absurd w (k u n)
    | some v =>
      obtain ⟨⟨m, w2⟩, l2⟩ := k
      have := l v m w2
      have := l2 u n w
      congr 1
      omega
/-- settled sums to one end are the least -/
theorem least_of {bs : List (B α)} (no : ∀ t s n, Way bs t t s n → 0 ≤ s) {o : α} {S : Sums α} (hre : Real bs (only o) S) (hle : Le (only o) S)
    (hk : ∀ b ∈ bs, ∀ v, S b.2.1 = some v → ∃ u, S b.1 = some u ∧ u ≤ v + b.2.2) (x : α) : Least bs x o (S x) ∧ S o = some 0 := by
  obtain ⟨w0, e0, l0⟩ := hle o 0 (if_pos rfl)
  have h0 : w0 = 0 := by
    obtain ⟨f, s, n, v0, w, hf, q⟩ := hre o w0 e0
    obtain ⟨rfl, rfl⟩ := only_iff hf
    have := no _ _ _ w
    omega
  subst h0
  refine ⟨?_, e0⟩
  cases h : S x with
  | none =>
    intro s n w
    obtain ⟨u, e, _⟩ := way_kept hk w 0 e0
    rw [h] at e
    cases e
  | some v =>
    obtain ⟨f, s, n, v0, w, hf, q⟩ := hre x v h
    obtain ⟨rfl, rfl⟩ := only_iff hf
    refine ⟨⟨n, by rw [q, Int.add_zero]; exact w⟩, fun s2 n2 w2 => ?_⟩
    obtain ⟨u, e, l⟩ := way_kept hk w2 0 e0
    rw [h] at e
    have := Option.some.inj e
    omega
theorem Way.ends {bs : List (B α)} {x y : α} {s : Int} {n : Nat} (w : Way bs x y s n) : x = y ∨ (∃ b ∈ bs, b.1 = x) ∧ ∃ b ∈ bs, b.2.1 = y := by
  induction w with
  | nil t => exact .inl rfl
  | @cons b e s n hb w ih =>
    refine .inr ⟨⟨b, hb, rfl⟩, ?_⟩
    rcases ih with h | h
    · exact ⟨b, hb, h⟩
    · exact h.2
/-- the law's sums are the least -/
theorem least_sums {bs : List (B α)} {T : List α} (hT : ∀ b ∈ bs, b.1 ∈ T ∧ b.2.1 ∈ T) (no : ∀ t s n, Way bs t t s n → 0 ≤ s) {x y : α} (hne : x ≠ y) : Least bs x y (sums bs T (x, y)) := by
  have low : ∀ s n, Way bs x y s n → ∃ u, sums bs T (x, y) = some u ∧ u ≤ s := fun s n w => by
    rcases w.ends with h | ⟨⟨b, hb, h1⟩, c, hc, h2⟩
    · exact absurd h hne
    · have hx : x ∈ T := h1 ▸ (hT b hb).1
      have hy : y ∈ T := h2 ▸ (hT c hc).2
      obtain ⟨s2, l, w2, nd, le⟩ := simple no w
      have inT := w2.in_ hT hx
      rcases (w2.mid nd).2 with ⟨h1, _⟩ | ⟨l2, m, n2, hz⟩
      · exact absurd h1 hne
      · obtain ⟨u, eu, lu⟩ := stages_way hT T.length T rfl x y s2 l2 m n2 (fun z q => inT z (hz z q).1) hx hy (fun z h => h)
        exact ⟨u, eu, by omega⟩
  cases h : sums bs T (x, y) with
  | none =>
    intro s n w
    obtain ⟨u, e, _⟩ := low s n w
    rw [h] at e
    cases e
  | some v =>
    obtain ⟨l, m⟩ := sums_real bs T x y v h
    refine ⟨⟨_, m.way⟩, fun s n w => ?_⟩
    obtain ⟨u, e, lu⟩ := low s n w
    rw [h] at e
    have := Option.some.inj e
    omega
end L2.BF

set_option Elab.async false
set_option linter.all false
set_option maxRecDepth 100000
set_option maxHeartbeats 0
namespace L2.K04
open PySem PySem.Spec PyProof.Rows L2.Vx
open PySem.W (Frag)
def top (i : Nat) : Stmt := PySem.Challenge.pw_wobblesnap_k04_bounds_refused.main.body.getD i (.Pass ⟨0, 0, 0, 0⟩)
abbrev sDErr : Stmt := inClass (top 1) 0
abbrev sIsInt : Stmt := top 8
abbrev sIsName : Stmt := top 9
abbrev sCons : Stmt := top 10
abbrev sSettled : Stmt := top 13
abbrev sShows : Stmt := top 14
abbrev sLeast : Stmt := top 15
abbrev sChkB : Stmt := top 16
abbrev sIsBd : Stmt := top 17
abbrev sIsTerm : Stmt := top 18
abbrev sTerms : Stmt := top 19
abbrev sVals : Stmt := top 20
abbrev sSums : Stmt := top 21
abbrev sLower : Stmt := top 22
abbrev sBehind : Stmt := top 23
abbrev sAlong : Stmt := top 24
abbrev sAreV : Stmt := top 25
abbrev sIsW : Stmt := top 26
abbrev sIsRz : Stmt := top 27
abbrev sClosed : Stmt := top 28
abbrev sPot : Stmt := top 30
abbrev sTake : Stmt := top 31
abbrev sOf : Stmt := top 32
abbrev sSome : Stmt := top 33
abbrev sCells : Stmt := top 34
abbrev sTold : Stmt := top 35
abbrev sLInt : Stmt := top 36
abbrev sOdd : Stmt := top 37
abbrev sBent : Stmt := top 38
abbrev sLTerms : Stmt := top 39
abbrev sLBounds : Stmt := top 40
abbrev sLAll : Stmt := top 41
abbrev sLSums : Stmt := top 42
abbrev sLRing : Stmt := top 43
abbrev sLTerm : Stmt := top 44
abbrev sLBd : Stmt := top 45
abbrev sRight : Stmt := top 46
abbrev sLaw : Stmt := top 47
end L2.K04

set_option Elab.async false
set_option linter.all false
set_option maxRecDepth 100000
set_option maxHeartbeats 4000000
namespace L2.K04
open PySem PySem.Spec PyProof.Rows L2.Vx
open PySem.W (Frag)
/-! ### heaps in which one list may change -/
/-- all but what stands at p is as it was -/
def But (p : Addr) (H H' : Hp) : Prop := ∀ b o, b ≠ p → H b = some o → H' b = some o
theorem But.refl (p : Addr) (H : Hp) : But p H H := fun _ _ _ e => e
theorem But.trans {p : Addr} {H H1 H2 : Hp} (a : But p H H1) (b : But p H1 H2) : But p H H2 := fun c o n e => b c o n (a c o n e)
theorem But.of {p : Addr} {H H' : Hp} (s : Same H H') : But p H H' := fun b o _ e => s b o e
theorem But.upd {p : Addr} {H : Hp} {o : HO} : But p H (upd H p o) := fun b u n e => by
  rw [upd_ne n]
  exact e
theorem But.seq {p a : Addr} {K : Frag} {H H' : Hp} {xs : List V} (k : But p H H') (n : a ≠ p) (h : SqL K H a xs) : SqL K H' a xs := by
  rcases h with (h | ⟨o, h⟩) | h
  · exact .inl (.inl (k _ _ n h))
  · exact .inl (.inr ⟨o, k _ _ n h⟩)
  · exact .inr h
theorem But.tup {p a : Addr} {K : Frag} {H H' : Hp} {xs : List V} (k : But p H H') (n : a ≠ p) (h : SqT K H a xs) : SqT K H' a xs := by
  rcases h with (h | ⟨o, h⟩) | h
  · exact .inl (.inl (k _ _ n h))
  · exact .inl (.inr ⟨o, k _ _ n h⟩)
  · exact .inr h
theorem But.free {p b : Addr} {H H' : Hp} {o : HO} (k : But p H H') (h : H' b = none) (hp : H' p = some o) : H b = none := by
  cases e : H b with
  | none => rfl
  | some u =>
    have n : b ≠ p := fun z => by rw [z, hp] at h; cases h
    rw [k b u n e] at h
    cases h
/-- a pot of draws, of which not more than k mixed numbers have come -/
def Pot (H : Hp) (p : Addr) (k : Int) : Prop := ∃ own b c : Int, H p = some (.lst [.int own, .int b, .int c]) ∧ 0 ≤ own ∧ 0 ≤ b ∧ b < 2305843009213693921 ∧ 0 ≤ c ∧ c ≤ k
theorem Pot.same {H H' : Hp} {p : Addr} {k : Int} (h : Pot H p k) (s : Same H H') : Pot H' p k := by
  obtain ⟨o, b, c, e, r⟩ := h
  exact ⟨o, b, c, s _ _ e, r⟩
theorem Pot.mono {H : Hp} {p : Addr} {k j : Int} (h : Pot H p k) (l : k ≤ j) : Pot H p j := by
  obtain ⟨o, b, c, e, r1, r2, r3, r4, r5⟩ := h
  exact ⟨o, b, c, e, r1, r2, r3, r4, by omega⟩
theorem Pot.ne {H : Hp} {p a : Addr} {k : Int} (h : Pot H p k) (e : H a = none) : a ≠ p := by
  obtain ⟨o, b, c, e', _⟩ := h
  exact fun z => by rw [z, e'] at e; cases e
theorem Pot.some {H : Hp} {p : Addr} {k : Int} (h : Pot H p k) : ∃ o, H p = some o := by
  obtain ⟨o, b, c, e', _⟩ := h
  exact ⟨_, e'⟩
theorem op_powW {X : Cx} : OpR X (binaryOp .Pow) (rI (fun i j => 0 ≤ j ∧ (Builtin.Int.intBits i : Int) * j ≤ 2 ^ 27) fun i j => .int (i ^ j.toNat)) :=
  opI fun _ _ _ _ _ _ _ hc q => pow_int hc.1 hc.2 q
/-- the built-in names that the draws call -/
structure Dx (mg : Str → Option Value) : Prop where
  len : mg "len" = none
  abs : mg "abs" = none
  int : mg "int" = none
  max : mg "max" = none
  min : mg "min" = none
  range : mg "range" = none
  list : mg "list" = none
abbrev FD (K : Frag) (x : Str) (st : Stmt) (f : Addr) (fd : FuncData) : Prop := Fun K x x st f fd
def spPot (K : Frag) : Sp := fun vs H Q _ => ∃ (a : Addr) (ns : List Int) (i : Int), vs = [.ref a, .int i] ∧ SqL K H a (ns.map V.int) ∧ ns.length ≤ 63 ∧ 0 ≤ i ∧ i ≤ 63 ∧
  ∀ H' p, Same H H' → H p = none → Pot H' p 0 → Q (.ref p) H'
def spTake : Sp := fun vs H Q _ => ∃ (p : Addr) (n k : Int), vs = [.ref p, .int n] ∧ 0 < n ∧ n ≤ 1000000 ∧ k < 1000000 ∧ Pot H p k ∧
  ∀ H' i, But p H H' → Pot H' p (k + 1) → 0 ≤ i → i < n → Q (.int i) H'
def spOf (K : Frag) : Sp := fun vs H Q _ => ∃ (p l : Addr) (xs : List V) (k : Int), vs = [.ref p, .ref l] ∧ l ≠ p ∧ SqL K H l xs ∧ 0 < xs.length ∧ xs.length ≤ 1000 ∧ k < 1000000 ∧ Pot H p k ∧
  ∀ H' v, But p H H' → Pot H' p (k + 1) → v ∈ xs → Q v H'
theorem pow_pos1 : (0 : Int) < (10 ^ Int.toNat 60) ^ Int.toNat 5 := by decide +kernel
theorem bit_small (b : Bool) : -(2 ^ 64 : Int) < (if b = true then (1 : Int) else 0) ∧ (if b = true then (1 : Int) else 0) < 2 ^ 64 := by cases b <;> decide
theorem sq_small {c : Int} (h0 : 0 ≤ c) (h : c ≤ 1000000) : 100069 * c * c ≤ 100069000000000000 ∧ 0 ≤ 100069 * c * c := by
  have h1 : c * c ≤ 1000000 * 1000000 := Int.mul_le_mul h h h0 (by decide)
  have h2 : 0 ≤ c * c := Int.mul_nonneg h0 h0
  rw [Int.mul_assoc]
  omega
/-- the primes -/
abbrev primes : List V := [.int 2147483647, .int 2147483629, .int 2147483587, .int 2147483579, .int 2147483563]
theorem prime_at {i : Int} (h0 : 0 ≤ i) (h1 : i < 5) : ∃ q, atI primes i = some (.int q) ∧ 0 < q ∧ q < 2147483648 := by
  have h : i = 0 ∨ i = 1 ∨ i = 2 ∨ i = 3 ∨ i = 4 := by omega
  rcases h with rfl | rfl | rfl | rfl | rfl
  · exact ⟨_, rfl, by decide, by decide⟩
  · exact ⟨_, rfl, by decide, by decide⟩
  · exact ⟨_, rfl, by decide, by decide⟩
  · exact ⟨_, rfl, by decide, by decide⟩
  · exact ⟨_, rfl, by decide, by decide⟩
theorem own_nn (m : Int) (b : Bool) : 0 ≤ (if m < 0 then -m else m) % (10 ^ Int.toNat 60) ^ Int.toNat 5 * (if b = true then 1 else 0) :=
  Int.mul_nonneg (Int.emod_nonneg _ (Int.ne_of_gt pow_pos1)) (by split <;> decide)
section
variable {P : Program} {w : World} {K : Frag} {mg : Str → Option Value} {bs : Heap}
theorem scPot : FnScope ["script", "place", "cell", "own", "small"] ["script", "place"] (defScope sPot) := ⟨rfl, rfl, rfl, by decide +kernel, rfl, by decide +kernel, by decide +kernel⟩
theorem ok_pot {f : Addr} {fd : FuncData} (FP : FD K "_law_pot" sPot f fd) (F : Dx mg) : FnOk P w K mg bs CX0 1 f fd ["script", "place"] (spPot K) := by
  have sc := scPot
  refine FP.ok scPot (fun vs H Q E h => ?_) (fun cdv A outer s H vs Q E hr h => ?_)
  · obtain ⟨a, ns, i, rfl, _⟩ := h
    rfl
  · obtain ⟨a, ns, i, rfl, hS, hl, hi0, hi1, k⟩ := h
    obtain ⟨j, rfl⟩ : ∃ j : Nat, i = (j : Int) := ⟨i.toNat, by omega⟩
    refine ⟨_, pss_cons (ps_set (i := 2) sc.nd rfl (Or.inl rfl) (pe_ifExp (pt_cmpR op_lt (pv 1) (pe_callB call_len_seq (by rfl) F.len boot_len (pa_cons (pv 0) pa_nil)) (nomark _))
          (pe_ix ix_list (pv 0) (pv 1) (fun _ _ => rfl)) (pe_op op_add (pe_op op_mul pe_int (pv 1)) pe_int)))
      (pss_cons (ps_set (i := 3) sc.nd rfl (Or.inl rfl) (pe_op op_mul (pe_op op_mod (pe_callTy call_int1 (by rfl) F.int boot_int (pa_cons (pe_callB call_abs (by rfl) F.abs boot_abs (pa_cons (pv 2) pa_nil)) pa_nil))
            (pe_op op_powW (pe_op op_pow pe_int pe_int) pe_int))
          (pe_callTy call_int1 (by rfl) F.int boot_int (pa_cons (pe_cmpR op_ge (pe_callB call_abs (by rfl) F.abs boot_abs (pa_cons (pv 2) pa_nil)) (pe_op op_pow pe_int pe_int) (nomark _)) pa_nil))))
      (pss_cons (ps_set (i := 4) sc.nd rfl (Or.inl rfl) (pe_op op_mod (pe_callTy call_int1 (by rfl) F.int boot_int (pa_cons (pv 2) pa_nil)) pe_int))
      (pss_one (ps_ret (pe_lst (pa_cons (pv 3) (pa_cons (pe_op op_mod (pe_callTy call_int1 (by rfl) F.int boot_int (pa_cons
          (pe_op op_add (pe_op op_add (pe_op op_mul (pv 4) pe_int) (pe_op op_mul (pe_op op_mul pe_int (pv 1)) (pv 1))) pe_int) pa_nil)) pe_int) (pa_cons pe_int pa_nil)))))))), ?_⟩
    refine rd_seq (rd_set ?_)
    refine ⟨_, rfl, _, rfl, a, _, rfl, .inl hS, _, _, rfl, rfl, _, rfl, ?_⟩
    by_cases c : ((j : Nat) : Int) < ((ns.map V.int).length : Int)
    case' pos =>
      have hlt : j < ns.length := by
        rw [List.length_map] at c
        omega
      refine Eq.mpr (if_pos (decide_eq_true c)) ?_
      refine ⟨_, rfl, _, rfl, a, _, (j : Int), .int ns[j], rfl, rfl, hS, atI_nat (by rw [List.getElem?_map, List.getElem?_eq_getElem hlt]; rfl), ?_⟩
      generalize ns[j] = m
    case' neg =>
      refine Eq.mpr (if_neg (by rw [decide_eq_false c]; exact Bool.false_ne_true)) ?_
      refine ⟨_, rfl, _, _, rfl, rfl, .inl ⟨by decide, by decide⟩, _, _, rfl, rfl, ?_⟩
      generalize 41 * ((j : Nat) : Int) + 23 = m
    all_goals
      dsimp only
      refine rd_seq (rd_set ?_)
      refine ⟨_, rfl, _, rfl, .inl ⟨_, rfl, _, _, rfl, rfl, ⟨by decide, by decide, by decide⟩, _, _, rfl, rfl, ⟨by decide, by decide +kernel⟩, _, _, rfl, rfl, (by exact pow_pos1), _, rfl, _, rfl, _, _, rfl, rfl, ⟨by decide, by decide, by decide⟩, _, _, rfl, rfl,
        .inr ⟨_, rfl, _, _, rfl, rfl, .inr (bit_small _), ?_⟩⟩⟩
      dsimp only
      refine rd_seq (rd_set ?_)
      refine ⟨_, rfl, .inl ⟨_, rfl, _, _, rfl, rfl, (by exact (by decide : (0 : Int) < 2305843009213693951)), ?_⟩⟩
      refine ⟨_, rfl, _, rfl, _, _, rfl, rfl, .inr ⟨by decide, by decide⟩, _, rfl, _, _, rfl, rfl, .inl ⟨by decide, by decide⟩, _, rfl, _, _, rfl, rfl, .inr ⟨by omega, by omega⟩, _, _, rfl, rfl, _, _, rfl, rfl,
        .inl ⟨_, rfl, _, _, rfl, rfl, (by exact (by decide : (0 : Int) < 2305843009213693921)), (by exact (by decide : 3 ≤ sizeLine)), fun p hp => ?_⟩⟩
      refine k _ p (same_new hp) hp ⟨_, _, _, upd_same, own_nn _ _, Int.emod_nonneg _ (by decide), Int.emod_lt_of_pos _ (by decide), Int.le_refl _, Int.le_refl _⟩
theorem scTake : FnScope ["pot", "upto", "digit", "prime", "mixed"] ["pot", "upto"] (defScope sTake) := ⟨rfl, rfl, rfl, by decide +kernel, rfl, by decide +kernel, by decide +kernel⟩
theorem ok_take {f : Addr} {fd : FuncData} (FP : FD K "_law_take" sTake f fd) (F : Dx mg) : FnOk P w K mg bs CX0 1 f fd ["pot", "upto"] spTake := by
  have sc := scTake
  refine FP.ok scTake (fun vs H Q E h => ?_) (fun cdv A outer s H vs Q E hr h => ?_)
  · obtain ⟨p, n, i, rfl, _⟩ := h
    rfl
  · obtain ⟨p, n, t, rfl, hn0, hn1, ht, ⟨own, b, c, hp, ho, hb0, hb1, hc0, hc1⟩, k⟩ := h
    refine ⟨_, pss_cons (ps_if (pt_cmpR op_gt (pe_ix ix_list (pv 0) pe_int (fun _ _ => rfl)) pe_int (nomark _))
        (pss_cons (ps_set (i := 2) sc.nd rfl (Or.inl rfl) (pe_op op_mod (pe_callTy call_int1 (by rfl) F.int boot_int (pa_cons (pe_ix ix_list (pv 0) pe_int (fun _ _ => rfl)) pa_nil)) (pv 1)))
        (pss_cons (ps_asg (pe_op op_fdiv (pe_ix ix_list (pv 0) pe_int (fun _ _ => rfl)) (pv 1)) (pg_sub (pv 0) pe_int set_list))
        (pss_one (ps_ret (pv 2))))) pss_nil)
      (pss_cons (ps_asg (pe_op op_add (pe_ix ix_list (pv 0) pe_int (fun _ _ => rfl)) pe_int) (pg_sub (pv 0) pe_int set_list))
      (pss_cons (ps_set (i := 3) sc.nd rfl (Or.inl rfl) (pe_ix ix_list (pe_lst (pa_cons pe_int (pa_cons pe_int (pa_cons pe_int (pa_cons pe_int (pa_cons pe_int pa_nil))))))
          (pe_op op_mod (pe_callTy call_int1 (by rfl) F.int boot_int (pa_cons (pe_ix ix_list (pv 0) pe_int (fun _ _ => rfl)) pa_nil)) pe_int) (fun _ _ => rfl)))
      (pss_cons (ps_set (i := 4) sc.nd rfl (Or.inl rfl) (pe_op op_mod (pe_callTy call_int1 (by rfl) F.int boot_int (pa_cons (pe_op op_pow (pe_callTy call_int1 (by rfl) F.int boot_int (pa_cons
          (pe_op op_add (pe_op op_add (pe_ix ix_list (pv 0) pe_int (fun _ _ => rfl)) (pe_op op_mul (pe_op op_mul pe_int (pe_ix ix_list (pv 0) pe_int (fun _ _ => rfl))) (pe_ix ix_list (pv 0) pe_int (fun _ _ => rfl)))) pe_int) pa_nil)) pe_int) pa_nil)) (pv 3)))
      (pss_cons (ps_set (i := 4) sc.nd rfl (Or.inl rfl) (pe_op op_mod (pe_callTy call_int1 (by rfl) F.int boot_int (pa_cons
          (pe_op op_mul (pv 4) (pe_op op_add (pe_op op_mod (pe_callTy call_int1 (by rfl) F.int boot_int (pa_cons (pv 4) pa_nil)) pe_int) (pe_op op_mul pe_int (pe_ix ix_list (pv 0) pe_int (fun _ _ => rfl))))) pa_nil)) pe_int))
      (pss_one (ps_ret (pe_op op_mod (pe_callTy call_int1 (by rfl) F.int boot_int (pa_cons (pe_op op_fdiv (pv 4) pe_int) pa_nil)) (pv 1)))))))), ?_⟩
    have hS : SqL K H p [.int own, .int b, .int c] := SqL.of hp
    refine rd_seq (rd_if ?_)
    refine ⟨_, rfl, p, _, 0, .int own, rfl, rfl, hS, rfl, _, _, rfl, rfl, _, rfl, ?_⟩
    by_cases q : 0 < own
    · refine Eq.mpr (if_pos (decide_eq_true q)) ?_
      refine rd_seq (rd_set ?_)
      refine ⟨_, rfl, p, _, 0, .int own, rfl, rfl, hS, rfl, .inl ⟨_, rfl, _, rfl, _, _, rfl, rfl, hn0, ?_⟩⟩
      dsimp only
      refine ⟨_, rfl, p, _, 0, .int own, rfl, rfl, hS, rfl, _, rfl, _, _, rfl, rfl, ⟨hn0, by omega⟩, _, rfl, p, _, 0, 0, rfl, rfl, hp, rfl, ?_⟩
      refine ⟨_, rfl, k _ _ But.upd ⟨own / n, b, c, upd_same, Int.ediv_nonneg ho (by omega), hb0, hb1, hc0, by omega⟩ (Int.emod_nonneg _ (by omega)) (Int.emod_lt_of_pos _ hn0)⟩
    · refine Eq.mpr (if_neg (by rw [decide_eq_false q]; exact Bool.false_ne_true)) ?_
      dsimp only
      refine ⟨_, rfl, p, _, 2, .int c, rfl, rfl, hS, rfl, _, _, rfl, rfl, _, rfl, p, _, 2, 2, rfl, rfl, hp, rfl, ?_⟩
      have hp1 : upd H p (.lst [.int own, .int b, .int (c + 1)]) p = some (.lst [.int own, .int b, .int (c + 1)]) := upd_same
      have k1 : But p H (upd H p (.lst [.int own, .int b, .int (c + 1)])) := But.upd
      dsimp only
      have eL : ([V.int own, V.int b, V.int c] : List V).set 2 (V.int (c + 1)) = [V.int own, V.int b, V.int (c + 1)] := rfl
      rw [eL]
      generalize upd H p (.lst [.int own, .int b, .int (c + 1)]) = H1 at hp1 k1 ⊢
      refine rd_seq (rd_set ?_)
      refine ⟨(by exact (by decide : 5 ≤ sizeLine)), fun l hl => ?_⟩
      have hp2 := same_new (o := .lst primes) hl _ _ hp1
      have k2 := k1.trans (But.of (same_new (o := .lst primes) hl))
      have hl2 : upd H1 l (.lst primes) l = some (.lst primes) := upd_same
      generalize upd H1 l (.lst primes) = H2 at hp2 k2 hl2 ⊢
      obtain ⟨q5, hq5, hq0, hq1⟩ := prime_at (Int.emod_nonneg (c + 1) (by decide : (5 : Int) ≠ 0)) (Int.emod_lt_of_pos (c + 1) (by decide : (0 : Int) < 5))
      have hS2 : SqL K H2 p [.int own, .int b, .int (c + 1)] := SqL.of hp2
      refine ⟨_, rfl, p, _, 2, .int (c + 1), rfl, rfl, hS2, rfl, .inl ⟨_, rfl, _, _, rfl, rfl, (by exact (by decide : (0 : Int) < 5)), l, _, _, _, rfl, rfl, SqL.of hl2, hq5, ?_⟩⟩
      dsimp only
      obtain ⟨sq1, sq2⟩ := sq_small (c := c + 1) (by omega) (by omega)
      refine rd_seq (rd_set ?_)
      refine ⟨_, rfl, p, _, 1, .int b, rfl, rfl, hS2, rfl, _, rfl, p, _, 2, .int (c + 1), rfl, rfl, hS2, rfl, _, _, rfl, rfl, .inl ⟨by decide, by decide⟩, _, rfl, p, _, 2, .int (c + 1), rfl, rfl, hS2, rfl, _, _, rfl, rfl, .inr ⟨by omega, by omega⟩, _, _, rfl, rfl, _, _, rfl, rfl,
        .inl ⟨_, rfl, _, _, rfl, rfl, ⟨by decide, by decide, ?cp⟩, .inl ⟨_, rfl, _, rfl, _, _, rfl, rfl, hq0, ?_⟩⟩⟩
      case cp =>
        generalize 100069 * (c + 1) * (c + 1) = S at sq1 sq2 ⊢
        omega
      generalize (b + 100069 * (c + 1) * (c + 1) + 37) ^ Int.toNat 3 = S
      have hm0 := Int.emod_nonneg S (Int.ne_of_gt hq0)
      have hm1 := Int.emod_lt_of_pos S hq0
      dsimp only
      generalize S % q5 = m at hm0 hm1 ⊢
      refine rd_seq (rd_set ?_)
      refine ⟨_, rfl, _, rfl, .inl ⟨_, rfl, _, _, rfl, rfl, (by exact (by decide : (0 : Int) < 10009)), _, rfl, p, _, 2, .int (c + 1), rfl, rfl, hS2, rfl, _, _, rfl, rfl, .inl ⟨by decide, by decide⟩, _, _, rfl, rfl, _, _, rfl, rfl, .inl ⟨by omega, by omega⟩,
        .inl ⟨_, rfl, _, _, rfl, rfl, (by exact (by decide : (0 : Int) < 2305843009213693907)), ?_⟩⟩⟩
      dsimp only
      refine ⟨_, rfl, _, _, rfl, rfl, ⟨by decide, by decide⟩, .inl ⟨_, rfl, _, rfl, _, _, rfl, rfl, hn0, ?_⟩⟩
      exact k _ _ k2 ⟨own, b, c + 1, hp2, ho, hb0, hb1, by omega, by omega⟩ (Int.emod_nonneg _ (by omega)) (Int.emod_lt_of_pos _ hn0)
theorem But.mut {p a : Addr} {H H' : Hp} {o : HO} (k : But p H H') (h : H a = none) : But p H (L2.upd H' a o) := fun b u n e => by
  rw [upd_ne (ne_of_none e h)]
  exact k b u n e
theorem perm_pop {α : Type} : ∀ (xs : List α) (k : Nat) (y : α), xs[k]? = some y → (y :: xs.eraseIdx k).Perm xs
  | [], _, _, e => by simp at e
  | x :: xs, 0, y, e => by
    simp at e
    subst e
    exact List.Perm.refl _
  | x :: xs, k + 1, y, e => by
    have ih := perm_pop xs k y (by simpa using e)
    exact (List.Perm.swap x y _).trans (ih.cons x)
theorem scOf : FnScope ["pot", "some"] ["pot", "some"] (defScope sOf) := ⟨rfl, rfl, rfl, by decide +kernel, rfl, by decide +kernel, by decide +kernel⟩
theorem ok_of {f fT : Addr} {fd fdT : FuncData} (FP : FD K "_law_of" sOf f fd) (F : Dx mg) (FT : FD K "_law_take" sTake fT fdT) (gT : mg "_law_take" = some (.ref fT)) (bT : Binds K fdT ["pot", "upto"] []) :
    FnOk P w K mg bs CX0 2 f fd ["pot", "some"] (spOf K) := by
  have sc := scOf
  have GT : FnOk P w K mg bs CX0 1 fT fdT ["pot", "upto"] spTake := ok_take FT F
  refine FP.ok scOf (fun vs H Q E h => ?_) (fun cdv A outer s H vs Q E hr h => ?_)
  · obtain ⟨p, l, xs, k, rfl, _⟩ := h
    rfl
  · obtain ⟨p, l, xs, t, rfl, hne, hS, h0, h1, ht, hP, k⟩ := h
    refine ⟨_, pss_one (ps_ret (pe_ix ix_list (pv 1) (pe_call GT hr (by rfl) gT FT.kp bT .nil pass0 (pa_cons (pv 0) (pa_cons (pe_callB call_len_seq (by rfl) F.len boot_len (pa_cons (pv 1) pa_nil)) pa_nil))) (fun _ _ => rfl))), ?_⟩
    refine ⟨_, rfl, _, rfl, _, rfl, l, xs, rfl, .inl hS, p, _, t, rfl, by omega, by omega, ht, hP, fun H' i k1 hP' i0 i1 => ?_⟩
    obtain ⟨j, rfl⟩ : ∃ j : Nat, i = (j : Int) := ⟨i.toNat, by omega⟩
    have hj : j < xs.length := by omega
    refine ⟨l, xs, _, xs[j], rfl, rfl, k1.seq hne hS, atI_nat (List.getElem?_eq_getElem hj), ?_⟩
    exact k _ _ k1 hP' (List.getElem_mem hj)
def spSome (K : Frag) : Sp := fun vs H Q _ => ∃ (p l : Addr) (xs : List V) (m : Nat) (k : Int), vs = [.ref p, .ref l, .int m] ∧ l ≠ p ∧ SqL K H l xs ∧ xs.length ≤ 1000 ∧ m ≤ xs.length ∧
  0 ≤ k ∧ k + m < 1000000 ∧ Pot H p k ∧ ∀ H' q ys rest, But p H H' → H q = none → H' q = some (.lst ys) → (ys ++ rest).Perm xs → ys.length = m → Pot H' p (k + m) → Q (.ref q) H'
theorem scSome : FnScope ["pot", "pool", "many", "left", "found", "lap"] ["pot", "pool", "many"] (defScope sSome) := ⟨rfl, rfl, rfl, by decide +kernel, rfl, by decide +kernel, by decide +kernel⟩
theorem ok_some {f fT : Addr} {fd fdT : FuncData} (FP : FD K "_law_some" sSome f fd) (F : Dx mg) (FT : FD K "_law_take" sTake fT fdT) (gT : mg "_law_take" = some (.ref fT)) (bT : Binds K fdT ["pot", "upto"] []) :
    FnOk P w K mg bs CX0 2 f fd ["pot", "pool", "many"] (spSome K) := by
  have sc := scSome
  have GT : FnOk P w K mg bs CX0 1 fT fdT ["pot", "upto"] spTake := ok_take FT F
  refine FP.ok scSome (fun vs H Q E h => ?_) (fun cdv A outer s H vs Q E hr h => ?_)
  · obtain ⟨p, l, xs, m, k, rfl, _⟩ := h
    rfl
  · obtain ⟨p, l, xs, m, t, rfl, hne, hS, h1, hm, ht0, ht, hP, k⟩ := h
    refine ⟨_, pss_cons (ps_par (i := 3) (j := 4) rfl sc.nd rfl rfl (by decide) rfl rfl (pa_cons (pe_callTy call_list_of (by rfl) F.list boot_list (pa_cons (pv 1) pa_nil)) (pa_cons (pe_lst pa_nil) pa_nil)) rfl)
      (pss_cons (ps_for PassesOwn.never rfl (pi_range1 (by rfl) F.range (pa_cons (pv 2) pa_nil)) (pg_name (i := 5) sc.nd rfl (Or.inl rfl))
        (pss_one (ps_expr (pe_bm PySem.F.plainAttrs_list PySem.F.slot_list_append PySem.F.type_list_append mt_append (pv 4) (pa_cons
          (pe_bm PySem.F.plainAttrs_list PySem.F.slot_list_pop PySem.F.type_list_pop mt_popAt (pv 3) (pa_cons
            (pe_call GT hr (by rfl) gT FT.kp bT .nil pass0 (pa_cons (pv 0) (pa_cons (pe_callB call_len_seq (by rfl) F.len boot_len (pa_cons (pv 3) pa_nil)) pa_nil))) pa_nil)) pa_nil)))))
      (pss_one (ps_ret (pv 4)))), ?_⟩
    refine rd_seq ?_
    refine ⟨_, rfl, l, xs, rfl, .inl hS, fun L hL => ⟨Nat.zero_le _, fun G hG => ⟨_, _, rfl, ?_⟩⟩⟩
    dsimp only
    have nLp : L ≠ p := hP.ne hL
    have sL := same_new (o := .lst xs) hL
    have sG := same_new (o := .lst []) hG
    have hG0 : H G = none := sL.free hG
    have nGp : G ≠ p := hP.ne hG0
    have fL := sG _ _ (upd_same (H := H) (a := L) (o := .lst xs))
    have fG : upd (upd H L (.lst xs)) G (.lst []) G = some (.lst []) := upd_same
    have nLG : L ≠ G := ne_of_none upd_same hG
    have hP1 := (hP.same sL).same sG
    have k1 : But p H (upd (upd H L (.lst xs)) G (.lst [])) := But.of (sL.trans sG)
    generalize upd (upd H L (.lst xs)) G (.lst []) = H1 at fL fG hP1 k1 ⊢
    refine rd_seq ?_
    refine ⟨_, rfl, (m : Int), rfl, by omega, by omega, for_range (lo := 0) (n := ((m : Nat) : Int).toNat) (fun i σ H' => ∃ (v : Option V) (ys rest : List V), σ = [some (.ref p), some (.ref l), some (.int m), some (.ref L), some (.ref G), v] ∧
      But p H H' ∧ H' L = some (.lst rest) ∧ H' G = some (.lst ys) ∧ (ys ++ rest).Perm xs ∧ ys.length = i ∧ Pot H' p (t + i)) ⟨none, [], xs, rfl, k1, fL, fG, List.Perm.refl _, rfl, hP1.mono (by omega)⟩ ?_ ?_⟩
    · rintro i σ H2 hi ⟨v, ys, rest, rfl, k2, eL, eG, pm, ly, hP2⟩
      have hi' : i < m := by omega
      have lr : rest.length = xs.length - i := by
        have := pm.length_eq
        rw [List.length_append] at this
        omega
      refine ⟨_, rfl, .inl ⟨rfl, _, SqL.of eG⟩, _, rfl, .inl ⟨rfl, _, SqL.of eL⟩, _, rfl, _, rfl, L, rest, rfl, .inl (SqL.of eL), p, _, t + i, rfl, by omega, by omega, by omega, hP2, fun H3 j k3 hP3 j0 j1 => ?_⟩
      have hj : j.toNat < rest.length := by omega
      have eL3 := k3 _ _ nLp eL
      have eG3 := k3 _ _ nGp eG
      refine ⟨L, rest, j, j.toNat, rest[j.toNat], rfl, rfl, eL3, by omega, by omega, seqIndex_of j0 (by omega), List.getElem?_eq_getElem hj, ?_⟩
      have eG4 : upd H3 L (.lst (rest.eraseIdx j.toNat)) G = some (.lst ys) := (upd_ne (Ne.symm nLG)).trans eG3
      refine ⟨G, ys, rest[j.toNat], rfl, rfl, eG4, Nat.lt_of_le_of_lt (show ys.length ≤ 1000 by omega) (by decide), ?_⟩
      refine ⟨_, ys ++ [rest[j.toNat]], rest.eraseIdx j.toNat, rfl, ((k2.trans k3).mut hL).mut hG0, (upd_ne nLG).trans upd_same, upd_same, ?_, by rw [List.length_append, List.length_singleton, ly], ?_⟩
      · refine List.Perm.trans ?_ pm
        rw [List.append_assoc, List.singleton_append]
        exact List.Perm.append_left ys (perm_pop rest j.toNat _ (List.getElem?_eq_getElem hj))
      · obtain ⟨o, b, c, e, r1, r2, r3, r4, r5⟩ := hP3
        exact ⟨o, b, c, (upd_ne (Ne.symm nGp)).trans ((upd_ne (Ne.symm nLp)).trans e), r1, r2, r3, r4, by omega⟩
    · rintro σ H2 ⟨v, ys, rest, rfl, k2, eL, eG, pm, ly, hP2⟩
      exact ⟨_, rfl, k _ _ _ _ k2 hG0 eG pm (by omega) (hP2.mono (by omega))⟩
def spCells (K : Frag) : Sp := fun vs H Q _ => ∃ (a : Addr) (ns : List Int) (m : Nat), vs = [.ref a, .int m] ∧ SqL K H a (ns.map V.int) ∧ ns.length ≤ 63 ∧ m ≤ 63 ∧
  ∀ H' q n, Same H H' → H q = none → n ≤ 63 → H' q = some (.lst ((List.range n).map fun i : Nat => V.int (i : Int))) → Q (.ref q) H'
theorem scCells : FnScope ["script", "most"] ["script", "most"] (defScope sCells) := ⟨rfl, rfl, rfl, by decide +kernel, rfl, by decide +kernel, by decide +kernel⟩
theorem ok_cells {f : Addr} {fd : FuncData} (FP : FD K "_law_cells" sCells f fd) (F : Dx mg) : FnOk P w K mg bs CX0 1 f fd ["script", "most"] (spCells K) := by
  have sc := scCells
  refine FP.ok scCells (fun vs H Q E h => ?_) (fun cdv A outer s H vs Q E hr h => ?_)
  · obtain ⟨a, ns, m, rfl, _⟩ := h
    rfl
  · obtain ⟨a, ns, m, rfl, hS, hl, hm, k⟩ := h
    refine ⟨_, pss_one (ps_ret (pe_listRg rfl (by rfl) F.list (prg_1 (by rfl) F.range (pe_callB (call_max2 rfl) (by rfl) F.max (by decide +kernel) (pa_cons pe_int (pa_cons
      (pe_callB (call_min2 rfl) (by rfl) F.min (by decide +kernel) (pa_cons (pv 1) (pa_cons (pe_callB call_len_seq (by rfl) F.len boot_len (pa_cons (pv 0) pa_nil)) pa_nil))) pa_nil)))))), ?_⟩
    refine ⟨_, rfl, _, rfl, a, _, rfl, .inl hS, _, _, rfl, _, _, rfl, _, rfl, ?_⟩
    have hx : ∀ u : Int, 0 ≤ u → u ≤ 63 → (0 : Int) ≤ u ∧ u ≤ 63 := fun u a b => ⟨a, b⟩
    generalize hu : (if (if (((ns.map V.int).length : Nat) : Int) < (m : Int) then (((ns.map V.int).length : Nat) : Int) else (m : Int)) > 1 then (if (((ns.map V.int).length : Nat) : Int) < (m : Int) then (((ns.map V.int).length : Nat) : Int) else (m : Int)) else 1) = u
    have hu2 : 0 ≤ u ∧ u ≤ 63 := by
      rw [List.length_map] at hu
      omega
    refine ⟨.of_le (by omega) (by omega) (by omega) (by omega), fun q hq => k _ q u.toNat (same_new hq) hq (by omega) ?_⟩
    rw [upd_same]
    unfold rgV
    rw [Int.sub_zero]
    simp only [Int.zero_add]
end
end L2.K04

set_option Elab.async false
set_option linter.all false
set_option maxRecDepth 100000
set_option maxHeartbeats 4000000
namespace L2.K04
open PySem PySem.Spec PyProof.Rows L2.Vx
open PySem.W (Frag)
/-! ### a number in a text -/
def allIn (z g : Str) : Bool := z.cps.toList.all fun c => decide (c ∈ g.cps.toList)
def lettersS : Str := "abcdefghijklmnopqrstuvwxyz"
def nameIn (z : Str) : Bool := decide (1 ≤ z.length) && (decide (z.length ≤ 8) && allIn z lettersS)
section
variable {P : Program} {w : World} {K : Frag} {mg : Str → Option Value} {bs : Heap}
def spCons : Sp := fun vs H Q _ => ∃ (z g : Str), vs = [.str z, .str g] ∧ z.length ≤ 900000 ∧ ∀ H', Same H H' → Q (.bl (allIn z g)) H'
theorem scCons : FnScope ["text", "signs", "sign"] ["text", "signs"] (defScope sCons) := ⟨rfl, rfl, rfl, by decide +kernel, rfl, by decide +kernel, by decide +kernel⟩
/-- the list of a walk's tests -/
theorem ok_cons {f : Addr} {fd : FuncData} (FP : FD K "consists_of" sCons f fd) (gA : mg "all" = none) : FnOk P w K mg bs CX0 1 f fd ["text", "signs"] spCons := by
  have sc := scCons
  refine FP.ok scCons (fun vs H Q E h => ?_) (fun cdv A outer s H vs Q E hr h => ?_)
  · obtain ⟨z, g, rfl, _⟩ := h
    rfl
  · obtain ⟨z, g, rfl, hz, k⟩ := h
    refine ⟨_, pss_one (ps_ret (pe_callB (cr_all rfl) (by rfl) gA boot_all (pa_cons
          (pe_lc (own := [("sign", 2)]) (g := gName 2) (by rfl) sc.nd (pi_str (pv 0)) (blkOk_by (N := ["text", "signs", "sign"]) (sc := defScope sCons) (by decide +kernel))
            (fun _ _ _ _ _ => pg_name (i := 2) sc.nd rfl (Or.inl rfl)) (fun _ _ _ _ _ => pts_nil)
            (fun _ _ _ _ _ => pe_cmpR op_in_sign (pv 2) (pv 1) rfl)) pa_nil))), ?_⟩
    refine ⟨_, rfl, z, rfl, fun D hD => lc_it walk_str (fun i H' => Same H H' ∧ H' D = some (.lst (((z.cps.toList.take i).map fun c => decide (c ∈ g.cps.toList)).map V.bl))) ⟨same_new hD, by rw [upd_same]; rfl⟩ (fun _ _ _ _ => trivial) ?_ ?_⟩
    · rintro i v H5 H6 hi ⟨s5, d5⟩ ⟨rfl, c, hc, rfl⟩
      refine ⟨rfl, rd_yes rfl ?_⟩
      refine ⟨_, rfl, _, rfl, c, g, rfl, rfl, _, d5, ?_, s5.mut hD, ?_⟩
      · rw [List.length_map, List.length_map, List.length_take]
        exact Nat.lt_of_le_of_lt (Nat.le_trans (Nat.min_le_right _ _) (by simpa [Str.length] using hz)) (by decide)
      · have hc' : z.cps.toList[i]? = some c := by simpa using hc
        rw [upd_same, List.take_succ, hc', List.map_append, List.map_append]
        rfl
    · rintro H5 ⟨s5, d5⟩
      refine ⟨D, _, rfl, SqL.of d5, ?_⟩
      have e : z.cps.toList.take z.cps.size = z.cps.toList := List.take_of_length_le (by simp)
      rw [e, List.all_map]
      exact k _ s5
structure FxName (mg : Str → Option Value) : Prop where
  isi : mg "isinstance" = none
  str : mg "str" = none
  len : mg "len" = none
  all : mg "all" = none
  most : ∃ t, mg "LONGEST_NAME" = some (.int 8 t)
  let_ : ∃ t, mg "LETTERS" = some (.str "abcdefghijklmnopqrstuvwxyz" t)
def spName (K : Frag) : Sp := fun vs H Q _ => ∃ v, vs = [v] ∧ ((NoStr K H v ∧ ∀ H', Same H H' → Q (.bl false) H') ∨ ∃ z : Str, v = .str z ∧ z.length ≤ 900000 ∧ ∀ H', Same H H' → Q (.bl (nameIn z)) H')
theorem scName : FnScope ["value"] ["value"] (defScope sIsName) := ⟨rfl, rfl, rfl, by decide +kernel, rfl, by decide +kernel, by decide +kernel⟩
theorem ok_name {f fC : Addr} {fd fdC : FuncData} (FP : FD K "is_name" sIsName f fd) (F : FxName mg) (FC : FD K "consists_of" sCons fC fdC) (gC : mg "consists_of" = some (.ref fC)) (bC : Binds K fdC ["text", "signs"] []) : FnOk P w K mg bs CX0 2 f fd ["value"] (spName K) := by
  have sc := scName
  have GC : FnOk P w K mg bs CX0 1 fC fdC ["text", "signs"] spCons := ok_cons FC F.all
  obtain ⟨t1, e1⟩ := F.most
  obtain ⟨t2, e2⟩ := F.let_
  refine FP.ok scName (fun vs H Q E h => ?_) (fun cdv A outer s H vs Q E hr h => ?_)
  · obtain ⟨v, rfl, _⟩ := h
    rfl
  · obtain ⟨v, rfl, h⟩ := h
    refine ⟨_, pss_one (ps_ret (pe_and (pe_callB call_isi (by rfl) F.isi boot_isinstance (pa_cons (pv 0) (pa_cons (pe_bltn (v := .ty "str") (by rfl) F.str boot_str rfl) pa_nil)))
      (pe_and (pe_chain op_le op_le pe_int (pe_callB call_len_str (by rfl) F.len boot_len (pa_cons (pv 0) pa_nil)) (pe_glob (v := .int 8) rfl e1 ⟨_, rfl⟩))
      (pe_one (pe_call GC hr (by rfl) gC FC.kp bC .nil pass0 (pa_cons (pv 0) (pa_cons (pe_glob (v := .str "abcdefghijklmnopqrstuvwxyz") rfl e2 ⟨_, rfl⟩) pa_nil))))))), ?_⟩
    rcases h with ⟨⟨n, hT, hk⟩, k⟩ | ⟨z, rfl, hz, k⟩
    · refine ⟨_, rfl, v, .ty "str", _, _, false, rfl, .ty "str", hT, kit_ty hk, _, rfl, ?_⟩
      refine Eq.mpr (if_neg (by decide)) ?_
      exact k H (Same.refl H)
    · have hz2 : z.length ≤ sizeLine := Nat.le_trans hz (by decide)
      refine ⟨_, rfl, .str z, .ty "str", .type "str", _, true, rfl, .ty "str", .base (.str z), kit_ty (by decide +kernel), _, rfl, ?_⟩
      refine Eq.mpr (if_pos rfl) ?_
      refine ⟨_, rfl, z, rfl, hz2, _, _, rfl, rfl, _, rfl, ?_⟩
      by_cases h1 : 1 ≤ z.length
      · refine Eq.mpr (if_pos (decide_eq_true (by omega))) ?_
        refine ⟨_, _, rfl, rfl, _, rfl, ?_⟩
        by_cases h2 : z.length ≤ 8
        · refine Eq.mpr (if_pos (decide_eq_true (by omega : ((z.length : Nat) : Int) ≤ 8))) ?_
          refine ⟨_, rfl, z, _, rfl, hz, fun H1 s1 => ?_⟩
          have q := k H1 s1
          unfold nameIn at q
          rw [decide_eq_true h1, decide_eq_true h2] at q
          exact q
        · refine Eq.mpr (if_neg (by rw [decide_eq_false (by omega : ¬ ((z.length : Nat) : Int) ≤ 8)]; decide)) ?_
          have q := k H (Same.refl H)
          unfold nameIn at q
          rw [decide_eq_true h1, decide_eq_false h2] at q
          exact q
      · refine Eq.mpr (if_neg (by rw [decide_eq_false (by omega : ¬ (1 : Int) ≤ ((z.length : Nat) : Int))]; decide)) ?_
        refine ⟨_, rfl, ?_⟩
        refine Eq.mpr (if_neg (by decide)) ?_
        have q := k H (Same.refl H)
        unfold nameIn at q
        rw [decide_eq_false h1] at q
        exact q
/-! ### what is a term -/
theorem suffix_len (x y : Str) : (Txt.removesuffix x y).length ≤ x.length := by
  unfold Txt.removesuffix
  split
  · unfold Txt.affix
    dsimp only
    split
    · exact Nat.le_refl _
    · unfold Builtin.Str.strSub
      show (Array.extract _ _ _).size ≤ x.cps.size
      rw [Array.size_extract]
      omega
  · unfold Txt.affix
    exact Nat.le_refl _
def termIn (z : Str) : Bool := decide (z = "0") || nameIn (Txt.removesuffix z "!")
structure FxTerm (mg : Str → Option Value) : Prop where
  isi : mg "isinstance" = none
  str : mg "str" = none
  zero : ∃ t, mg "ZERO" = some (.str "0" t)
def spTerm (K : Frag) : Sp := fun vs H Q _ => ∃ v, vs = [v] ∧ ((NoStr K H v ∧ ∀ H', Same H H' → Q (.bl false) H') ∨ ∃ z : Str, v = .str z ∧ z.length ≤ 800000 ∧ ∀ H', Same H H' → Q (.bl (termIn z)) H')
theorem scTerm : FnScope ["value"] ["value"] (defScope sIsTerm) := ⟨rfl, rfl, rfl, by decide +kernel, rfl, by decide +kernel, by decide +kernel⟩
theorem ok_term {f fM fC : Addr} {fd fdM fdC : FuncData} (FP : FD K "is_term" sIsTerm f fd) (F : FxTerm mg) (FNm : FxName mg) (FM : FD K "is_name" sIsName fM fdM) (gM : mg "is_name" = some (.ref fM)) (bM : Binds K fdM ["value"] [])
    (FC : FD K "consists_of" sCons fC fdC) (gC : mg "consists_of" = some (.ref fC)) (bC : Binds K fdC ["text", "signs"] []) : FnOk P w K mg bs CX0 3 f fd ["value"] (spTerm K) := by
  have sc := scTerm
  have GM : FnOk P w K mg bs CX0 2 fM fdM ["value"] (spName K) := ok_name FM FNm FC gC bC
  obtain ⟨t0, e0⟩ := F.zero
  refine FP.ok scTerm (fun vs H Q E h => ?_) (fun cdv A outer s H vs Q E hr h => ?_)
  · obtain ⟨v, rfl, _⟩ := h
    rfl
  · obtain ⟨v, rfl, h⟩ := h
    refine ⟨_, pss_one (ps_ret (pe_and (pe_callB call_isi (by rfl) F.isi boot_isinstance (pa_cons (pv 0) (pa_cons (pe_bltn (v := .ty "str") (by rfl) F.str boot_str rfl) pa_nil)))
      (pe_one (pe_or (pe_cmpR op_eq (pv 0) (pe_glob (v := .str "0") rfl e0 ⟨_, rfl⟩) (nomark _))
        (pe_one (pe_call GM hr (by rfl) gM FM.kp bM .nil pass0 (pa_cons (pe_bm PySem.F.plainAttrs_str PySem.F.slot_str_removesuffix PySem.F.type_str_removesuffix mt_removesuffix (pv 0) (pa_cons pe_str pa_nil)) pa_nil))))))), ?_⟩
    rcases h with ⟨⟨n, hT, hk⟩, k⟩ | ⟨z, rfl, hz, k⟩
    · refine ⟨_, rfl, v, .ty "str", _, _, false, rfl, .ty "str", hT, kit_ty hk, _, rfl, ?_⟩
      refine Eq.mpr (if_neg (by decide)) ?_
      exact k H (Same.refl H)
    · refine ⟨_, rfl, .str z, .ty "str", .type "str", _, true, rfl, .ty "str", .base (.str z), kit_ty (by decide +kernel), _, rfl, ?_⟩
      refine Eq.mpr (if_pos rfl) ?_
      refine ⟨_, rfl, rfl, _, rfl, ?_⟩
      have e : decide (V.str z = V.str "0") = decide (z = "0") := by
        rw [Bool.eq_iff_iff]
        simp
      by_cases h0 : z = "0"
      · refine Eq.mpr (if_pos (by rw [e]; exact decide_eq_true h0)) ?_
        have : termIn z = true := by unfold termIn; rw [decide_eq_true h0]; rfl
        rw [← this]
        exact k H (Same.refl H)
      · refine Eq.mpr (if_neg (by rw [e]; exact fun q => h0 (of_decide_eq_true q))) ?_
        have ht : termIn z = nameIn (Txt.removesuffix z "!") := by unfold termIn; rw [decide_eq_false h0]; rfl
        refine ⟨_, rfl, rfl, z, "!", rfl, rfl, Nat.le_trans (by omega : z.length ≤ 900000) (by decide), ?_⟩
        refine ⟨.str (Txt.removesuffix z "!"), rfl, .inr ⟨_, rfl, Nat.le_trans (suffix_len z "!") (by omega), fun H1 s1 => ?_⟩⟩
        have q := k H1 s1
        rw [ht] at q
        exact q
end
end L2.K04

set_option Elab.async false
set_option linter.all false
set_option maxRecDepth 100000
set_option maxHeartbeats 2000000
namespace L2.K04
open PySem PySem.Spec PyProof.Rows L2.Vx
open PySem.W (Frag)
/-! ### right bounds -/
section
variable {P : Program} {w : World} {K : Frag} {mg : Str → Option Value} {bs : Heap}
abbrev Bd := Str × Str × Int
/-- a right bound at a -/
def BdAt (K : Frag) (H : Hp) (a : Addr) (b : Bd) : Prop := SqT K H a [.str b.1, .str b.2.1, .int b.2.2]
def okBd (b : Bd) : Prop := b.1.length ≤ 20 ∧ b.2.1.length ≤ 20 ∧ termIn b.1 = true ∧ termIn b.2.1 = true ∧ b.1 ≠ b.2.1
structure FxBd (mg : Str → Option Value) : Prop where
  isi : mg "isinstance" = none
  tup : mg "tuple" = none
  len : mg "len" = none
  int : mg "int" = none
  bool : mg "bool" = none
def spInt : Sp := fun vs H Q _ => ∃ i : Int, vs = [.int i] ∧ Q (.bl true) H
theorem scInt : FnScope ["value"] ["value"] (defScope sIsInt) := ⟨rfl, rfl, rfl, by decide +kernel, rfl, by decide +kernel, by decide +kernel⟩
theorem ok_int {f : Addr} {fd : FuncData} (FP : FD K "is_integer" sIsInt f fd) (F : FxBd mg) : FnOk P w K mg bs CX0 1 f fd ["value"] spInt := by
  have sc := scInt
  refine FP.ok scInt (fun vs H Q E h => ?_) (fun cdv A outer s H vs Q E hr h => ?_)
  · obtain ⟨v, rfl, _⟩ := h
    rfl
  · obtain ⟨i, rfl, k⟩ := h
    refine ⟨_, pss_one (ps_ret (pe_and (pe_callB call_isi (by rfl) F.isi boot_isinstance (pa_cons (pv 0) (pa_cons (pe_bltn (v := .ty "int") (by rfl) F.int boot_int rfl) pa_nil)))
      (pe_one (pe_not (pe_callB call_isi (by rfl) F.isi boot_isinstance (pa_cons (pv 0) (pa_cons (pe_bltn (v := .ty "bool") (by rfl) F.bool boot_bool rfl) pa_nil))))))), ?_⟩
    refine ⟨_, rfl, .int i, .ty "int", .type "int", _, true, rfl, .ty "int", .base (.int i), kit_ty (by decide +kernel), _, rfl, ?_⟩
    refine Eq.mpr (if_pos rfl) ?_
    exact ⟨_, rfl, .int i, .ty "bool", .type "int", _, false, rfl, .ty "bool", .base (.int i), kit_ty (by decide +kernel), _, rfl, k⟩
def spIsBd (K : Frag) : Sp := fun vs H Q _ => ∃ (a : Addr) (b : Bd), vs = [.ref a] ∧ BdAt K H a b ∧ okBd b ∧ ∀ H', Same H H' → Q (.bl true) H'
theorem scIsBd : FnScope ["value", "one", "other", "most"] ["value"] (defScope sIsBd) := ⟨rfl, rfl, rfl, by decide +kernel, rfl, by decide +kernel, by decide +kernel⟩
theorem ok_isbd {f fT fI fM fC : Addr} {fd fdT fdI fdM fdC : FuncData} (FP : FD K "is_bound" sIsBd f fd) (F : FxBd mg) (FTm : FxTerm mg) (FNm : FxName mg)
    (FT : FD K "is_term" sIsTerm fT fdT) (gT : mg "is_term" = some (.ref fT)) (bT : Binds K fdT ["value"] [])
    (FI : FD K "is_integer" sIsInt fI fdI) (gI : mg "is_integer" = some (.ref fI)) (bI : Binds K fdI ["value"] [])
    (FM : FD K "is_name" sIsName fM fdM) (gM : mg "is_name" = some (.ref fM)) (bM : Binds K fdM ["value"] [])
    (FC : FD K "consists_of" sCons fC fdC) (gC : mg "consists_of" = some (.ref fC)) (bC : Binds K fdC ["text", "signs"] []) : FnOk P w K mg bs CX0 4 f fd ["value"] (spIsBd K) := by
  have sc := scIsBd
  have GT : FnOk P w K mg bs CX0 3 fT fdT ["value"] (spTerm K) := ok_term FT FTm FNm FM gM bM FC gC bC
  have GI : FnOk P w K mg bs CX0 1 fI fdI ["value"] spInt := ok_int FI F
  refine FP.ok scIsBd (fun vs H Q E h => ?_) (fun cdv A outer s H vs Q E hr h => ?_)
  · obtain ⟨a, b, rfl, _⟩ := h
    rfl
  · obtain ⟨a, b, rfl, ha, hok, k⟩ := h
    have hr1 : Room 1 (A.deeper (envOfC "is_bound" (defScope sIsBd) s.heap.objs.size f cdv)) := hr.mono (by decide)
    refine ⟨_, pss_cons (ps_if (PW.pt (pw_or (pt_not (pt_val (pe_callB call_isi (by rfl) F.isi boot_isinstance (pa_cons (pv 0) (pa_cons (pe_bltn (v := .ty "tuple") (by rfl) F.tup boot_tuple rfl) pa_nil)))))
          (pw_or1 (pt_cmpR op_ne (pe_callB call_len_seq (by rfl) F.len boot_len (pa_cons (pv 0) pa_nil)) pe_int (nomark _))))) (pss_one (ps_ret pe_bl)) pss_nil)
      (pss_cons (ps_asg (pv 0) (pg_tup rfl (pgs_cons (pg_name (i := 1) sc.nd rfl (Or.inl rfl)) (pgs_cons (pg_name (i := 2) sc.nd rfl (Or.inl rfl)) (pgs_cons (pg_name (i := 3) sc.nd rfl (Or.inl rfl)) pgs_nil)))))
      (pss_one (ps_ret (pe_and (pe_call GT hr (by rfl) gT FT.kp bT .nil pass0 (pa_cons (pv 1) pa_nil)) (pe_and (pe_call GT hr (by rfl) gT FT.kp bT .nil pass0 (pa_cons (pv 2) pa_nil))
        (pe_and (pe_cmpR op_ne (pv 1) (pv 2) (nomark _)) (pe_one (pe_call GI hr1 (by rfl) gI FI.kp bI .nil pass0 (pa_cons (pv 3) pa_nil))))))))), ?_⟩
    obtain ⟨x, y, m⟩ := b
    obtain ⟨l1, l2, t1, t2, hne⟩ := hok
    refine rd_seq (rd_if ?_)
    refine ⟨_, rfl, .ref a, .ty "tuple", .type "tuple", _, true, rfl, .ty "tuple", tyX_tup ha, kit_ty (by decide +kernel), _, rfl, ?_⟩
    refine Eq.mpr (if_neg (by decide)) ?_
    refine ⟨_, rfl, a, _, rfl, .inr ha, rfl, _, rfl, ?_⟩
    refine Eq.mpr (if_neg (nt rfl)) ?_
    dsimp only [tNext]
    refine rd_seq ?_
    refine ⟨_, rfl, a, _, rfl, ha, rfl, _, _, rfl, _, _, rfl, _, _, rfl, rfl, ?_⟩
    dsimp only
    refine ⟨_, rfl, .str x, rfl, .inr ⟨x, rfl, Nat.le_trans l1 (by decide), fun H1 s1 => ⟨_, rfl, ?_⟩⟩⟩
    refine Eq.mpr (if_pos t1) ?_
    refine ⟨_, rfl, .str y, rfl, .inr ⟨y, rfl, Nat.le_trans l2 (by decide), fun H2 s2 => ⟨_, rfl, ?_⟩⟩⟩
    refine Eq.mpr (if_pos t2) ?_
    refine ⟨_, rfl, _, rfl, rfl, _, rfl, ?_⟩
    refine Eq.mpr (if_pos (nf (fun q => hne (V.str.inj q)))) ?_
    exact ⟨_, rfl, m, rfl, k H2 (s1.trans s2)⟩
end
end L2.K04

set_option Elab.async false
set_option linter.all false
set_option maxRecDepth 100000
set_option maxHeartbeats 2000000
namespace L2.K04
open PySem PySem.Spec PyProof.Rows L2.Vx
open PySem.W (Frag)
/-! ### right bounds pass; their terms -/
section
variable {P : Program} {w : World} {K : Frag} {mg : Str → Option Value} {bs : Heap}
theorem sqt_same {H H' : Hp} {a : Addr} {xs : List V} (e : Same H H') (h : SqT K H a xs) : SqT K H' a xs := by
  rcases h with (h | ⟨o, h⟩) | h
  · exact .inl (.inl (e _ _ h))
  · exact .inl (.inr ⟨o, e _ _ h⟩)
  · exact .inr h
/-- right bounds, a tuple at a of tuples at ps -/
def BdsAt (K : Frag) (H : Hp) (a : Addr) (ps : List Addr) (bds : List Bd) : Prop := SqT K H a (ps.map V.ref) ∧ ps.length = bds.length ∧ ∀ (i : Nat) (p : Addr) (b : Bd), ps[i]? = some p → bds[i]? = some b → BdAt K H p b ∧ okBd b
theorem BdsAt.same {H H' : Hp} {a : Addr} {ps : List Addr} {bds : List Bd} (h : BdsAt K H a ps bds) (s : Same H H') : BdsAt K H' a ps bds := ⟨sqt_same s h.1, h.2.1, fun i p b e1 e2 => ⟨sqt_same s (h.2.2 i p b e1 e2).1, (h.2.2 i p b e1 e2).2⟩⟩
def spChk (K : Frag) : Sp := fun vs H Q _ => ∃ (a : Addr) (ps : List Addr) (bds : List Bd), vs = [.ref a] ∧ BdsAt K H a ps bds ∧ bds.length ≤ 100 ∧ ∀ H', Same H H' → Q .non H'
theorem scChk : FnScope ["value", "bound"] ["value"] (defScope sChkB) := ⟨rfl, rfl, rfl, by decide +kernel, rfl, by decide +kernel, by decide +kernel⟩
theorem ok_chk {f fB C fI : Addr} {fd fdB : FuncData} (FP : FD K "check_bounds" sChkB f fd) (F : FxBd mg) (gAll : mg "all" = none) (T : ErrT K C fI) (gBad : mg "BadBounds" = some (.ref C))
    (GB : FnOk P w K mg bs CX0 4 fB fdB ["value"] (spIsBd K)) (kB : PySem.W.keepIn K (.ref fB) = true) (gB : mg "is_bound" = some (.ref fB)) (bB : Binds K fdB ["value"] []) : FnOk P w K mg bs (L2.CX P w) 5 f fd ["value"] (spChk K) := by
  have sc := scChk
  refine FP.okX scChk (fun vs H Q E h => ?_) (fun cdv A outer s H vs Q E hr h => ?_)
  · obtain ⟨a, ps, bds, rfl, _⟩ := h
    rfl
  · obtain ⟨a, ps, bds, rfl, ha, hl, k⟩ := h
    refine ⟨_, pss_one (ps_if (PW.pt (pw_or (pt_not (pt_val (pe_callB call_isi (by rfl) F.isi boot_isinstance (pa_cons (pv 0) (pa_cons (pe_bltn (v := .ty "tuple") (by rfl) F.tup boot_tuple rfl) pa_nil)))))
          (pw_or1 (pt_not (pt_val (pe_callB (cr_all rfl) (by rfl) gAll boot_all (pa_cons
            (pe_lc (own := [("bound", 1)]) (g := gName 1) (by rfl) sc.nd (pi_tup (pv 0)) (blkOk_by (N := ["value", "bound"]) (sc := defScope sChkB) (by decide +kernel))
              (fun _ _ _ _ _ => pg_name (i := 1) sc.nd rfl (Or.inl rfl)) (fun _ _ _ _ _ => pts_nil)
              (fun _ _ _ _ _ => pe_call GB hr (by rfl) gB kB bB .nil pass0 (pa_cons (pv 1) pa_nil))) pa_nil)))))))
        (pss_one (ps_err rfl T gBad hr (takes_of rfl rfl rfl rfl) (pa_cons (pv 0) pa_nil))) pss_nil), ?_⟩
    refine rd_if ?_
    refine ⟨_, rfl, .ref a, .ty "tuple", .type "tuple", _, true, rfl, .ty "tuple", tyX_tup ha.1, kit_ty (by decide +kernel), _, rfl, ?_⟩
    refine Eq.mpr (if_neg (by decide)) ?_
    refine ⟨_, rfl, a, rfl, ⟨_, ha.1⟩, fun D hD => lc_it (walk_tup (K := K) (a := a) (xs := ps.map V.ref)) (fun j H' => Same H H' ∧ H' D = some (.lst ((List.replicate j true).map V.bl))) ⟨same_new hD, upd_same⟩ (fun _ _ _ u => sqt_same u.1 ha.1) ?_ ?_⟩
    · rintro j v H5 H6 hj ⟨s5, d5⟩ ⟨rfl, hv⟩
      have hj' : j < ps.length := by simpa using hj
      have hj2 : j < bds.length := by rw [← ha.2.1]; exact hj'
      rw [List.getElem?_map, List.getElem?_eq_getElem hj'] at hv
      cases hv
      obtain ⟨h1, h2⟩ := (ha.same s5).2.2 j _ _ (List.getElem?_eq_getElem hj') (List.getElem?_eq_getElem hj2)
      refine ⟨rfl, rd_yes rfl ?_⟩
      refine ⟨_, rfl, _, _, rfl, h1, h2, fun H7 s7 => ⟨_, s7 _ _ d5, ?_, (s5.trans s7).mut hD, ?_⟩⟩
      · rw [List.length_map, List.length_replicate]
        exact Nat.lt_of_lt_of_le (by omega : j < 101) (by decide)
      · rw [upd_same, List.replicate_succ', List.map_append]
        rfl
    · rintro H5 ⟨s5, d5⟩
      refine ⟨D, _, rfl, SqL.of d5, ?_⟩
      have e : ∀ m : Nat, (List.replicate m true).all id = true := fun m => by
        induction m with
        | zero => rfl
        | succ m ih => rw [List.replicate_succ, List.all_cons, ih]; rfl
      rw [e]
      refine ⟨_, rfl, ?_⟩
      refine Eq.mpr (if_neg (by decide)) ?_
      exact k H5 s5
end
end L2.K04

set_option Elab.async false
set_option linter.all false
set_option maxRecDepth 100000
set_option maxHeartbeats 2000000
namespace L2.K04
open PySem PySem.Spec PyProof.Rows L2.Vx
open PySem.W (Frag)
/-! ### the terms of bounds -/
def twoOf (b : Bd) : List Str := [b.1, b.2.1]
def allOf (bds : List Bd) : List Str := "0" :: bds.flatMap twoOf
section
variable {P : Program} {w : World} {K : Frag} {mg : Str → Option Value} {bs : Heap}
structure FxTs (mg : Str → Option Value) : Prop where
  srt : mg "sorted" = none
  set : mg "set" = none
  zero : ∃ t, mg "ZERO" = some (.str "0" t)
def spTerms (K : Frag) : Sp := fun vs H Q _ => ∃ (a : Addr) (ps : List Addr) (bds : List Bd), vs = [.ref a] ∧ BdsAt K H a ps bds ∧ bds.length ≤ 30 ∧ (firsts (allOf bds)).length < 64 ∧
  ∀ H' q ys, Same H H' → H q = none → ys.Perm (firsts (allOf bds)) → sortedS ys = true → H' q = some (.lst (ys.map V.str)) → Q (.ref q) H'
theorem scTerms : FnScope ["bounds", "bound", "term"] ["bounds"] (defScope sTerms) := ⟨rfl, rfl, rfl, by decide +kernel, rfl, by decide +kernel, by decide +kernel⟩
theorem ok_terms {f : Addr} {fd : FuncData} (FP : FD K "terms_of" sTerms f fd) (F : FxTs mg) : FnOk P w K mg bs CX0 1 f fd ["bounds"] (spTerms K) := by
  have sc := scTerms
  obtain ⟨t0, e0⟩ := F.zero
  refine FP.ok scTerms (fun vs H Q E h => ?_) (fun cdv A outer s H vs Q E hr h => ?_)
  · obtain ⟨a, ps, bds, rfl, _⟩ := h
    rfl
  · obtain ⟨a, ps, bds, rfl, ha, hl, h64, k⟩ := h
    refine ⟨_, pss_one (ps_ret (pe_callB (cr_sortedK rfl) (by rfl) F.srt boot_sorted (pa_cons (pe_callTy (cr_setK rfl) (by rfl) F.set boot_set (pa_cons (pe_op op_cat (pe_lst (pa_cons (pe_glob (v := .str "0") rfl e0 ⟨_, rfl⟩) pa_nil))
      (pe_lc2 (own := [("bound", 1), ("term", 2)]) (vs1 := [2]) (g := gName 1) (g1 := gName 2) (by rfl) sc.nd (pi_tup (pv 0)) (blkOk_by (N := ["bounds", "bound", "term"]) (sc := defScope sTerms) (by decide +kernel)) (by decide)
        (fun _ _ _ _ _ => pg_name (i := 1) sc.nd rfl (Or.inl rfl)) (fun _ _ _ _ _ => pts_nil)
        (wi1 := iTup K (tSl (rSlT K) (tVar 1) tNoPart (tPart (tC (.int 2))))) (fun _ _ _ _ _ => by exact pi_tup (pe_slice (r := rSlT K) sl_tup (pv 1) po_none (po_some pe_int)))
        (fun _ _ _ _ _ => pg_name (i := 2) sc.nd rfl (Or.inl rfl)) (fun _ _ _ _ _ => pts_nil) (fun _ _ _ _ _ => pv 2))) pa_nil)) pa_nil))), ?_⟩
    have lall : ∀ j, ((bds.take j).flatMap twoOf).length ≤ 60 := fun j => by
      have h : ∀ l : List Bd, (l.flatMap twoOf).length = 2 * l.length := fun l => by
        induction l with
        | nil => rfl
        | cons b l ih => rw [List.flatMap_cons, List.length_append, ih, List.length_cons]; show 2 + _ = _; omega
      rw [h, List.length_take]
      omega
    refine ⟨(by exact (by decide : 1 ≤ sizeLine)), fun L hL => ?_⟩
    have s1 : Same H (upd H L (.lst [.str "0"])) := same_new hL
    have f1 : upd H L (.lst [.str "0"]) L = some (.lst [.str "0"]) := upd_same
    change tLc2 _ _ _ _ _ _ _ _ _ _ (upd H L (.lst [.str "0"])) _
    generalize upd H L (.lst [.str "0"]) = H1 at s1 f1 ⊢
    have ha1 := ha.same s1
    refine ⟨_, rfl, a, rfl, ⟨_, ha1.1⟩, fun D hD => lc2_it (walk_tup (K := K) (a := a) (xs := ps.map V.ref)) (fun j H' => Same H1 H' ∧ H' D = some (.lst (((bds.take j).flatMap twoOf).map V.str))) ⟨same_new hD, upd_same⟩ (fun _ _ _ u => sqt_same u.1 ha1.1) ?_ ?_⟩
    · rintro j v H5 H6 hj ⟨s5, d5⟩ ⟨rfl, hv⟩
      have hj' : j < ps.length := by simpa using hj
      have hj2 : j < bds.length := by rw [← ha.2.1]; exact hj'
      rw [List.getElem?_map, List.getElem?_eq_getElem hj'] at hv
      cases hv
      obtain ⟨hb, _⟩ := (ha1.same s5).2.2 j _ _ (List.getElem?_eq_getElem hj') (List.getElem?_eq_getElem hj2)
      have et : (bds.take (j + 1)).flatMap twoOf = (bds.take j).flatMap twoOf ++ twoOf bds[j] := by
        rw [List.take_succ, List.getElem?_eq_getElem hj2, List.flatMap_append]
        show _ ++ (twoOf bds[j] ++ []) = _
        rw [List.append_nil]
      have l60 := lall j
      rw [et]
      generalize bds[j] = b at hb
      generalize (bds.take j).flatMap twoOf = acc at d5 l60 ⊢
      refine ⟨rfl, rd_yes rfl ?_⟩
      refine ⟨_, rfl, _, rfl, _, _, rfl, hb, (fun h => absurd (show (2 : Nat) = 3 from h.2) (by decide)), fun p2 hp2 => ?_⟩
      have ec : cutV [V.str b.1, .str b.2.1, .int b.2.2] none (some 2) = (twoOf b).map V.str := rfl
      rw [ec]
      have s6 : Same H6 (upd H6 p2 (.tup ((twoOf b).map V.str))) := same_new hp2
      have f2 : upd H6 p2 (.tup ((twoOf b).map V.str)) p2 = some (.tup ((twoOf b).map V.str)) := upd_same
      have d7 := s6 _ _ d5
      generalize upd H6 p2 (.tup ((twoOf b).map V.str)) = H7 at s6 f2 d7 ⊢
      have nD : D ≠ p2 := fun z => by rw [z, hp2] at d5; cases d5
      refine ⟨p2, rfl, ⟨_, SqT.of f2⟩, lc_in (D := D) (walk_tup (K := K) (a := p2) (xs := (twoOf b).map V.str)) (fun i H' => Same H1 H' ∧ H' p2 = some (.tup ((twoOf b).map V.str)) ∧ H' D = some (.lst ((acc ++ (twoOf b).take i).map V.str))) ⟨s5.trans s6, f2, by rw [List.take_zero, List.append_nil]; exact d7⟩ (fun _ _ _ u => SqT.of u.2.1) ?_ ?_⟩
      · rintro i v H8 H9 hi ⟨s8, f8, d8⟩ ⟨rfl, hv⟩
        have hi' : i < (twoOf b).length := by simpa using hi
        have hi2 : i < 2 := hi'
        rw [List.getElem?_map, List.getElem?_eq_getElem hi'] at hv
        cases hv
        refine ⟨rfl, rd_yes rfl ?_⟩
        refine ⟨_, rfl, _, d8, ?_, s8.mut hD, (upd_ne (Ne.symm nD)).trans f8, ?_⟩
        · rw [List.length_map, List.length_append, List.length_take]
          exact Nat.lt_of_le_of_lt (by omega : _ ≤ 62) (by decide)
        · have e8 : ∀ u, (acc ++ (twoOf b).take i).map V.str ++ [V.str u] = (acc ++ ((twoOf b).take i ++ [u])).map V.str := fun u => by
            rw [← List.append_assoc]
            exact (List.map_append (f := V.str) (l₁ := acc ++ (twoOf b).take i) (l₂ := [u])).symm
          rw [upd_same, List.take_succ, List.getElem?_eq_getElem hi']
          exact congrArg (fun l => some (HO.lst l)) (e8 _)
      · rintro H8 ⟨s8, f8, d8⟩
        rw [List.length_map, List.take_length] at d8
        exact ⟨s8, d8⟩
    · rintro H5 ⟨s5, d5⟩
      rw [List.length_map, ha.2.1, List.take_length] at d5
      have f5 := s5 _ _ f1
      have l60 := lall bds.length
      rw [List.take_length] at l60
      refine ⟨L, D, _, _, rfl, rfl, f5, d5, Nat.le_trans (by rw [List.length_map]; show 1 + _ ≤ 61; omega : _ ≤ 61) (by decide), fun M hM => ?_⟩
      have e1 : [V.str "0"] ++ (bds.flatMap twoOf).map V.str = (allOf bds).map V.str := rfl
      rw [e1]
      have s6 := same_new (o := .lst ((allOf bds).map V.str)) hM
      have f6 : upd H5 M (.lst ((allOf bds).map V.str)) M = some (.lst ((allOf bds).map V.str)) := upd_same
      generalize upd H5 M (.lst ((allOf bds).map V.str)) = H6 at s6 f6 ⊢
      refine ⟨M, allOf bds, rfl, SqL.of f6, Nat.lt_of_le_of_lt (by show (bds.flatMap twoOf).length + 1 + 1 ≤ 62; omega) (by decide), fun N hN => ?_⟩
      have s7 := same_new (o := L2.Vx.SetK P w N (allOf bds)) hN
      have f7 : upd H6 N (L2.Vx.SetK P w N (allOf bds)) N = some (L2.Vx.SetK P w N (allOf bds)) := upd_same
      refine ⟨N, allOf bds, rfl, f7, h64, fun ys q hpm hso hq => ?_⟩
      have sA := ((s1.trans s5).trans s6).trans s7
      exact k _ q ys (sA.trans (same_new hq)) (sA.free hq) hpm hso upd_same
end
end L2.K04

set_option Elab.async false
set_option linter.all false
set_option maxRecDepth 100000
set_option maxHeartbeats 2000000
namespace L2.K04
open PySem PySem.Spec PyProof.Rows L2.Vx
open PySem.W (Frag)
/-! ### one round of lowering -/
section
variable {P : Program} {w : World} {K : Frag} {mg : Str → Option Value} {bs : Heap}
/-- all but what stands at d and e is as it was -/
def But2 (d e : Addr) (H H' : Hp) : Prop := ∀ b o, b ≠ d → b ≠ e → H b = some o → H' b = some o
theorem But2.refl (d e : Addr) (H : Hp) : But2 d e H H := fun _ _ _ _ q => q
theorem But2.trans {d e : Addr} {H H1 H2 : Hp} (a : But2 d e H H1) (b : But2 d e H1 H2) : But2 d e H H2 := fun c o n m q => b c o n m (a c o n m q)
theorem But2.of {d e : Addr} {H H' : Hp} (s : Same H H') : But2 d e H H' := fun b o _ _ q => s b o q
theorem But2.one {d e : Addr} {H : Hp} {o : HO} : But2 d e H (upd H d o) := fun b u n _ q => (upd_ne n).trans q
theorem But2.two {d e : Addr} {H : Hp} {o : HO} : But2 d e H (upd H e o) := fun b u _ n q => (upd_ne n).trans q
theorem But2.same {d e : Addr} {H H' : Hp} (k : But2 d e H H') {H0 : Hp} (s : Same H0 H) (hd : H0 d = none) (he : H0 e = none) : Same H0 H' := fun b o q =>
  k b o (ne_of_none q hd) (ne_of_none q he) (s b o q)
theorem But2.tup {d e a : Addr} {H H' : Hp} {xs : List V} {kd ke : List (Key × V)} (k : But2 d e H H') (hd : H d = some (.dK kd)) (he : H e = some (.dK ke)) (h : SqT K H a xs) : SqT K H' a xs := by
  have n : ∀ o : HO, H a = some o → (∀ u, o ≠ .dK u) → H' a = some o := fun o q z => k a o (fun c => by rw [c, hd] at q; exact z kd (Option.some.inj q).symm) (fun c => by rw [c, he] at q; exact z ke (Option.some.inj q).symm) q
  rcases h with (h | ⟨o, h⟩) | h
  · exact .inl (.inl (n _ h (fun u c => by cases c)))
  · exact .inl (.inr ⟨o, n _ h (fun u c => by cases c)⟩)
  · exact .inr h
theorem But2.free {d e b : Addr} {H H' : Hp} {o u : HO} (k : But2 d e H H') (h : H' b = none) (hd : H' d = some o) (he : H' e = some u) : H b = none := by
  cases q : H b with
  | none => rfl
  | some v =>
    have n : b ≠ d := fun z => by rw [z, hd] at h; cases h
    have m : b ≠ e := fun z => by rw [z, he] at h; cases h
    rw [k b v n m q] at h
    cases h
/-- a dict of sums, a dict of first bounds -/
def SumsAt (H : Hp) (d : Addr) (S : BF.Sums Str) (n : Nat) : Prop := ∃ kvs : List (Key × V), H d = some (.dK kvs) ∧ kvs.length ≤ n ∧ ∀ x : Str, valV kvs (Sum.inr x) = (S x).map V.int
def fstV (K : Frag) (H : Hp) (o : Option V) : Option Bd → Prop
  | none => o = none
  | some b => ∃ p, o = some (.ref p) ∧ BdAt K H p b
def FstAt (K : Frag) (H : Hp) (e : Addr) (F : BF.Fst Str) (n : Nat) : Prop := ∃ kvs : List (Key × V), H e = some (.dK kvs) ∧ kvs.length ≤ n ∧ ∀ x : Str, fstV K H (valV kvs (Sum.inr x)) (F x)
theorem SumsAt.ex {H : Hp} {d : Addr} {S : BF.Sums Str} {n : Nat} (h : SumsAt H d S n) : ∃ kvs, H d = some (.dK kvs) := by
  obtain ⟨k, e, _⟩ := h
  exact ⟨k, e⟩
theorem FstAt.ex {H : Hp} {d : Addr} {F : BF.Fst Str} {n : Nat} (h : FstAt K H d F n) : ∃ kvs, H d = some (.dK kvs) := by
  obtain ⟨k, e, _⟩ := h
  exact ⟨k, e⟩
theorem SumsAt.same {H H' : Hp} {d : Addr} {S : BF.Sums Str} {n : Nat} (h : SumsAt H d S n) (s : Same H H') : SumsAt H' d S n := by
  obtain ⟨k, e, r⟩ := h
  exact ⟨k, s _ _ e, r⟩
theorem fstV.same {H H' : Hp} {o : Option V} {b : Option Bd} (h : fstV K H o b) (s : ∀ {a xs}, SqT K H a xs → SqT K H' a xs) : fstV K H' o b := by
  cases b with
  | none => exact h
  | some b =>
    obtain ⟨p, e, q⟩ := h
    exact ⟨p, e, s q⟩
theorem FstAt.same {H H' : Hp} {d : Addr} {F : BF.Fst Str} {n : Nat} (h : FstAt K H d F n) (s : Same H H') : FstAt K H' d F n := by
  obtain ⟨k, e, l, r⟩ := h
  exact ⟨k, s _ _ e, l, fun x => (r x).same (fun q => sqt_same s q)⟩
theorem BdsAt.but {H H' : Hp} {d e a : Addr} {ps : List Addr} {bds : List Bd} {kd ke : List (Key × V)} (h : BdsAt K H a ps bds) (k : But2 d e H H') (hd : H d = some (.dK kd)) (he : H e = some (.dK ke)) : BdsAt K H' a ps bds :=
  ⟨k.tup hd he h.1, h.2.1, fun i p b e1 e2 => ⟨k.tup hd he (h.2.2 i p b e1 e2).1, (h.2.2 i p b e1 e2).2⟩⟩
def lowV : Option Str → V
  | none => .non
  | some x => .str x
def spLower (K : Frag) : Sp := fun vs H Q _ => ∃ (a d e : Addr) (ps : List Addr) (bds : List Bd) (S : BF.Sums Str) (F : BF.Fst Str) (n : Nat), vs = [.ref a, .ref d, .ref e] ∧ d ≠ e ∧ BdsAt K H a ps bds ∧ SumsAt H d S n ∧ FstAt K H e F n ∧ n + bds.length ≤ 100000 ∧
  ∀ H', But2 d e H H' → SumsAt H' d (BF.round bds S F).S (n + bds.length) → FstAt K H' e (BF.round bds S F).F (n + bds.length) → Q (lowV (BF.round bds S F).low) H'
theorem scLower : FnScope ["bounds", "sums", "firsts", "lowered", "bound", "one", "other", "most"] ["bounds", "sums", "firsts"] (defScope sLower) := ⟨rfl, rfl, rfl, by decide +kernel, rfl, by decide +kernel, by decide +kernel⟩
theorem ok_lower {f : Addr} {fd : FuncData} (FP : FD K "lower_once" sLower f fd) : FnOk P w K mg bs CX0 1 f fd ["bounds", "sums", "firsts"] (spLower K) := by
  have sc := scLower
  refine FP.ok scLower (fun vs H Q E h => ?_) (fun cdv A outer s H vs Q E hr h => ?_)
  · obtain ⟨a, d, e, ps, bds, S, F, n, rfl, _⟩ := h
    rfl
  · obtain ⟨a, d, e, ps, bds, S, F, n, rfl, hne, ha, hS, hF, hn, k⟩ := h
    have hu := hu_of hr
    refine ⟨_, pss_cons (ps_set (i := 3) sc.nd rfl (Or.inl rfl) pe_non)
      (pss_cons (ps_for PassesOwn.never rfl (pi_tup (pv 0)) (pg_name (i := 4) sc.nd rfl (Or.inl rfl))
        (pss_cons (ps_asg (pv 4) (pg_tup rfl (pgs_cons (pg_name (i := 5) sc.nd rfl (Or.inl rfl)) (pgs_cons (pg_name (i := 6) sc.nd rfl (Or.inl rfl)) (pgs_cons (pg_name (i := 7) sc.nd rfl (Or.inl rfl)) pgs_nil)))))
        (pss_one (ps_if (PW.pt (pw_and (pt_cmp (pc_din hu (pv 6) (pv 1))) (pw_and1 (PW.pt (pw_or (pt_cmp (pc_dnotin hu (pv 5) (pv 1))) (pw_or1 (pt_cmpR op_lt (pe_op op_add (pe_dget hu (pv 1) (pv 6) (fun _ _ => rfl)) (pv 7)) (pe_dget hu (pv 1) (pv 5) (fun _ _ => rfl)) (nomark _))))))))
          (pss_cons (ps_dput hu (pv 1) (pv 5) (pe_op op_add (pe_dget hu (pv 1) (pv 6) (fun _ _ => rfl)) (pv 7)) rfl)
          (pss_cons (ps_dput hu (pv 2) (pv 5) (pv 4) rfl)
          (pss_one (ps_set (i := 3) sc.nd rfl (Or.inl rfl) (pv 5))))) pss_nil))))
      (pss_one (ps_ret (pv 3)))), ?_⟩
    refine rd_seq (rd_set ?_)
    dsimp only
    refine rd_seq ?_
    have start_ : lowV (none : Option Str) = V.non := rfl
    refine ⟨_, rfl, a, rfl, ⟨_, ha.1⟩, for_it (walk_tup (K := K) (a := a) (xs := ps.map V.ref)) (fun i σ H' => ∃ (t : BF.Sta Str) (v4 v5 v6 v7 : Option V), t = (bds.take i).foldl BF.relax ⟨S, F, none⟩ ∧ σ = [some (.ref a), some (.ref d), some (.ref e), some (lowV t.low), v4, v5, v6, v7] ∧
      But2 d e H H' ∧ SumsAt H' d t.S (n + i) ∧ FstAt K H' e t.F (n + i)) ⟨_, _, _, _, _, rfl, rfl, But2.refl d e H, hS, hF⟩ (fun i σ H' _ u => ?_) ?_ ?_⟩
    · obtain ⟨t, v4, v5, v6, v7, rfl, rfl, kb, hs, hf⟩ := u
      obtain ⟨kd, ed⟩ := hS.ex
      obtain ⟨ke, ee⟩ := hF.ex
      exact kb.tup ed ee ha.1
    · rintro i v σ H1 H2 hi ⟨t, v4, v5, v6, v7, et, rfl, kb, ⟨kd, ed, ld, hd⟩, ⟨ke, ee, le, hf⟩⟩ ⟨rfl, hv⟩
      have hi1 : i < ps.length := by simpa using hi
      have hi2 : i < bds.length := by rw [← ha.2.1]; exact hi1
      rw [List.getElem?_map, List.getElem?_eq_getElem hi1] at hv
      cases hv
      obtain ⟨kd0, ed0⟩ := hS.ex
      obtain ⟨ke0, ee0⟩ := hF.ex
      obtain ⟨hb, hok⟩ := (ha.but kb ed0 ee0).2.2 i _ _ (List.getElem?_eq_getElem hi1) (List.getElem?_eq_getElem hi2)
      have et1 : (bds.take (i + 1)).foldl BF.relax ⟨S, F, none⟩ = BF.relax t bds[i] := by
        rw [List.take_succ, List.getElem?_eq_getElem hi2, List.foldl_append, ← et]
        rfl
      generalize bds[i] = b at hb hok et1
      generalize ps[i] = p at hb
      obtain ⟨x, y, m⟩ := b
      have nx : x ≠ y := hok.2.2.2.2
      refine rd_seq ?_
      refine ⟨_, rfl, p, _, rfl, hb, rfl, _, _, rfl, _, _, rfl, _, _, rfl, rfl, ?_⟩
      dsimp only
      refine rd_if ?_
      refine ⟨_, rfl, _, rfl, d, _, rfl, DGet.k (k := Sum.inr y) ed, _, rfl, ?_⟩
      have hn9 : n + i < 100000 := by omega
      have hy := hd y
      have hx := hd x
      have sz : ∀ l : List (Key × V), l.length ≤ n + i → l.length < sizeLine := fun l h => Nat.lt_of_lt_of_le (by omega : l.length < 100000) (by decide)
      cases ey : t.S y with
      | none =>
        rw [ey] at hy
        rw [hy]
        refine Eq.mpr (if_neg (by decide)) ?_
        refine Eq.mpr (if_neg (by decide)) ?_
        refine ⟨t, _, _, _, _, ?_, rfl, kb, ⟨kd, ed, by omega, hd⟩, ⟨ke, ee, by omega, hf⟩⟩
        rw [et1]
        unfold BF.relax
        rw [ey]
      | some v =>
        rw [ey] at hy
        rw [hy]
        refine Eq.mpr (if_pos rfl) ?_
        refine ⟨_, rfl, _, rfl, d, _, rfl, DGet.k (k := Sum.inr x) ed, _, rfl, ?_⟩
        by_cases hl : BF.less t.S (x, y, m) v = true
        · have er : BF.relax t (x, y, m) = ⟨BF.put t.S x (v + m), BF.put t.F x (x, y, m), some x⟩ := by
            unfold BF.relax
            rw [ey]
            exact if_pos hl
          rw [er] at et1
          cases ex : t.S x
          case' none =>
            rw [ex] at hx
            rw [hx]
            refine Eq.mpr (if_pos rfl) ?_
            refine Eq.mpr (if_pos rfl) ?_
          case' some u =>
            rw [ex] at hx
            rw [hx]
            have hvu : v + m < u := by
              unfold BF.less at hl
              rw [ex] at hl
              exact of_decide_eq_true hl
            refine Eq.mpr (if_neg (fun q => by cases q)) ?_
            refine ⟨_, rfl, _, rfl, d, .int v, rfl, (by have q := DGet.k (k := Sum.inr y) ed; rw [hy] at q; exact q), _, rfl, _, _, rfl, rfl, _, rfl, _, rfl, d, .int u, rfl, (by have q := DGet.k (k := Sum.inr x) ed; rw [hx] at q; exact q), _, _, rfl, rfl, _, rfl, ?_⟩
            refine Eq.mpr (if_pos (decide_eq_true hvu)) ?_
          all_goals
            refine rd_seq ?_
            refine ⟨_, rfl, _, rfl, d, .int v, rfl, (by have q := DGet.k (k := Sum.inr y) ed; rw [hy] at q; exact q), _, rfl, _, _, rfl, rfl, _, rfl, _, rfl, d, _, rfl, DPut.k (k := Sum.inr x) ed (sz _ ld), ?_⟩
            have ld1 := length_putK kd (Sum.inr x) (.int (v + m))
            have ed1 : upd H2 d (.dK (putK kd (Sum.inr x) (.int (v + m)))) d = some (.dK (putK kd (Sum.inr x) (.int (v + m)))) := upd_same
            have ee1 : upd H2 d (.dK (putK kd (Sum.inr x) (.int (v + m)))) e = some (.dK ke) := (upd_ne (Ne.symm hne)).trans ee
            have k1 : But2 d e H2 (upd H2 d (.dK (putK kd (Sum.inr x) (.int (v + m))))) := But2.one
            generalize upd H2 d (.dK (putK kd (Sum.inr x) (.int (v + m)))) = H3 at ed1 ee1 k1 ⊢
            refine rd_seq ?_
            refine ⟨_, rfl, _, rfl, _, rfl, e, _, rfl, DPut.k (k := Sum.inr x) ee1 (sz _ le), ?_⟩
            have le1 := length_putK ke (Sum.inr x) (.ref p)
            have ee2 : upd H3 e (.dK (putK ke (Sum.inr x) (.ref p))) e = some (.dK (putK ke (Sum.inr x) (.ref p))) := upd_same
            have ed2 : upd H3 e (.dK (putK ke (Sum.inr x) (.ref p))) d = some (.dK (putK kd (Sum.inr x) (.int (v + m)))) := (upd_ne hne).trans ed1
            have k2 : But2 d e H3 (upd H3 e (.dK (putK ke (Sum.inr x) (.ref p)))) := But2.two
            generalize upd H3 e (.dK (putK ke (Sum.inr x) (.ref p))) = H4 at ed2 ee2 k2 ⊢
            dsimp only
            refine rd_set ?_
            have k12 := k1.trans k2
            have tt : ∀ {a xs}, SqT K H2 a xs → SqT K H4 a xs := fun q => k12.tup ed ee q
            refine ⟨_, rfl, ⟨BF.put t.S x (v + m), BF.put t.F x (x, y, m), some x⟩, _, _, _, _, et1.symm, rfl, kb.trans k12, ⟨_, ed2, by omega, fun z => ?_⟩, ⟨_, ee2, by omega, fun z => ?_⟩⟩
            · rw [valV_put]
              by_cases hz : z = x
              · rw [if_pos (by rw [hz])]
                show _ = ((BF.put t.S x (v + m)) z).map V.int
                rw [hz, BF.put_same]
                rfl
              · rw [if_neg (fun q => hz (Sum.inr.inj q))]
                show _ = ((BF.put t.S x (v + m)) z).map V.int
                rw [BF.put_ne hz]
                exact hd z
            · rw [valV_put]
              by_cases hz : z = x
              · rw [if_pos (by rw [hz])]
                show fstV K H4 (some (.ref p)) ((BF.put t.F x (x, y, m)) z)
                rw [hz, BF.put_same]
                exact ⟨p, rfl, tt hb⟩
              · rw [if_neg (fun q => hz (Sum.inr.inj q))]
                show fstV K H4 _ ((BF.put t.F x (x, y, m)) z)
                rw [BF.put_ne hz]
                exact (hf z).same tt
        · have er : BF.relax t (x, y, m) = t := by
            unfold BF.relax
            rw [ey]
            exact if_neg hl
          rw [er] at et1
          cases ex : t.S x with
          | none =>
            exfalso
            unfold BF.less at hl
            rw [ex] at hl
            exact hl rfl
          | some u =>
            rw [ex] at hx
            rw [hx]
            have hvu : ¬ v + m < u := fun q => hl (by
              unfold BF.less
              rw [ex]
              exact decide_eq_true q)
            refine Eq.mpr (if_neg (fun q => by cases q)) ?_
            refine ⟨_, rfl, _, rfl, d, .int v, rfl, (by have q := DGet.k (k := Sum.inr y) ed; rw [hy] at q; exact q), _, rfl, _, _, rfl, rfl, _, rfl, _, rfl, d, .int u, rfl, (by have q := DGet.k (k := Sum.inr x) ed; rw [hx] at q; exact q), _, _, rfl, rfl, _, rfl, ?_⟩
            refine Eq.mpr (if_neg (by rw [decide_eq_false hvu]; decide)) ?_
            exact ⟨t, _, _, _, _, et1.symm, rfl, kb, ⟨kd, ed, by omega, hd⟩, ⟨ke, ee, by omega, hf⟩⟩
    · rintro σ H1 ⟨t, v4, v5, v6, v7, et, rfl, kb, hs, hf⟩
      rw [List.length_map, ha.2.1] at et hs hf
      rw [List.take_length] at et
      have e2 : t = BF.round bds S F := et
      subst e2
      exact ⟨_, rfl, k H1 kb hs hf⟩
end
end L2.K04

set_option Elab.async false
set_option linter.all false
set_option maxRecDepth 100000
set_option maxHeartbeats 2000000
namespace L2.K04
open PySem PySem.Spec PyProof.Rows L2.Vx
open PySem.W (Frag)
/-! ### the way that the first bounds tell; the ring behind a term -/
section
variable {P : Program} {w : World} {K : Frag} {mg : Str → Option Value} {bs : Heap}
abbrev RowsAt (K : Frag) (H : Hp) (qs : List Addr) (cs : List Bd) : Prop := Paired (fun p b => BdAt K H p b) qs cs
theorem RowsAt.same {H H' : Hp} {qs : List Addr} {cs : List Bd} (h : RowsAt K H qs cs) (s : Same H H') : RowsAt K H' qs cs := L2.Paired.mapP h fun _ _ q => sqt_same s q
theorem fst_some {H : Hp} {e : Addr} {F : BF.Fst Str} {n : Nat} {x : Str} {b : Bd} (h : FstAt K H e F n) (hx : F x = some b) : ∃ p, DGet H e (.str x) (some (.ref p)) ∧ BdAt K H p b := by
  obtain ⟨kvs, he, _, hk⟩ := h
  have q := hk x
  rw [hx] at q
  obtain ⟨p, e1, hb⟩ := q
  have g := DGet.k (k := Sum.inr x) he
  rw [e1] at g
  exact ⟨p, g, hb⟩
def spAlong (K : Frag) : Sp := fun vs H Q _ => ∃ (e : Addr) (x y : Str) (F : BF.Fst Str) (n m : Nat) (u : Int), vs = [.ref e, .str x, .str y] ∧ FstAt K H e F n ∧ BF.PWay F x y u m ∧ m ≤ 100000 ∧
  ∀ H' q qs cs, Same H H' → H q = none → H' q = some (.tup (qs.map V.ref)) → RowsAt K H' qs cs → BF.PL F x y cs → qs.length ≤ 100000 → Q (.ref q) H'
theorem scAlong : FnScope ["firsts", "one", "other", "way"] ["firsts", "one", "other"] (defScope sAlong) := ⟨rfl, rfl, rfl, by decide +kernel, rfl, by decide +kernel, by decide +kernel⟩
theorem ok_along {f : Addr} {fd : FuncData} (FP : FD K "way_along" sAlong f fd) (gT : mg "tuple" = none) : FnOk P w K mg bs CX0 1 f fd ["firsts", "one", "other"] (spAlong K) := by
  have sc := scAlong
  refine FP.ok scAlong (fun vs H Q E h => ?_) (fun cdv A outer s H vs Q E hr h => ?_)
  · obtain ⟨e, x, y, F, n, m, u, rfl, _⟩ := h
    rfl
  · obtain ⟨e, x, y, F, n, m, u, rfl, hF, hw, hm, k⟩ := h
    have hu := hu_of hr
    refine ⟨_, pss_cons (ps_set (i := 3) sc.nd rfl (Or.inl rfl) (pe_lst pa_nil))
      (pss_cons (ps_while PassesOwn.never (pt_cmpR op_ne (pv 1) (pv 2) (nomark _))
        (pss_cons (ps_expr (pe_bm PySem.F.plainAttrs_list PySem.F.slot_list_append PySem.F.type_list_append mt_append (pv 3) (pa_cons (pe_dget hu (pv 0) (pv 1) (fun _ _ => rfl)) pa_nil)))
        (pss_one (ps_set (i := 1) sc.nd rfl (Or.inl rfl) (pe_ix ix_tup (pe_dget hu (pv 0) (pv 1) (fun _ _ => rfl)) pe_int (fun _ _ => rfl))))))
      (pss_one (ps_ret (pe_callTy call_tuple_of (by rfl) gT boot_tuple (pa_cons (pv 3) pa_nil))))), ?_⟩
    refine rd_seq (rd_set ?_)
    refine ⟨Nat.zero_le _, fun L hL => ?_⟩
    have s1 : Same H (upd H L (.lst [])) := same_new hL
    have f1 : upd H L (.lst []) L = some (.lst []) := upd_same
    dsimp only
    generalize upd H L (.lst []) = H1 at s1 f1 ⊢
    refine rd_seq ?_
    refine ⟨fun r σ H' => ∃ (z : Str) (v : Int) (qs : List Addr) (cs : List Bd), σ = [some (.ref e), some (.str z), some (.str y), some (.ref L)] ∧ Same H H' ∧ H' L = some (.lst (qs.map V.ref)) ∧ RowsAt K H' qs cs ∧ BF.PL F x z cs ∧ BF.PWay F z y v r ∧ qs.length + r ≤ 100000,
      ⟨m, x, u, [], [], rfl, s1, f1, .nil, .nil x, hw, by simpa using hm⟩, ?_⟩
    rintro r σ H2 ⟨z, v, qs, cs, rfl, s2, f2, hq, pl, pw, hl⟩
    refine ⟨_, rfl, _, rfl, rfl, _, rfl, ?_⟩
    by_cases hz : z = y
    · subst hz
      refine Eq.mpr (if_neg (nt rfl)) ?_
      refine ⟨_, rfl, L, _, rfl, .inl ⟨SqL.of f2, fun q hq0 => ?_⟩⟩
      exact k _ q qs cs (s2.trans (same_new hq0)) (s2.free hq0) upd_same (hq.same (same_new hq0)) pl (by omega)
    · refine Eq.mpr (if_pos (nf (fun q => hz (V.str.inj q)))) ?_
      cases pw with
      | nil => exact absurd rfl hz
      | @cons _ _ b v r hb pw =>
        obtain ⟨p, g, hp⟩ := fst_some (hF.same s2) hb
        refine ⟨fun σ H' => ∃ (cs2 : List Bd), σ = [some (.ref e), some (.str b.2.1), some (.str y), some (.ref L)] ∧ Same H H' ∧ H' L = some (.lst ((qs ++ [p]).map V.ref)) ∧ RowsAt K H' (qs ++ [p]) cs2 ∧ BF.PL F x b.2.1 cs2, ?_, ?_⟩
        · rintro σ H3 ⟨cs2, rfl, s3, f3, h3, pl3⟩
          exact ⟨r, Nat.lt_succ_self r, b.2.1, v, qs ++ [p], cs2, rfl, s3, f3, h3, pl3, pw, by rw [List.length_append, List.length_singleton]; omega⟩
        · refine rd_seq ?_
          refine ⟨_, rfl, .inl ⟨rfl, _, SqL.of f2⟩, _, rfl, _, rfl, e, _, rfl, g, L, _, _, rfl, rfl, f2, ?_, ?_⟩
          · rw [List.length_map]
            exact Nat.lt_of_lt_of_le (by omega : qs.length < 100001) (by decide)
          · have s3 : Same H (upd H2 L (.lst (qs.map V.ref ++ [.ref p]))) := s2.mut hL
            have f3 : upd H2 L (.lst (qs.map V.ref ++ [.ref p])) L = some (.lst (qs.map V.ref ++ [.ref p])) := upd_same
            have nt_ : ∀ {a xs}, SqT K H2 a xs → SqT K (upd H2 L (.lst (qs.map V.ref ++ [.ref p]))) a xs := fun {a xs} q => by
              have n : ∀ o : HO, H2 a = some o → (∀ l, o ≠ .lst l) → upd H2 L (.lst (qs.map V.ref ++ [.ref p])) a = some o := fun o q z => (upd_ne (fun c => by rw [c, f2] at q; exact z _ (Option.some.inj q).symm)).trans q
              rcases q with (q | ⟨o, q⟩) | q
              · exact .inl (.inl (n _ q (fun u c => by cases c)))
              · exact .inl (.inr ⟨o, n _ q (fun u c => by cases c)⟩)
              · exact .inr q
            have hq3 : RowsAt K (upd H2 L (.lst (qs.map V.ref ++ [.ref p]))) (qs ++ [p]) (cs ++ [b]) := Paired.snoc (L2.Paired.mapP hq fun _ _ q => nt_ q) (nt_ hp)
            dsimp only
            generalize upd H2 L (.lst (qs.map V.ref ++ [.ref p])) = H3 at s3 f3 hq3 ⊢
            obtain ⟨p2, g2, hp2⟩ := fst_some (hF.same s3) hb
            refine rd_set ?_
            refine ⟨_, rfl, _, rfl, e, _, rfl, g2, p2, _, _, _, rfl, rfl, hp2, rfl, ?_⟩
            exact ⟨cs ++ [b], rfl, s3, by rw [List.map_append]; exact f3, hq3, pl.snoc hb⟩
def spBehind (K : Frag) : Sp := fun vs H Q _ => ∃ (e : Addr) (x y : Str) (r c : Nat) (F : BF.Fst Str) (n : Nat) (u v : Int), vs = [.ref e, .str x, .int r] ∧ FstAt K H e F n ∧ BF.PWay F x y u r ∧ BF.PWay F y y v (c + 1) ∧ r ≤ 100000 ∧ c ≤ 90000 ∧
  ∀ H' q qs cs, Same H H' → H' q = some (.tup (qs.map V.ref)) → RowsAt K H' qs cs → BF.PL F y y cs → cs ≠ [] → cs.length ≤ 150000 → Q (.ref q) H'
theorem scBehind : FnScope ["firsts", "term", "steps", "_", "first"] ["firsts", "term", "steps"] (defScope sBehind) := ⟨rfl, rfl, rfl, by decide +kernel, rfl, by decide +kernel, by decide +kernel⟩
theorem ok_behind {f fA : Addr} {fd fdA : FuncData} (FP : FD K "ring_behind" sBehind f fd) (gR : mg "range" = none) (gT : mg "tuple" = none) (FA : FD K "way_along" sAlong fA fdA) (gA : mg "way_along" = some (.ref fA)) (bA : Binds K fdA ["firsts", "one", "other"] []) :
    FnOk P w K mg bs CX0 2 f fd ["firsts", "term", "steps"] (spBehind K) := by
  have sc := scBehind
  have GA : FnOk P w K mg bs CX0 1 fA fdA ["firsts", "one", "other"] (spAlong K) := ok_along FA gT
  refine FP.ok scBehind (fun vs H Q E h => ?_) (fun cdv A outer s H vs Q E hr h => ?_)
  · obtain ⟨e, x, y, r, c, F, n, u, v, rfl, _⟩ := h
    rfl
  · obtain ⟨e, x, y, r, c, F, n, u, v, rfl, hF, hw, hring, hr9, hc9, k⟩ := h
    have hu := hu_of hr
    refine ⟨_, pss_cons (ps_for PassesOwn.never rfl (pi_range1 (by rfl) gR (pa_cons (pv 2) pa_nil)) (pg_name (i := 3) sc.nd rfl (Or.inl rfl))
        (pss_one (ps_set (i := 1) sc.nd rfl (Or.inl rfl) (pe_ix ix_tup (pe_dget hu (pv 0) (pv 1) (fun _ _ => rfl)) pe_int (fun _ _ => rfl)))))
      (pss_cons (ps_set (i := 4) sc.nd rfl (Or.inl rfl) (pe_dget hu (pv 0) (pv 1) (fun _ _ => rfl)))
      (pss_one (ps_ret (pe_op op_catT (pe_tup (pa_cons (pv 4) pa_nil)) (pe_call GA hr (by rfl) gA FA.kp bA .nil pass0 (pa_cons (pv 0) (pa_cons (pe_ix ix_tup (pv 4) pe_int (fun _ _ => rfl)) (pa_cons (pv 1) pa_nil)))))))), ?_⟩
    refine rd_seq ?_
    refine ⟨_, rfl, (r : Int), rfl, by omega, by omega, for_range (lo := 0) (n := ((r : Nat) : Int).toNat) (fun i σ H' => ∃ (z : Str) (v3 : Option V) (u : Int), σ = [some (.ref e), some (.str z), some (.int r), v3, none] ∧ H' = H ∧ BF.PWay F z y u (r - i)) ⟨x, none, u, rfl, rfl, hw⟩ ?_ ?_⟩
    · rintro i σ H2 hi ⟨z, v3, u, rfl, rfl, pw⟩
      have hi' : i < r := by omega
      obtain ⟨m, em⟩ : ∃ m, r - i = m + 1 := ⟨r - i - 1, by omega⟩
      rw [em] at pw
      cases pw with
      | @cons _ _ b u _ hb pw =>
        obtain ⟨p, g, hp⟩ := fst_some hF hb
        refine rd_set ?_
        refine ⟨_, rfl, _, rfl, e, _, rfl, g, p, _, _, _, rfl, rfl, hp, rfl, ?_⟩
        exact ⟨b.2.1, _, u, rfl, rfl, by rw [show r - (i + 1) = m by omega]; exact pw⟩
    · rintro σ H2 ⟨z, v3, u, rfl, rfl, pw⟩
      have e0 : r - ((r : Nat) : Int).toNat = 0 := by omega
      rw [e0] at pw
      cases pw with
      | nil =>
      cases hring with
      | @cons _ _ b v c hb pw2 =>
        obtain ⟨p, g, hp⟩ := fst_some hF hb
        dsimp only
        refine rd_seq (rd_set ?_)
        refine ⟨_, rfl, _, rfl, e, _, rfl, g, ?_⟩
        dsimp only
        refine rd_ret ?_
        refine ⟨_, rfl, (by exact (by decide : 1 ≤ sizeLine)), fun A1 hA1 => ?_⟩
        have s1 : Same H2 (upd H2 A1 (.tup [.ref p])) := same_new hA1
        have f1 : upd H2 A1 (.tup [.ref p]) A1 = some (.tup [.ref p]) := upd_same
        dsimp only
        generalize upd H2 A1 (.tup [.ref p]) = H3 at s1 f1 ⊢
        refine ⟨_, rfl, _, rfl, p, _, _, _, rfl, rfl, sqt_same s1 hp, rfl, _, rfl, e, b.2.1, _, F, n, c, v, rfl, hF.same s1, pw2, by omega, fun H4 q qs cs s4 hq0 hq hrow pl hl => ?_⟩
        have f4 := s4 _ _ f1
        have hp4 := sqt_same (s1.trans s4) hp
        refine ⟨A1, q, [.ref p], qs.map V.ref, rfl, rfl, SqT.of f4, SqT.of hq, (fun z => by cases z), Nat.le_trans (by rw [List.length_map]; show 1 + qs.length ≤ 100001; omega : _ ≤ 100001) (by decide), fun z => ?_, fun _ p9 hp9 => ?_⟩
        · have e1 : qs = [] := List.map_eq_nil_iff.mp z
          subst e1
          cases hrow with
          | nil => exact k _ A1 [p] [b] (s1.trans s4) f4 (.cons hp4 .nil) (.cons hb pl) (fun z => by cases z) (by show 1 ≤ 150000; decide)
        · exact k _ p9 (p :: qs) (b :: cs) ((s1.trans s4).trans (same_new hp9)) upd_same (.cons (sqt_same (same_new hp9) hp4) (hrow.same (same_new hp9))) (.cons hb pl) (fun z => by cases z) (by rw [List.length_cons, ← Paired.length hrow]; omega)

end
end L2.K04

set_option Elab.async false
set_option linter.all false
set_option maxRecDepth 100000
set_option maxHeartbeats 2000000
namespace L2.K04
open PySem PySem.Spec PyProof.Rows L2.Vx
open PySem.W (Frag)
/-! ### the least sums -/
section
variable {P : Program} {w : World} {K : Frag} {mg : Str → Option Value} {bs : Heap}
abbrev aft (bds : List Bd) (S : BF.Sums Str) (r : Nat) : BF.Sta Str := BF.after bds S (fun _ => none) r
abbrev tms (bds : List Bd) : List Str := firsts (allOf bds)
theorem tms_pos (bds : List Bd) : 0 < (tms bds).length := List.length_pos_of_mem ((mem_firsts (allOf bds) "0").mpr (List.mem_cons_self ..))
def spSums (K : Frag) : Sp := fun vs H Q _ => ∃ (a q : Addr) (ps : List Addr) (bds : List Bd) (S : BF.Sums Str), vs = [.ref a, .ref q] ∧ BdsAt K H a ps bds ∧ bds.length ≤ 30 ∧ (tms bds).length < 64 ∧ SumsAt H q S 100 ∧
  ∀ H' t d e r, Same H H' → r + 1 ≤ (tms bds).length → ((aft bds S (r + 1)).low = none ∨ r + 1 = (tms bds).length) → SumsAt H' d (aft bds S (r + 1)).S 10000 → FstAt K H' e (aft bds S (r + 1)).F 10000 →
    H' t = some (.tup [.ref d, .ref e, lowV (aft bds S (r + 1)).low]) → Q (.ref t) H'
theorem scSums : FnScope ["bounds", "ends", "sums", "firsts", "lowered", "_"] ["bounds", "ends"] (defScope sSums) := ⟨rfl, rfl, rfl, by decide +kernel, rfl, by decide +kernel, by decide +kernel⟩
theorem ok_sums {f fT fL : Addr} {fd fdT fdL : FuncData} (FP : FD K "least_sums" sSums f fd) (gD : mg "dict" = none) (FX : FxTs mg)
    (FT : FD K "terms_of" sTerms fT fdT) (gT : mg "terms_of" = some (.ref fT)) (bT : Binds K fdT ["bounds"] [])
    (FL : FD K "lower_once" sLower fL fdL) (gL : mg "lower_once" = some (.ref fL)) (bL : Binds K fdL ["bounds", "sums", "firsts"] []) : FnOk P w K mg bs CX0 2 f fd ["bounds", "ends"] (spSums K) := by
  have sc := scSums
  have GT : FnOk P w K mg bs CX0 1 fT fdT ["bounds"] (spTerms K) := ok_terms FT FX
  have GL : FnOk P w K mg bs CX0 1 fL fdL ["bounds", "sums", "firsts"] (spLower K) := ok_lower FL
  refine FP.ok scSums (fun vs H Q E h => ?_) (fun cdv A outer s H vs Q E hr h => ?_)
  · obtain ⟨a, q, ps, bds, S, rfl, _⟩ := h
    rfl
  · obtain ⟨a, q, ps, bds, S, rfl, ha, hl, h64, ⟨kq, eq_, lq, hq⟩, k⟩ := h
    refine ⟨_, pss_cons (ps_set (i := 2) sc.nd rfl (Or.inl rfl) (pe_callTy call_dictD (by rfl) gD boot_dict (pa_cons (pv 1) pa_nil)))
      (pss_cons (ps_set (i := 3) sc.nd rfl (Or.inl rfl) pe_dnewK)
      (pss_cons (ps_set (i := 4) sc.nd rfl (Or.inl rfl) pe_non)
      (pss_cons (ps_for PassesOwn.never rfl (pi_list (pe_call GT hr (by rfl) gT FT.kp bT .nil pass0 (pa_cons (pv 0) pa_nil))) (pg_name (i := 5) sc.nd rfl (Or.inl rfl))
        (pss_cons (ps_set (i := 4) sc.nd rfl (Or.inl rfl) (pe_call GL hr (by rfl) gL FL.kp bL .nil pass0 (pa_cons (pv 0) (pa_cons (pv 2) (pa_cons (pv 3) pa_nil)))))
        (pss_one (ps_if (pt_cmpR op_isN (pv 4) pe_non (nomark _)) (pss_one ps_break) pss_nil))))
      (pss_one (ps_ret (pe_tup (pa_cons (pv 2) (pa_cons (pv 3) (pa_cons (pv 4) pa_nil))))))))), ?_⟩
    refine rd_seq (rd_set ?_)
    refine ⟨_, rfl, q, kq, rfl, .inl eq_, fun d hd => ?_⟩
    have s1 : Same H (upd H d (.dK kq)) := same_new hd
    have f1 : upd H d (.dK kq) d = some (.dK kq) := upd_same
    dsimp only
    generalize upd H d (.dK kq) = H1 at s1 f1 ⊢
    refine rd_seq (rd_set fun e he => ?_)
    have s2 : Same H1 (upd H1 e (.dK [])) := same_new he
    have f2 : upd H1 e (.dK []) e = some (.dK []) := upd_same
    have f12 := s2 _ _ f1
    have he0 := s1.free he
    have nde : d ≠ e := fun z => by rw [z, he] at f1; cases f1
    dsimp only
    generalize upd H1 e (.dK []) = H2 at s2 f2 f12 ⊢
    refine rd_seq (rd_set ?_)
    dsimp only
    refine rd_seq ?_
    have s12 := s1.trans s2
    refine ⟨_, rfl, a, ps, bds, rfl, ha.same s12, hl, h64, fun H3 L ys s3 hL0 hpm hso hL => ?_⟩
    have f13 := s3 _ _ f12
    have f23 := s3 _ _ f2
    have hlen : ys.length = (tms bds).length := hpm.length_eq
    have nLd : L ≠ d := fun z => by rw [z, f12] at hL0; cases hL0
    have nLe : L ≠ e := fun z => by rw [z, f2] at hL0; cases hL0
    have s123 := s12.trans s3
    have ha3 := ha.same s123
    have e0 : lowV (aft bds S 0).low = V.non := rfl
    have fin : ∀ (r : Nat) (v5 : Option V) (H' : Hp), r + 1 ≤ (tms bds).length → ((aft bds S (r + 1)).low = none ∨ r + 1 = (tms bds).length) → But2 d e H3 H' → SumsAt H' d (aft bds S (r + 1)).S (100 + (r + 1) * bds.length) → FstAt K H' e (aft bds S (r + 1)).F (100 + (r + 1) * bds.length) →
        tRet (tTup (tCons (tVar 2) (tCons (tVar 3) (tCons (tVar 4) tNil)))) { nx := fun x H' => Q V.non H', rt := Q } [some (.ref a), some (.ref q), some (.ref d), some (.ref e), some (lowV (aft bds S (r + 1)).low), v5] H' := by
      intro r v5 H' hr1 hor kb hs hf
      have hm : (r + 1) * bds.length ≤ 64 * 30 := Nat.mul_le_mul (by omega) hl
      refine ⟨_, rfl, _, rfl, _, rfl, (by exact (by decide : 3 ≤ sizeLine)), fun t ht => ?_⟩
      have s9 : Same H' (upd H' t (.tup [.ref d, .ref e, lowV (aft bds S (r + 1)).low])) := same_new ht
      have sHH : Same H H' := kb.same s123 hd he0
      obtain ⟨k1, e1, l1, r1⟩ := hs.same s9
      obtain ⟨k2, e2, l2, r2⟩ := hf.same s9
      exact k _ t d e r (sHH.trans s9) hr1 hor ⟨k1, e1, by omega, r1⟩ ⟨k2, e2, by omega, r2⟩ upd_same
    refine ⟨L, rfl, ⟨_, SqL.of hL⟩, for_it (walk_list (K := K) (a := L) (xs := ys.map V.str)) (fun i σ H' => ∃ v5 : Option V, σ = [some (.ref a), some (.ref q), some (.ref d), some (.ref e), some (lowV (aft bds S i).low), v5] ∧
      But2 d e H3 H' ∧ SumsAt H' d (aft bds S i).S (100 + i * bds.length) ∧ FstAt K H' e (aft bds S i).F (100 + i * bds.length) ∧ (i = 0 ∨ (aft bds S i).low ≠ none)) ⟨none, rfl, But2.refl d e H3, ⟨kq, f13, by omega, hq⟩, ⟨[], f23, by simp, fun x => rfl⟩, .inl rfl⟩ (fun i σ H' _ u => ?_) ?_ ?_⟩
    · obtain ⟨v5, rfl, kb, _⟩ := u
      exact SqL.of (kb _ _ nLd nLe hL)
    · rintro i v σ H4 H5 hi ⟨v5, rfl, kb, hs, hf, hor⟩ ⟨rfl, hv⟩
      have hi' : i < (tms bds).length := by rw [← hlen]; simpa using hi
      have hm : i * bds.length ≤ 64 * 30 := Nat.mul_le_mul (by omega) hl
      have em : (i + 1) * bds.length = i * bds.length + bds.length := Nat.succ_mul i bds.length
      refine rd_seq (rd_set ?_)
      refine ⟨_, rfl, _, rfl, _, rfl, a, d, e, ps, bds, _, _, _, rfl, nde, ha3.but kb f13 f23, hs, hf, by omega, fun H6 k6 hs6 hf6 => ?_⟩
      have kb6 := kb.trans k6
      have er : BF.round bds (aft bds S i).S (aft bds S i).F = aft bds S (i + 1) := rfl
      rw [er] at hs6 hf6 ⊢
      rw [show 100 + i * bds.length + bds.length = 100 + (i + 1) * bds.length by omega] at hs6 hf6
      dsimp only
      refine rd_if ?_
      refine ⟨_, rfl, rfl, _, rfl, ?_⟩
      cases hlow : (aft bds S (i + 1)).low with
      | none =>
        refine Eq.mpr (if_pos rfl) ?_
        have q := fin i (some v) H6 (by omega) (.inl hlow) kb6 hs6 hf6
        rw [hlow] at q
        exact q
      | some x =>
        refine Eq.mpr (if_neg (by rw [decide_eq_false (fun z => by cases z)]; exact Bool.false_ne_true)) ?_
        exact ⟨some v, rfl, kb6, hs6, hf6, .inr (fun z => by cases z)⟩
    · rintro σ H4 ⟨v5, rfl, kb, hs, hf, hor⟩
      rw [List.length_map, hlen] at hs hf hor ⊢
      have hp := tms_pos bds
      obtain ⟨r, er⟩ : ∃ r, (tms bds).length = r + 1 := ⟨(tms bds).length - 1, by omega⟩
      rw [er] at hs hf ⊢
      exact fin r v5 H4 (by omega) (.inr er.symm) kb hs hf
end
end L2.K04

set_option Elab.async false
set_option linter.all false
set_option maxRecDepth 100000
set_option maxHeartbeats 2000000
namespace L2.K04
open PySem PySem.Spec PyProof.Rows L2.Vx
open PySem.W (Frag)
/-! ### values that keep all bounds, or a ring below 0 -/
section
variable {P : Program} {w : World} {K : Frag} {mg : Str → Option Value} {bs : Heap}
theorem in_tms (bds : List Bd) : ∀ b ∈ bds, b.1 ∈ tms bds ∧ b.2.1 ∈ tms bds := fun b hb => by
  have h : ∀ x, x ∈ twoOf b → x ∈ tms bds := fun x hx => (mem_firsts _ _).mpr (List.mem_cons_of_mem _ (List.mem_flatMap.mpr ⟨b, hb, hx⟩))
  exact ⟨h _ (List.mem_cons_self ..), h _ (List.mem_cons_of_mem _ (List.mem_cons_self ..))⟩
theorem zero_tms (bds : List Bd) : ("0" : Str) ∈ tms bds := (mem_firsts _ _).mpr (List.mem_cons_self ..)
/-- 0 for all these terms -/
def zeros (T : List Str) : BF.Sums Str := fun x => if x ∈ T then some 0 else none
structure Fx03 (mg : Str → Option Value) : Prop where
  ts : FxTs mg
  dict : mg "dict" = none
  tup : mg "tuple" = none
  range : mg "range" = none
  len : mg "len" = none
/-- what is told of bounds -/
def GoodVals (bds : List Bd) (val : Str → Int) : Prop := val "0" = 0 ∧ ∀ b ∈ bds, val b.1 - val b.2.1 ≤ b.2.2
def spVals (K : Frag) : Sp := fun vs H Q _ => ∃ (a : Addr) (ps : List Addr) (bds : List Bd), vs = [.ref a] ∧ BdsAt K H a ps bds ∧ bds.length ≤ 30 ∧ (tms bds).length < 64 ∧
  (∀ H' t q qs ys val, Same H H' → H' t = some (.tup [.ref q, .non]) → H' q = some (.tup (qs.map V.ref)) → ys.Perm (tms bds) → sortedS ys = true → Paired (fun p (x : Str) => H' p = some (.tup [.str x, .int (val x)])) qs ys → GoodVals bds val → Q (.ref t) H') ∧
  (∀ H' t q qs cs y, Same H H' → H' t = some (.tup [.non, .ref q]) → H' q = some (.tup (qs.map V.ref)) → RowsAt K H' qs cs → BF.Chain y y cs → cs ≠ [] → (∀ c ∈ cs, c ∈ bds) → BF.sumB cs < 0 → cs.length ≤ 150000 → Q (.ref t) H')
theorem scVals : FnScope ["bounds", "terms", "sums", "firsts", "lowered", "term"] ["bounds"] (defScope sVals) := ⟨rfl, rfl, rfl, by decide +kernel, rfl, by decide +kernel, by decide +kernel⟩
theorem ok_vals {f fT fL fS fB fA : Addr} {fd fdT fdL fdS fdB fdA : FuncData} (FP : FD K "values_or_ring" sVals f fd) (FX : Fx03 mg) (e0 : ∃ t, mg "ZERO" = some (.str "0" t))
    (FT : FD K "terms_of" sTerms fT fdT) (gT : mg "terms_of" = some (.ref fT)) (bT : Binds K fdT ["bounds"] [])
    (FL : FD K "lower_once" sLower fL fdL) (gL : mg "lower_once" = some (.ref fL)) (bL : Binds K fdL ["bounds", "sums", "firsts"] [])
    (FS : FD K "least_sums" sSums fS fdS) (gS : mg "least_sums" = some (.ref fS)) (bS : Binds K fdS ["bounds", "ends"] [])
    (FB : FD K "ring_behind" sBehind fB fdB) (gB : mg "ring_behind" = some (.ref fB)) (bB : Binds K fdB ["firsts", "term", "steps"] [])
    (FA : FD K "way_along" sAlong fA fdA) (gA : mg "way_along" = some (.ref fA)) (bA : Binds K fdA ["firsts", "one", "other"] []) : FnOk P w K mg bs CX0 3 f fd ["bounds"] (spVals K) := by
  have sc := scVals
  obtain ⟨t0, e0⟩ := e0
  have GT : FnOk P w K mg bs CX0 1 fT fdT ["bounds"] (spTerms K) := ok_terms FT FX.ts
  have GS : FnOk P w K mg bs CX0 2 fS fdS ["bounds", "ends"] (spSums K) := ok_sums FS FX.dict FX.ts FT gT bT FL gL bL
  have GB : FnOk P w K mg bs CX0 2 fB fdB ["firsts", "term", "steps"] (spBehind K) := ok_behind FB FX.range FX.tup FA gA bA
  refine FP.ok scVals (fun vs H Q E h => ?_) (fun cdv A outer s H vs Q E hr h => ?_)
  · obtain ⟨a, ps, bds, rfl, _⟩ := h
    rfl
  · obtain ⟨a, ps, bds, rfl, ha, hl, h64, k1, k2⟩ := h
    have hu := hu_of hr
    have hr1 : Room 1 (A.deeper (envOfC "values_or_ring" (defScope sVals) s.heap.objs.size f cdv)) := hr.mono (by decide)
    refine ⟨_, pss_cons (ps_set (i := 1) sc.nd rfl (Or.inl rfl) (pe_call GT hr1 (by rfl) gT FT.kp bT .nil pass0 (pa_cons (pv 0) pa_nil)))
      (pss_cons (ps_asg (pe_call GS hr (by rfl) gS FS.kp bS .nil pass0 (pa_cons (pv 0) (pa_cons
          (pe_dc (own := [("term", 5)]) (g := gName 5) rfl sc.nd (pi_list (pv 1)) (blkOk_by (N := ["bounds", "terms", "sums", "firsts", "lowered", "term"]) (sc := defScope sVals) (by decide +kernel))
            (fun _ _ _ _ _ => pg_name (i := 5) sc.nd rfl (Or.inl rfl)) (fun _ _ _ _ _ => pts_nil) (fun _ _ _ _ _ => pv 5) (fun _ _ _ _ _ => pe_int)) pa_nil)))
          (pg_tup rfl (pgs_cons (pg_name (i := 2) sc.nd rfl (Or.inr rfl)) (pgs_cons (pg_name (i := 3) sc.nd rfl (Or.inl rfl)) (pgs_cons (pg_name (i := 4) sc.nd rfl (Or.inl rfl)) pgs_nil)))))
      (pss_cons (ps_if (pt_cmpR op_notN (pv 4) pe_non (nomark _))
          (pss_one (ps_ret (pe_tup (pa_cons pe_non (pa_cons (pe_call GB hr (by rfl) gB FB.kp bB .nil pass0 (pa_cons (pv 3) (pa_cons (pv 4) (pa_cons (pe_callB call_len_seq (by rfl) FX.len boot_len (pa_cons (pv 1) pa_nil)) pa_nil)))) pa_nil))))) pss_nil)
      (pss_one (ps_ret (pe_tup (pa_cons (pe_callTy call_tuple_of (by rfl) FX.tup boot_tuple (pa_cons
          (pe_lc (own := [("term", 5)]) (g := gName 5) (by rfl) sc.nd (pi_list (pv 1)) (blkOk_by (N := ["bounds", "terms", "sums", "firsts", "lowered", "term"]) (sc := defScope sVals) (by decide +kernel))
            (fun _ _ _ _ _ => pg_name (i := 5) sc.nd rfl (Or.inl rfl)) (fun _ _ _ _ _ => pts_nil)
            (fun _ _ _ _ _ => pe_tup (pa_cons (pv 5) (pa_cons (pe_op op_sub (pe_dget hu (pv 2) (pv 5) (fun _ _ => rfl)) (pe_dget hu (pv 2) (pe_glob (v := .str "0") rfl e0 ⟨_, rfl⟩) (fun _ _ => rfl))) pa_nil)))) pa_nil)) (pa_cons pe_non pa_nil))))))), ?_⟩
    refine rd_seq (rd_set ?_)
    refine ⟨_, rfl, a, ps, bds, rfl, ha, hl, h64, fun H1 L ys s1 hL0 hpm hso hL => ?_⟩
    have hlen : ys.length = (tms bds).length := hpm.length_eq
    have ha1 := ha.same s1
    have hmem : ∀ x, x ∈ ys ↔ x ∈ tms bds := fun x => hpm.mem_iff
    have hTy : ∀ b ∈ bds, b.1 ∈ ys ∧ b.2.1 ∈ ys := fun b hb => ⟨(hmem _).mpr (in_tms bds b hb).1, (hmem _).mpr (in_tms bds b hb).2⟩
    dsimp only
    refine rd_seq ?_
    refine ⟨_, rfl, _, rfl, L, rfl, ⟨_, SqL.of hL⟩, fun D hD => dc_it (walk_list (K := K) (a := L) (xs := ys.map V.str)) (fun i H' => Same H1 H' ∧ ∃ kvs : List (Key × V), H' D = some (.dK kvs) ∧ kvs.length ≤ i ∧ ∀ x : Str, valV kvs (Sum.inr x) = (zeros (ys.take i) x).map V.int)
      ⟨same_new hD, [], upd_same, Nat.le_refl _, fun x => by unfold zeros; rw [if_neg (by simp)]; rfl⟩ (fun _ _ _ u => SqL.of (u.1 _ _ hL)) ?_ ?_⟩
    · rintro i v H5 H6 hi ⟨s5, kvs, e5, l5, h5⟩ ⟨rfl, hv⟩
      have hi' : i < ys.length := by simpa using hi
      rw [List.getElem?_map, List.getElem?_eq_getElem hi'] at hv
      cases hv
      refine ⟨rfl, rd_yes rfl ?_⟩
      refine ⟨_, rfl, kvs, Sum.inr ys[i], rfl, e5, Nat.lt_of_lt_of_le (by omega : kvs.length < 64) (by decide), s5.mut hD, _, upd_same, Nat.le_trans (length_putK _ _ _) (by omega), fun x => ?_⟩
      rw [valV_put]
      unfold zeros
      rw [List.take_succ, List.getElem?_eq_getElem hi']
      by_cases hx : x = ys[i]
      · rw [if_pos (by rw [hx]), if_pos (by rw [hx]; exact List.mem_append_right _ (List.mem_singleton.mpr rfl))]
        rfl
      · rw [if_neg (fun q => hx (Sum.inr.inj q)), h5 x]
        unfold zeros
        by_cases hm : x ∈ ys.take i
        · rw [if_pos hm, if_pos (List.mem_append_left _ hm)]
        · rw [if_neg hm, if_neg (fun q => by rcases List.mem_append.mp q with q | q; exact hm q; exact hx (List.mem_singleton.mp q))]
    · rintro H5 ⟨s5, kvs, e5, l5, h5⟩
      rw [List.length_map] at l5
      have h5' : ∀ x : Str, valV kvs (Sum.inr x) = (zeros ys x).map V.int := fun x => by
        have q := h5 x
        rw [List.length_map, List.take_length] at q
        exact q
      refine ⟨a, D, ps, bds, zeros ys, rfl, ha1.same s5, hl, h64, ⟨kvs, e5, by omega, h5'⟩, fun H6 t d e r s6 hr9 hor hs hf ht => ?_⟩
      have s16 := s5.trans s6
      have hL6 := s16 _ _ hL
      refine ⟨t, _, rfl, SqT.of ht, rfl, _, _, rfl, _, _, rfl, _, _, rfl, rfl, ?_⟩
      dsimp only
      refine rd_seq (rd_if ?_)
      refine ⟨_, rfl, rfl, _, rfl, ?_⟩
      have hTy0 : ∀ x ∈ ys, zeros ys x = some 0 := fun x hx => if_pos hx
      cases hlow : (aft bds (zeros ys) (r + 1)).low with
      | some x =>
        refine Eq.mpr (if_pos (by rw [decide_eq_false (fun z => by cases z)]; rfl)) ?_
        have hr2 : r + 1 = (tms bds).length := by
          rcases hor with q | q
          · rw [hlow] at q; cases q
          · exact q
        have hxy : x ∈ ys := by
          obtain ⟨b, hb, e1⟩ := BF.low_mem (show (BF.round bds _ _).low = some x from hlow)
          rw [← e1]
          exact (hTy b hb).1
        obtain ⟨y, u, pw, v, c, pr, hv0, hc⟩ := BF.behind bds ys (zeros ys) r hTy (by omega) hxy hlow
        refine ⟨_, rfl, _, rfl, _, rfl, L, _, rfl, .inl (SqL.of hL6), e, x, y, r + 1, c, _, 10000, u, v, (by rw [List.length_map, hlen, ← hr2]; rfl), hf, pw, pr, by omega, by omega, fun H7 q qs cs s7 hq hrow pl hne hcl => ?_⟩
        obtain ⟨g1, g2, g3⟩ := BF.ring_pl (BF.ok_after bds (zeros ys) (r + 1)) pl hne
        refine ⟨(by exact (by decide : 2 ≤ sizeLine)), fun t2 ht2 => ?_⟩
        have s8 : Same H7 (upd H7 t2 (.tup [.non, .ref q])) := same_new ht2
        exact k2 _ t2 q qs cs y (((s1.trans s16).trans s7).trans s8) upd_same (s8 _ _ hq) (hrow.same s8) g1 hne g2 g3 hcl
      | none =>
        refine Eq.mpr (if_neg (by decide)) ?_
        dsimp only [tNext]
        have rk := BF.round_kept (show (BF.round bds (aft bds (zeros ys) r).S (aft bds (zeros ys) r).F).low = none from hlow)
        obtain ⟨val0, hval, hkeep⟩ := BF.values hTy hTy0 (BF.le_after bds (zeros ys) (fun _ => none) r) (show (BF.round bds (aft bds (zeros ys) r).S (aft bds (zeros ys) r).F).low = none from hlow)
        obtain ⟨ks, es, ls, hks⟩ := hs
        have hks2 : ∀ x ∈ ys, valV ks (Sum.inr x) = some (.int (val0 x)) := fun x hx => by
          have q1 : (aft bds (zeros ys) (r + 1)).S = (aft bds (zeros ys) r).S := rk.1
          rw [hks x, q1, hval x hx]
          rfl
        have hz : ("0" : Str) ∈ ys := (hmem _).mpr (zero_tms bds)
        refine rd_ret ?_
        refine ⟨_, rfl, L, rfl, ⟨_, SqL.of hL6⟩, fun C hC => lc_it (walk_list (K := K) (a := L) (xs := ys.map V.str)) (fun i H' => Same H6 H' ∧ ∃ qs : List Addr, H' C = some (.lst (qs.map V.ref)) ∧ qs.length = i ∧ Paired (fun p (x : Str) => H' p = some (.tup [.str x, .int (val0 x - val0 "0")])) qs (ys.take i))
          ⟨same_new hC, [], upd_same, rfl, .nil⟩ (fun _ _ _ u => SqL.of (u.1 _ _ hL6)) ?_ ?_⟩
        · rintro i v H7 H8 hi ⟨s7, qs, e7, l7, h7⟩ ⟨rfl, hv⟩
          have hi' : i < ys.length := by simpa using hi
          rw [List.getElem?_map, List.getElem?_eq_getElem hi'] at hv
          cases hv
          have hin : ys[i] ∈ ys := List.getElem_mem hi'
          have et : ys.take (i + 1) = ys.take i ++ [ys[i]] := by rw [List.take_succ, List.getElem?_eq_getElem hi']; rfl
          rw [et]
          generalize ys[i] = x at hin
          refine ⟨rfl, rd_yes rfl ?_⟩
          have es8 := s7 _ _ es
          have g1 := DGet.k (k := Sum.inr x) es8
          rw [hks2 x hin] at g1
          have g2 := DGet.k (k := Sum.inr ("0" : Str)) es8
          rw [hks2 _ hz] at g2
          refine ⟨_, rfl, _, rfl, _, rfl, d, _, rfl, g1, _, rfl, d, _, rfl, g2, _, _, rfl, rfl, (by exact (by decide : 2 ≤ sizeLine)), fun p hp => ?_⟩
          have s8 : Same H8 (upd H8 p (.tup [.str x, .int (val0 x - val0 "0")])) := same_new hp
          have f8 : upd H8 p (.tup [.str x, .int (val0 x - val0 "0")]) p = some (.tup [.str x, .int (val0 x - val0 "0")]) := upd_same
          have e8 := s8 _ _ e7
          have h8 : Paired (fun q (z : Str) => upd H8 p (.tup [.str x, .int (val0 x - val0 "0")]) q = some (.tup [.str z, .int (val0 z - val0 "0")])) qs (ys.take i) := L2.Paired.mapP h7 fun _ _ q => s8 _ _ q
          generalize upd H8 p (.tup [.str x, .int (val0 x - val0 "0")]) = H9 at s8 f8 e8 h8 ⊢
          refine ⟨_, e8, Nat.lt_of_lt_of_le (by rw [List.length_map]; omega : _ < 64) (by decide), (s7.trans s8).mut hC, qs ++ [p], by rw [upd_same, List.map_append]; rfl, by rw [List.length_append, l7]; rfl, ?_⟩
          have nn : ∀ q (u : List V), H9 q = some (.tup u) → upd H9 C (.lst (qs.map V.ref ++ [.ref p])) q = some (.tup u) := fun q u e => (upd_ne (fun z => by rw [z, e8] at e; cases e)).trans e
          exact Paired.snoc (L2.Paired.mapP h8 fun _ _ q => nn _ _ q) (nn _ _ f8)
        · rintro H7 ⟨s7, qs, e7, l7, h7⟩
          rw [List.length_map, List.take_length] at h7
          refine ⟨C, _, rfl, .inl ⟨SqL.of e7, fun q hq0 => ?_⟩⟩
          have s8 : Same H7 (upd H7 q (.tup (qs.map V.ref))) := same_new hq0
          have f8 : upd H7 q (.tup (qs.map V.ref)) q = some (.tup (qs.map V.ref)) := upd_same
          have h8 : Paired (fun p (z : Str) => upd H7 q (.tup (qs.map V.ref)) p = some (.tup [.str z, .int (val0 z - val0 "0")])) qs ys := L2.Paired.mapP h7 fun _ _ q => s8 _ _ q
          generalize upd H7 q (.tup (qs.map V.ref)) = H8 at s8 f8 h8 ⊢
          refine ⟨(by exact (by decide : 2 ≤ sizeLine)), fun t2 ht2 => ?_⟩
          have s9 : Same H8 (upd H8 t2 (.tup [.ref q, .non])) := same_new ht2
          refine k1 _ t2 q qs ys (fun x => val0 x - val0 "0") ((((s1.trans s16).trans s7).trans s8).trans s9) upd_same (s9 _ _ f8) hpm hso (L2.Paired.mapP h8 fun _ _ q => s9 _ _ q) ⟨Int.sub_self _, fun b hb => ?_⟩
          have := hkeep b hb
          show val0 b.1 - val0 "0" - (val0 b.2.1 - val0 "0") ≤ b.2.2
          omega
def hasRing (bds : List Bd) : Prop := ∃ t s n, BF.Way bds t t s n ∧ s < 0
theorem noRing {bds : List Bd} (h : ¬ hasRing bds) : ∀ t s n, BF.Way bds t t s n → 0 ≤ s := fun t s n w => Classical.byContradiction fun c => h ⟨t, s, n, w, by omega⟩
theorem ring_yes {bds : List Bd} {y : Str} {cs : List Bd} (g1 : BF.Chain y y cs) (g2 : ∀ c ∈ cs, c ∈ bds) (g3 : BF.sumB cs < 0) : hasRing bds := ⟨y, _, _, g1.way g2, g3⟩
theorem ring_no {bds : List Bd} {val : Str → Int} (h : GoodVals bds val) : ¬ hasRing bds := by
  rintro ⟨t, s, n, w, hs⟩
  have k := BF.no_ring (S := fun x => some (val x)) (fun b hb v e => ⟨_, rfl, by have := h.2 b hb; have := Option.some.inj e; omega⟩) w rfl
  omega
end
end L2.K04

set_option Elab.async false
set_option linter.all false
set_option maxRecDepth 100000
set_option maxHeartbeats 2000000
namespace L2.K04
open PySem PySem.Spec PyProof.Rows L2.Vx
open PySem.W (Frag)
/-! ### the law's drawn bounds -/
def termL : List Str := ["0", "a", "b", "a!", "c", "zzzzzzzz!"]
def okTerms (T : List Str) : Prop := T.Nodup ∧ ∀ x ∈ T, x.length ≤ 20 ∧ termIn x = true
theorem okTerms_all : okTerms termL := ⟨by decide +kernel, by decide +kernel⟩
section
variable {P : Program} {w : World} {K : Frag} {mg : Str → Option Value} {bs : Heap}
def spLTerms : Sp := fun vs H Q _ => vs = [] ∧ ∀ H' q, Same H H' → H q = none → H' q = some (.lst (termL.map V.str)) → Q (.ref q) H'
theorem scLTerms : FnScope [] [] (defScope sLTerms) := ⟨rfl, rfl, rfl, by decide +kernel, rfl, by decide +kernel, by decide +kernel⟩
theorem ok_lterms {f : Addr} {fd : FuncData} (FP : FD K "_law_terms" sLTerms f fd) : FnOk P w K mg bs CX0 1 f fd [] spLTerms := by
  refine FP.ok scLTerms (fun vs H Q E h => ?_) (fun cdv A outer s H vs Q E hr h => ?_)
  · obtain ⟨rfl, _⟩ := h
    rfl
  · obtain ⟨rfl, k⟩ := h
    refine ⟨_, pss_one (ps_ret (pe_lst (pa_cons pe_str (pa_cons pe_str (pa_cons pe_str (pa_cons pe_str (pa_cons pe_str (pa_cons pe_str pa_nil)))))))), ?_⟩
    exact ⟨(by exact (by decide : 6 ≤ sizeLine)), fun q hq => k _ q (same_new hq) hq upd_same⟩
theorem sqt_but {p a : Addr} {H H' : Hp} {k0 : Int} {xs : List V} (hP : Pot H p k0) (k : But p H H') (h : SqT K H a xs) : SqT K H' a xs := by
  obtain ⟨_, _, _, ep, _⟩ := hP
  rcases h with (h | ⟨o, h⟩) | h
  · exact .inl (.inl (k _ _ (fun c => by rw [c, ep] at h; cases h) h))
  · exact .inl (.inr ⟨o, k _ _ (fun c => by rw [c, ep] at h; cases h) h⟩)
  · exact .inr h
theorem BdsAt.pot {p a : Addr} {H H' : Hp} {k0 : Int} {ps : List Addr} {bds : List Bd} (h : BdsAt K H a ps bds) (hP : Pot H p k0) (k : But p H H') : BdsAt K H' a ps bds :=
  ⟨sqt_but hP k h.1, h.2.1, fun i p b e1 e2 => ⟨sqt_but hP k (h.2.2 i p b e1 e2).1, (h.2.2 i p b e1 e2).2⟩⟩
theorem bdsAt_of {H : Hp} {a : Addr} {ps : List Addr} {bds : List Bd} (ha : SqT K H a (ps.map V.ref)) (hp : RowsAt K H ps bds) (ok : ∀ b ∈ bds, okBd b) : BdsAt K H a ps bds := by
  refine ⟨ha, Paired.length hp, fun i p b e1 e2 => ⟨?_, ok b (List.mem_of_getElem? e2)⟩⟩
  clear ha ok
  induction hp generalizing i with
  | nil => simp at e1
  | @cons q c l1 l2 h t ih =>
    cases i with
    | zero =>
      simp at e1 e2
      subst e1 e2
      exact h
    | succ i => exact ih i (by simpa using e1) (by simpa using e2)
theorem BdsAt.rows {H : Hp} {a : Addr} {ps : List Addr} {bds : List Bd} (h : BdsAt K H a ps bds) : RowsAt K H ps bds := by
  obtain ⟨h0, hl, h⟩ := h
  clear h0
  induction ps generalizing bds with
  | nil =>
    cases bds with
    | nil => exact .nil
    | cons b bds => simp at hl
  | cons p ps ih =>
    cases bds with
    | nil => simp at hl
    | cons b bds => exact .cons (h 0 p b rfl rfl).1 (ih (by simpa using hl) fun i q c e1 e2 => h (i + 1) q c (by simpa using e1) (by simpa using e2))
def spLBds (K : Frag) : Sp := fun vs H Q _ => ∃ (p l nl : Addr) (T : List Str) (ns : List Int) (m : Nat) (k : Int), vs = [.ref p, .ref l, .int m, .ref nl] ∧ l ≠ p ∧ nl ≠ p ∧ SqL K H l (T.map V.str) ∧ okTerms T ∧ 2 ≤ T.length ∧ T.length ≤ 20 ∧
  SqL K H nl (ns.map V.int) ∧ 0 < ns.length ∧ ns.length ≤ 100 ∧ m ≤ 30 ∧ 0 ≤ k ∧ k < 900000 ∧ Pot H p k ∧
  ∀ H' q ps bds, But p H H' → H q = none → BdsAt K H' q ps bds → bds.length ≤ m → (∀ b ∈ bds, b.1 ∈ T ∧ b.2.1 ∈ T ∧ b.2.2 ∈ ns) → Pot H' p (k + 100) → Q (.ref q) H'
theorem scLBds : FnScope ["pot", "terms", "many", "numbers", "found", "lap", "one", "other"] ["pot", "terms", "many", "numbers"] (defScope sLBounds) := ⟨rfl, rfl, rfl, by decide +kernel, rfl, by decide +kernel, by decide +kernel⟩
theorem ok_lbds {f fT fS fO : Addr} {fd fdT fdS fdO : FuncData} (FP : FD K "_law_bounds" sLBounds f fd) (F : Dx mg) (gTu : mg "tuple" = none)
    (FT : FD K "_law_take" sTake fT fdT) (gT : mg "_law_take" = some (.ref fT)) (bT : Binds K fdT ["pot", "upto"] [])
    (FS : FD K "_law_some" sSome fS fdS) (gS : mg "_law_some" = some (.ref fS)) (bS : Binds K fdS ["pot", "pool", "many"] [])
    (FO : FD K "_law_of" sOf fO fdO) (gO : mg "_law_of" = some (.ref fO)) (bO : Binds K fdO ["pot", "some"] []) : FnOk P w K mg bs CX0 3 f fd ["pot", "terms", "many", "numbers"] (spLBds K) := by
  have sc := scLBds
  have GT : FnOk P w K mg bs CX0 1 fT fdT ["pot", "upto"] spTake := ok_take FT F
  have GS : FnOk P w K mg bs CX0 2 fS fdS ["pot", "pool", "many"] (spSome K) := ok_some FS F FT gT bT
  have GO : FnOk P w K mg bs CX0 2 fO fdO ["pot", "some"] (spOf K) := ok_of FO F FT gT bT
  refine FP.ok scLBds (fun vs H Q E h => ?_) (fun cdv A outer s H vs Q E hr h => ?_)
  · obtain ⟨p, l, nl, T, ns, m, k, rfl, _⟩ := h
    rfl
  · obtain ⟨p, l, nl, T, ns, m, k0, rfl, nlp, nnp, hT, ok, t2, t20, hN, n0, n9, hm, k00, k9, hP, k⟩ := h
    have hr1 : Room 1 (A.deeper (envOfC "_law_bounds" (defScope sLBounds) s.heap.objs.size f cdv)) := hr.mono (by decide)
    refine ⟨_, pss_cons (ps_set (i := 4) sc.nd rfl (Or.inl rfl) (pe_lst pa_nil))
      (pss_cons (ps_for PassesOwn.never rfl (pi_range1 (by rfl) F.range (pa_cons (pe_call GT hr1 (by rfl) gT FT.kp bT .nil pass0 (pa_cons (pv 0) (pa_cons (pe_op op_add (pv 2) pe_int) pa_nil))) pa_nil)) (pg_name (i := 5) sc.nd rfl (Or.inl rfl))
        (pss_cons (ps_asg (pe_call GS hr (by rfl) gS FS.kp bS .nil pass0 (pa_cons (pv 0) (pa_cons (pv 1) (pa_cons pe_int pa_nil)))) (pg_lst rfl (pgs_cons (pg_name (i := 6) sc.nd rfl (Or.inl rfl)) (pgs_cons (pg_name (i := 7) sc.nd rfl (Or.inl rfl)) pgs_nil))))
        (pss_one (ps_expr (pe_bm PySem.F.plainAttrs_list PySem.F.slot_list_append PySem.F.type_list_append mt_append (pv 4) (pa_cons (pe_tup (pa_cons (pv 6) (pa_cons (pv 7) (pa_cons
          (pe_call GO hr (by rfl) gO FO.kp bO .nil pass0 (pa_cons (pv 0) (pa_cons (pv 3) pa_nil))) pa_nil)))) pa_nil))))))
      (pss_one (ps_ret (pe_callTy call_tuple_of (by rfl) gTu boot_tuple (pa_cons (pv 4) pa_nil))))), ?_⟩
    refine rd_seq (rd_set ?_)
    refine ⟨Nat.zero_le _, fun L hL => ?_⟩
    have s1 : Same H (upd H L (.lst [])) := same_new hL
    have f1 : upd H L (.lst []) L = some (.lst []) := upd_same
    have nLp : L ≠ p := hP.ne hL
    dsimp only
    have hP1 := hP.same s1
    have k1 : But p H (upd H L (.lst [])) := But.of s1
    generalize upd H L (.lst []) = H1 at s1 f1 hP1 k1 ⊢
    refine rd_seq ?_
    refine ⟨_, rfl, _, rfl, _, _, rfl, rfl, p, (m : Int) + 1, k0, rfl, by omega, by omega, by omega, hP1, fun H2 c k2 hP2 c0 c1 => ?_⟩
    have f2 := k2 _ _ nLp f1
    have k12 := k1.trans k2
    obtain ⟨cn, rfl⟩ : ∃ cn : Nat, c = (cn : Int) := ⟨c.toNat, by omega⟩
    refine ⟨(cn : Int), rfl, by omega, by omega, for_range (lo := 0) (n := ((cn : Nat) : Int).toNat) (fun i σ H' => ∃ (v5 v6 v7 : Option V) (ps : List Addr) (bds : List Bd), σ = [some (.ref p), some (.ref l), some (.int m), some (.ref nl), some (.ref L), v5, v6, v7] ∧
      But p H H' ∧ H' L = some (.lst (ps.map V.ref)) ∧ RowsAt K H' ps bds ∧ ps.length = i ∧ (∀ b ∈ bds, okBd b ∧ b.1 ∈ T ∧ b.2.1 ∈ T ∧ b.2.2 ∈ ns) ∧ Pot H' p (k0 + 1 + 3 * i)) ⟨none, none, none, [], [], rfl, k12, f2, .nil, rfl, fun _ h => (by cases h), hP2.mono (by omega)⟩ ?_ ?_⟩
    · rintro i σ H3 hi ⟨v5, v6, v7, ps, bds, rfl, k3, f3, hR, hlen, hbd, hP3⟩
      have hi' : i < cn := by omega
      refine rd_seq ?_
      refine ⟨_, rfl, _, rfl, p, l, T.map V.str, 2, k0 + 1 + 3 * i, rfl, nlp, k3.seq nlp hT, by rw [List.length_map]; omega, by rw [List.length_map]; omega, by omega, by omega, hP3, fun H4 q ys rest k4 hq0 hq hpm hy hP4 => ?_⟩
      have f4 := k4 _ _ nLp f3
      match ys, hy with
      | [y1, y2], _ =>
        obtain ⟨x1, x2, rfl, rfl, hx1, hx2, hne⟩ : ∃ x1 x2 : Str, y1 = .str x1 ∧ y2 = .str x2 ∧ x1 ∈ T ∧ x2 ∈ T ∧ x1 ≠ x2 := by
          have m1 : y1 ∈ T.map V.str := hpm.subset (List.mem_cons_self ..)
          have m2 : y2 ∈ T.map V.str := hpm.subset (List.mem_cons_of_mem _ (List.mem_cons_self ..))
          obtain ⟨x1, h1, rfl⟩ := List.mem_map.mp m1
          obtain ⟨x2, h2, rfl⟩ := List.mem_map.mp m2
          refine ⟨x1, x2, rfl, rfl, h1, h2, fun e => ?_⟩
          have nd : (T.map V.str).Nodup := List.Pairwise.map V.str (fun _ _ h e => h (V.str.inj e)) ok.1
          have nd2 := (hpm.nodup_iff).mpr nd
          rw [e] at nd2
          exact (List.nodup_cons.mp nd2).1 (List.mem_cons_self ..)
        refine ⟨q, _, rfl, SqL.of hq, rfl, _, _, rfl, _, _, rfl, rfl, ?_⟩
        dsimp only
        have k14 := k3.trans k4
        refine ⟨_, rfl, .inl ⟨rfl, _, SqL.of f4⟩, _, rfl, _, rfl, _, rfl, _, rfl, p, nl, ns.map V.int, k0 + 1 + 3 * i + 2, rfl, nnp, k14.seq nnp hN, by rw [List.length_map]; omega, by rw [List.length_map]; omega, by omega, hP4, fun H5 v k5 hP5 hv => ?_⟩
        obtain ⟨n, hn, rfl⟩ := List.mem_map.mp hv
        refine ⟨(by exact (by decide : 3 ≤ sizeLine)), fun t ht => ?_⟩
        have s6 : Same H5 (upd H5 t (.tup [.str x1, .str x2, .int n])) := same_new ht
        have f6 : upd H5 t (.tup [.str x1, .str x2, .int n]) t = some (.tup [.str x1, .str x2, .int n]) := upd_same
        have f5 := s6 _ _ (k5 _ _ nLp f4)
        have hP6 := hP5.same s6
        have hR6 : RowsAt K (upd H5 t (.tup [.str x1, .str x2, .int n])) ps bds := L2.Paired.mapP hR fun _ _ z => sqt_same s6 (sqt_but hP4 k5 (sqt_but hP3 k4 z))
        have k6 := (k14.trans k5).trans (But.of (p := p) s6)
        generalize upd H5 t (.tup [.str x1, .str x2, .int n]) = H6 at s6 f6 f5 hP6 hR6 k6 ⊢
        refine ⟨L, _, _, rfl, rfl, f5, ?_, ?_⟩
        · rw [List.length_map]
          exact Nat.lt_of_lt_of_le (by omega : ps.length < 100) (by decide)
        · have nn : ∀ {a : Addr} {u : List V}, SqT K H6 a u → SqT K (upd H6 L (.lst (ps.map V.ref ++ [.ref t]))) a u := fun {a u} q => by
            have n : ∀ o : HO, H6 a = some o → (∀ l, o ≠ .lst l) → upd H6 L (.lst (ps.map V.ref ++ [.ref t])) a = some o := fun o q z => (upd_ne (fun c => by rw [c, f5] at q; exact z _ (Option.some.inj q).symm)).trans q
            rcases q with (q | ⟨o, q⟩) | q
            · exact .inl (.inl (n _ q (fun u c => by cases c)))
            · exact .inl (.inr ⟨o, n _ q (fun u c => by cases c)⟩)
            · exact .inr q
          refine ⟨_, _, _, ps ++ [t], bds ++ [(x1, x2, n)], rfl, k6.mut hL, by rw [upd_same, List.map_append]; rfl, Paired.snoc (L2.Paired.mapP hR6 fun _ _ z => nn z) (nn (SqT.of f6)), by rw [List.length_append, List.length_singleton, hlen], fun b hb => ?_, ?_⟩
          · rcases List.mem_append.mp hb with hb | hb
            · exact hbd b hb
            · rw [List.mem_singleton.mp hb]
              exact ⟨⟨(ok.2 _ hx1).1, (ok.2 _ hx2).1, (ok.2 _ hx1).2, (ok.2 _ hx2).2, hne⟩, hx1, hx2, hn⟩
          · obtain ⟨o, b, c, e, r1, r2, r3, r4, r5⟩ := hP6
            exact ⟨o, b, c, (upd_ne (Ne.symm nLp)).trans e, r1, r2, r3, r4, by omega⟩
    · rintro σ H3 ⟨v5, v6, v7, ps, bds, rfl, k3, f3, hR, hlen, hbd, hP3⟩
      refine ⟨_, rfl, L, _, rfl, .inl ⟨SqL.of f3, fun q hq => ?_⟩⟩
      have s4 : Same H3 (upd H3 q (.tup (ps.map V.ref))) := same_new hq
      have f4 : upd H3 q (.tup (ps.map V.ref)) q = some (.tup (ps.map V.ref)) := upd_same
      obtain ⟨o, eo⟩ := hP3.some
      exact k _ q ps bds (k3.trans (But.of s4)) (k3.free hq eo) (bdsAt_of (SqT.of f4) (hR.same s4) fun b hb => (hbd b hb).1) (by rw [← Paired.length hR]; omega) (fun b hb => (hbd b hb).2) ((hP3.same s4).mono (by omega))
end
end L2.K04

set_option Elab.async false
set_option linter.all false
set_option maxRecDepth 100000
set_option maxHeartbeats 2000000
namespace L2.K04
open PySem PySem.Spec PyProof.Rows L2.Vx
open PySem.W (Frag)
/-! ### the law's own terms of bounds -/
def heads (bds : List Bd) : List Str := ("0" : Str) :: bds.map fun b => b.1
def allOf2 (bds : List Bd) : List Str := heads bds ++ bds.map fun b => b.2.1
theorem mem_all2 (bds : List Bd) (x : Str) : x ∈ allOf2 bds ↔ x ∈ allOf bds := by
  unfold allOf2 allOf heads
  simp only [List.mem_append, List.mem_cons, List.mem_map, List.mem_flatMap, twoOf, List.not_mem_nil, or_false]
  constructor
  · rintro ((h | ⟨b, hb, rfl⟩) | ⟨b, hb, rfl⟩)
    · exact .inl h
    · exact .inr ⟨b, hb, .inl rfl⟩
    · exact .inr ⟨b, hb, .inr rfl⟩
  · rintro (h | ⟨b, hb, rfl | rfl⟩)
    · exact .inl (.inl h)
    · exact .inl (.inr ⟨b, hb, rfl⟩)
    · exact .inr ⟨b, hb, rfl⟩
theorem all2_len (bds : List Bd) : (allOf2 bds).length = 2 * bds.length + 1 := by
  unfold allOf2 heads
  rw [List.length_append, List.length_cons, List.length_map, List.length_map]
  omega
theorem all_len (bds : List Bd) : (allOf bds).length = 2 * bds.length + 1 := by
  have h : ∀ l : List Bd, (l.flatMap twoOf).length = 2 * l.length := fun l => by
    induction l with
    | nil => rfl
    | cons b l ih => rw [List.flatMap_cons, List.length_append, ih, List.length_cons]; show 2 + _ = _; omega
  show (bds.flatMap twoOf).length + 1 = _
  rw [h]
theorem tms_lt {bds : List Bd} (h : bds.length ≤ 30) : (tms bds).length < 64 := Nat.lt_of_le_of_lt (firsts_le _) (by rw [all_len]; omega)
theorem all2_perm (bds : List Bd) : (firsts (allOf2 bds)).Perm (tms bds) :=
  (List.perm_ext_iff_of_nodup (firsts_nodup _) (firsts_nodup _)).mpr fun x => by rw [mem_firsts, mem_firsts]; exact mem_all2 bds x
section
variable {P : Program} {w : World} {K : Frag} {mg : Str → Option Value} {bs : Heap}
def spLAll (K : Frag) : Sp := fun vs H Q _ => ∃ (a : Addr) (ps : List Addr) (bds : List Bd), vs = [.ref a] ∧ BdsAt K H a ps bds ∧ bds.length ≤ 30 ∧
  ∀ H' q ys, Same H H' → H q = none → ys.Perm (tms bds) → sortedS ys = true → H' q = some (.lst (ys.map V.str)) → Q (.ref q) H'
theorem scLAll : FnScope ["bounds", "row"] ["bounds"] (defScope sLAll) := ⟨rfl, rfl, rfl, by decide +kernel, rfl, by decide +kernel, by decide +kernel⟩
theorem ok_lall {f : Addr} {fd : FuncData} (FP : FD K "_law_all_terms" sLAll f fd) (gS : mg "sorted" = none) (gE : mg "set" = none) : FnOk P w K mg bs CX0 1 f fd ["bounds"] (spLAll K) := by
  have sc := scLAll
  refine FP.ok scLAll (fun vs H Q E h => ?_) (fun cdv A outer s H vs Q E hr h => ?_)
  · obtain ⟨a, ps, bds, rfl, _⟩ := h
    rfl
  · obtain ⟨a, ps, bds, rfl, ha, hl, k⟩ := h
    refine ⟨_, pss_one (ps_ret (pe_callB (cr_sortedK rfl) (by rfl) gS boot_sorted (pa_cons (pe_callTy (cr_setK rfl) (by rfl) gE boot_set (pa_cons (pe_op op_cat (pe_op op_cat (pe_lst (pa_cons pe_str pa_nil))
      (pe_lc (own := [("row", 1)]) (g := gName 1) (by rfl) sc.nd (pi_tup (pv 0)) (blkOk_by (N := ["bounds", "row"]) (sc := defScope sLAll) (by decide +kernel))
        (fun _ _ _ _ _ => pg_name (i := 1) sc.nd rfl (Or.inl rfl)) (fun _ _ _ _ _ => pts_nil) (fun _ _ _ _ _ => pe_ix (r := rIxT K) ix_tup (pv 1) pe_int (fun _ _ => rfl))))
      (pe_lc (own := [("row", 1)]) (g := gName 1) (by rfl) sc.nd (pi_tup (pv 0)) (blkOk_by (N := ["bounds", "row"]) (sc := defScope sLAll) (by decide +kernel))
        (fun _ _ _ _ _ => pg_name (i := 1) sc.nd rfl (Or.inl rfl)) (fun _ _ _ _ _ => pts_nil) (fun _ _ _ _ _ => pe_ix (r := rIxT K) ix_tup (pv 1) pe_int (fun _ _ => rfl)))) pa_nil)) pa_nil))), ?_⟩
    refine ⟨(by exact (by decide : 1 ≤ sizeLine)), fun L hL => ?_⟩
    have s1 : Same H (upd H L (.lst [.str "0"])) := same_new hL
    have f1 : upd H L (.lst [.str "0"]) L = some (.lst [.str "0"]) := upd_same
    dsimp only [tNil]
    generalize upd H L (.lst [.str "0"]) = H1 at s1 f1 ⊢
    have ha1 := ha.same s1
    refine ⟨_, rfl, a, rfl, ⟨_, ha1.1⟩, fun D hD => lc_it (walk_tup (K := K) (a := a) (xs := ps.map V.ref)) (fun i H' => Same H1 H' ∧ H' D = some (.lst ((bds.take i).map fun b => V.str b.1))) ⟨same_new hD, upd_same⟩ (fun _ _ _ u => sqt_same u.1 ha1.1) ?_ ?_⟩
    · rintro i v H5 H6 hi ⟨s5, d5⟩ ⟨rfl, hv⟩
      have hi1 : i < ps.length := by simpa using hi
      have hi2 : i < bds.length := by rw [← ha.2.1]; exact hi1
      rw [List.getElem?_map, List.getElem?_eq_getElem hi1] at hv
      cases hv
      obtain ⟨hb, _⟩ := (ha1.same s5).2.2 i _ _ (List.getElem?_eq_getElem hi1) (List.getElem?_eq_getElem hi2)
      refine ⟨rfl, rd_yes rfl ?_⟩
      refine ⟨_, rfl, _, _, _, _, rfl, rfl, hb, rfl, _, d5, ?_, s5.mut hD, ?_⟩
      · rw [List.length_map, List.length_take]
        exact Nat.lt_of_lt_of_le (by omega : _ < 64) (by decide)
      · rw [upd_same, List.take_succ, List.getElem?_eq_getElem hi2, List.map_append]
        rfl
    · rintro H5 ⟨s5, d5⟩
      rw [List.length_map, ha.2.1, List.take_length] at d5
      have f5 := s5 _ _ f1
      refine ⟨L, D, _, _, rfl, rfl, f5, d5, Nat.le_trans (by rw [List.length_map]; show 1 + _ ≤ 61; omega : _ ≤ 61) (by decide), fun M hM => ?_⟩
      have e1 : [V.str "0"] ++ (bds.map fun b => V.str b.1) = (heads bds).map V.str := by unfold heads; rw [List.map_cons, List.map_map]; rfl
      rw [e1]
      have s6 := same_new (o := .lst ((heads bds).map V.str)) hM
      have f6 : upd H5 M (.lst ((heads bds).map V.str)) M = some (.lst ((heads bds).map V.str)) := upd_same
      dsimp only
      generalize upd H5 M (.lst ((heads bds).map V.str)) = H6 at s6 f6 ⊢
      have ha6 := (ha1.same s5).same s6
      refine ⟨_, rfl, a, rfl, ⟨_, ha6.1⟩, fun D2 hD2 => lc_it (walk_tup (K := K) (a := a) (xs := ps.map V.ref)) (fun i H' => Same H6 H' ∧ H' D2 = some (.lst ((bds.take i).map fun b => V.str b.2.1))) ⟨same_new hD2, upd_same⟩ (fun _ _ _ u => sqt_same u.1 ha6.1) ?_ ?_⟩
      · rintro i v H7 H8 hi ⟨s7, d7⟩ ⟨rfl, hv⟩
        have hi1 : i < ps.length := by simpa using hi
        have hi2 : i < bds.length := by rw [← ha.2.1]; exact hi1
        rw [List.getElem?_map, List.getElem?_eq_getElem hi1] at hv
        cases hv
        obtain ⟨hb, _⟩ := (ha6.same s7).2.2 i _ _ (List.getElem?_eq_getElem hi1) (List.getElem?_eq_getElem hi2)
        refine ⟨rfl, rd_yes rfl ?_⟩
        refine ⟨_, rfl, _, _, _, _, rfl, rfl, hb, rfl, _, d7, ?_, s7.mut hD2, ?_⟩
        · rw [List.length_map, List.length_take]
          exact Nat.lt_of_lt_of_le (by omega : _ < 64) (by decide)
        · rw [upd_same, List.take_succ, List.getElem?_eq_getElem hi2, List.map_append]
          rfl
      · rintro H7 ⟨s7, d7⟩
        rw [List.length_map, ha.2.1, List.take_length] at d7
        have f7 := s7 _ _ f6
        refine ⟨M, D2, _, _, rfl, rfl, f7, d7, Nat.le_trans (by rw [List.length_map]; show (bds.map fun b => b.1).length + 1 + _ ≤ 61; rw [List.length_map, List.length_map]; omega : _ ≤ 61) (by decide), fun N hN => ?_⟩
        have e2 : (heads bds).map V.str ++ (bds.map fun b => V.str b.2.1) = (allOf2 bds).map V.str := by
          unfold allOf2
          rw [List.map_append, List.map_map]
          rfl
        rw [e2]
        have s8 := same_new (o := .lst ((allOf2 bds).map V.str)) hN
        have f8 : upd H7 N (.lst ((allOf2 bds).map V.str)) N = some (.lst ((allOf2 bds).map V.str)) := upd_same
        dsimp only
        generalize upd H7 N (.lst ((allOf2 bds).map V.str)) = H8 at s8 f8 ⊢
        refine ⟨N, allOf2 bds, rfl, SqL.of f8, Nat.lt_of_le_of_lt (by rw [all2_len]; omega : _ ≤ 62) (by decide), fun O hO => ?_⟩
        have s9 := same_new (o := L2.Vx.SetK P w O (allOf2 bds)) hO
        have f9 : upd H8 O (L2.Vx.SetK P w O (allOf2 bds)) O = some (L2.Vx.SetK P w O (allOf2 bds)) := upd_same
        refine ⟨O, allOf2 bds, rfl, f9, Nat.lt_of_le_of_lt (firsts_le _) (by rw [all2_len]; omega), fun ys q hpm hso hq => ?_⟩
        have sA := (((((s1.trans s5).trans s6).trans s7).trans s8).trans s9)
        exact k _ q ys (sA.trans (same_new hq)) (sA.free hq) (hpm.trans (all2_perm bds)) hso upd_same
end
end L2.K04

set_option Elab.async false
set_option linter.all false
set_option maxRecDepth 100000
set_option maxHeartbeats 4000000
namespace L2.K04
open PySem PySem.Spec PyProof.Rows L2.Vx
open PySem.W (Frag)
/-! ### the law's own sums -/
section
variable {P : Program} {w : World} {K : Frag} {mg : Str → Option Value} {bs : Heap}
theorem sqt_butT {d a : Addr} {H H' : Hp} {kvs : List (List Key × V)} {xs : List V} (hd : H d = some (.dT kvs)) (k : But d H H') (h : SqT K H a xs) : SqT K H' a xs := by
  rcases h with (h | ⟨o, h⟩) | h
  · exact .inl (.inl (k _ _ (fun c => by rw [c, hd] at h; cases h) h))
  · exact .inl (.inr ⟨o, k _ _ (fun c => by rw [c, hd] at h; cases h) h⟩)
  · exact .inr h
abbrev k2 (x y : Str) : List Key := [Sum.inr x, Sum.inr y]
theorem k2_inj {x y u v : Str} : k2 x y = k2 u v ↔ (x, y) = (u, v) := by
  unfold k2
  simp
/-- a dict of sums by pairs of terms -/
def TabAt (H : Hp) (d : Addr) (f : BF.Tab Str) (n : Nat) : Prop := ∃ kvs : List (List Key × V), H d = some (.dT kvs) ∧ kvs.length ≤ n ∧ ∀ x y : Str, valV kvs (k2 x y) = (f (x, y)).map V.int
theorem TabAt.same {H H' : Hp} {d : Addr} {f : BF.Tab Str} {n : Nat} (h : TabAt H d f n) (s : Same H H') : TabAt H' d f n := by
  obtain ⟨k, e, r⟩ := h
  exact ⟨k, s _ _ e, r⟩
theorem TabAt.mono {H : Hp} {d : Addr} {f : BF.Tab Str} {n m : Nat} (h : TabAt H d f n) (l : n ≤ m) : TabAt H d f m := by
  obtain ⟨k, e, l2, r⟩ := h
  exact ⟨k, e, Nat.le_trans l2 l, r⟩
theorem TabAt.get {H : Hp} {d t : Addr} {f : BF.Tab Str} {n : Nat} {x y : Str} (h : TabAt H d f n) (ht : H t = some (.tup [.str x, .str y])) : DGet H d (.ref t) ((f (x, y)).map V.int) := by
  obtain ⟨kvs, e, _, r⟩ := h
  have g := DGet.t (k := k2 x y) e ht
  rw [r x y] at g
  exact g
theorem TabAt.isD {H : Hp} {d : Addr} {f : BF.Tab Str} {n : Nat} (h : TabAt H d f n) : IsD H d := by
  obtain ⟨kvs, e, _⟩ := h
  exact .inr ⟨kvs, .inl e⟩
theorem TabAt.put {H : Hp} {d t : Addr} {f : BF.Tab Str} {n : Nat} {x y : Str} {v : Int} (h : TabAt H d f n) (hn : n < 1000000) (ht : H t = some (.tup [.str x, .str y])) :
    ∃ kvs : List (List Key × V), DPut H d (.ref t) (.int v) (upd H d (.dT kvs)) ∧ TabAt (upd H d (.dT kvs)) d (BF.put f (x, y) v) (n + 1) := by
  obtain ⟨kvs, e, l, r⟩ := h
  refine ⟨_, DPut.t (k := k2 x y) e ht (Nat.lt_of_lt_of_le (by omega : kvs.length < 1000000) (by decide)), _, upd_same, Nat.le_trans (length_putK _ _ _) (by omega), fun a b => ?_⟩
  rw [valV_put]
  by_cases q : (a, b) = (x, y)
  · rw [if_pos (k2_inj.mpr q), q, BF.put_same]
    rfl
  · rw [if_neg (fun z => q (k2_inj.mp z)), BF.put_ne q]
    exact r a b
theorem min_eq (i j : Int) : (if j < i then j else i) = min i j := by
  by_cases h : j < i
  · rw [if_pos h, Int.min_eq_right (by omega)]
  · rw [if_neg h, Int.min_eq_left (by omega)]
def spLSums (K : Frag) : Sp := fun vs H Q _ => ∃ (a : Addr) (ps : List Addr) (bds : List Bd), vs = [.ref a] ∧ BdsAt K H a ps bds ∧ bds.length ≤ 30 ∧
  ∀ H' q T, Same H H' → H q = none → T.Perm (tms bds) → TabAt H' q (BF.sums bds T) 1000000 → Q (.ref q) H'
theorem scLSums : FnScope ["bounds", "terms", "found", "one", "other", "most", "middle", "total"] ["bounds"] (defScope sLSums) := ⟨rfl, rfl, rfl, by decide +kernel, rfl, by decide +kernel, by decide +kernel⟩
theorem ok_lsums {f fA : Addr} {fd fdA : FuncData} (FP : FD K "_law_sums" sLSums f fd) (F : Dx mg) (gS : mg "sorted" = none) (gE : mg "set" = none)
    (FA : FD K "_law_all_terms" sLAll fA fdA) (gA : mg "_law_all_terms" = some (.ref fA)) (bA : Binds K fdA ["bounds"] []) : FnOk P w K mg bs CX0 2 f fd ["bounds"] (spLSums K) := by
  have sc := scLSums
  have GA : FnOk P w K mg bs CX0 1 fA fdA ["bounds"] (spLAll K) := ok_lall FA gS gE
  refine FP.ok scLSums (fun vs H Q E h => ?_) (fun cdv A outer s H vs Q E hr h => ?_)
  · obtain ⟨a, ps, bds, rfl, _⟩ := h
    rfl
  · obtain ⟨a, ps, bds, rfl, ha, hl, k⟩ := h
    have hu := hu_of hr
    refine ⟨_, pss_cons (ps_par (i := 1) (j := 2) rfl sc.nd rfl rfl (by decide) rfl rfl (pa_cons (pe_call GA hr (by rfl) gA FA.kp bA .nil pass0 (pa_cons (pv 0) pa_nil)) (pa_cons pe_dnewT pa_nil)) rfl)
      (pss_cons (ps_for PassesOwn.never rfl (pi_tup (pv 0)) (pg_tup rfl (pgs_cons (pg_name (i := 3) sc.nd rfl (Or.inl rfl)) (pgs_cons (pg_name (i := 4) sc.nd rfl (Or.inl rfl)) (pgs_cons (pg_name (i := 5) sc.nd rfl (Or.inl rfl)) pgs_nil))))
        (pss_one (ps_dput hu (pv 2) (pe_tup (pa_cons (pv 3) (pa_cons (pv 4) pa_nil))) (pe_callB (call_min2 rfl) (by rfl) F.min (by decide +kernel) (pa_cons (pe_callTy call_int1 (by rfl) F.int boot_int (pa_cons (pv 5) pa_nil))
          (pa_cons (pe_callTy call_int1 (by rfl) F.int boot_int (pa_cons (pe_dget2 hu (pv 2) (pe_tup (pa_cons (pv 3) (pa_cons (pv 4) pa_nil))) (pv 5) ⟨rfl, rfl, rfl, rfl⟩) pa_nil)) pa_nil))) rfl)))
      (pss_cons (ps_for PassesOwn.never rfl (pi_list (pv 1)) (pg_name (i := 6) sc.nd rfl (Or.inl rfl))
        (pss_one (ps_for PassesOwn.never rfl (pi_list (pv 1)) (pg_name (i := 3) sc.nd rfl (Or.inl rfl))
          (pss_one (ps_for PassesOwn.never rfl (pi_list (pv 1)) (pg_name (i := 4) sc.nd rfl (Or.inl rfl))
            (pss_one (ps_if (PW.pt (pw_and (pt_cmp (pc_din hu (pe_tup (pa_cons (pv 3) (pa_cons (pv 6) pa_nil))) (pv 2))) (pw_and1 (pt_cmp (pc_din hu (pe_tup (pa_cons (pv 6) (pa_cons (pv 4) pa_nil))) (pv 2))))))
              (pss_cons (ps_set (i := 7) sc.nd rfl (Or.inl rfl) (pe_op op_add (pe_dget hu (pv 2) (pe_tup (pa_cons (pv 3) (pa_cons (pv 6) pa_nil))) (fun _ _ => rfl)) (pe_dget hu (pv 2) (pe_tup (pa_cons (pv 6) (pa_cons (pv 4) pa_nil))) (fun _ _ => rfl))))
              (pss_one (ps_dput hu (pv 2) (pe_tup (pa_cons (pv 3) (pa_cons (pv 4) pa_nil))) (pe_callB (call_min2 rfl) (by rfl) F.min (by decide +kernel) (pa_cons (pe_callTy call_int1 (by rfl) F.int boot_int (pa_cons (pv 7) pa_nil))
                (pa_cons (pe_callTy call_int1 (by rfl) F.int boot_int (pa_cons (pe_dget2 hu (pv 2) (pe_tup (pa_cons (pv 3) (pa_cons (pv 4) pa_nil))) (pv 7) ⟨rfl, rfl, rfl, rfl⟩) pa_nil)) pa_nil))) rfl))) pss_nil)))))))
      (pss_one (ps_ret (pv 2))))), ?_⟩
    refine rd_seq ?_
    refine ⟨_, rfl, a, ps, bds, rfl, ha, hl, fun H1 L ys s1 hL0 hpm hso hL => ?_⟩
    refine fun d hd => ⟨_, _, rfl, ?_⟩
    have s2 : Same H1 (upd H1 d (.dT [])) := same_new hd
    have f2 : upd H1 d (.dT []) d = some (.dT []) := upd_same
    have hL2 := s2 _ _ hL
    have hd0 := s1.free hd
    have nLd : L ≠ d := fun z => by rw [z, hd] at hL; cases hL
    dsimp only
    generalize upd H1 d (.dT []) = H2 at s2 f2 hL2 ⊢
    have s12 := s1.trans s2
    have ha2 := ha.same s12
    refine rd_seq ?_
    refine ⟨_, rfl, a, rfl, ⟨_, ha2.1⟩, for_it (walk_tup (K := K) (a := a) (xs := ps.map V.ref)) (fun i σ H' => ∃ v3 v4 v5 : Option V, σ = [some (.ref a), some (.ref L), some (.ref d), v3, v4, v5, none, none] ∧ But d H2 H' ∧
      TabAt H' d ((bds.take i).foldl (fun f (b : Bd) => BF.lower f (b.1, b.2.1) b.2.2) (fun _ => none)) i) ⟨none, none, none, rfl, But.refl d H2, [], f2, Nat.le_refl _, fun x y => rfl⟩ (fun i σ H' _ u => ?_) ?_ ?_⟩
    · obtain ⟨_, _, _, rfl, kb, _⟩ := u
      exact sqt_butT f2 kb ha2.1
    · rintro i v σ H3 H4 hi ⟨v3, v4, v5, rfl, kb, tab⟩ ⟨rfl, hv⟩
      have hi1 : i < ps.length := by simpa using hi
      have hi2 : i < bds.length := by rw [← ha.2.1]; exact hi1
      rw [List.getElem?_map, List.getElem?_eq_getElem hi1] at hv
      cases hv
      have hb := sqt_butT f2 kb (ha2.2.2 i _ _ (List.getElem?_eq_getElem hi1) (List.getElem?_eq_getElem hi2)).1
      have et : (bds.take (i + 1)).foldl (fun f (b : Bd) => BF.lower f (b.1, b.2.1) b.2.2) (fun _ => none) = BF.lower ((bds.take i).foldl (fun f (b : Bd) => BF.lower f (b.1, b.2.1) b.2.2) (fun _ => none)) (bds[i].1, bds[i].2.1) bds[i].2.2 := by
        rw [List.take_succ, List.getElem?_eq_getElem hi2, List.foldl_append]
        rfl
      rw [et]
      generalize (bds.take i).foldl (fun f (b : Bd) => BF.lower f (b.1, b.2.1) b.2.2) (fun _ => none) = g at tab ⊢
      generalize bds[i] = b at hb ⊢
      obtain ⟨x, y, m⟩ := b
      refine ⟨_, _, rfl, hb, rfl, _, _, rfl, _, _, rfl, _, _, rfl, rfl, ?_⟩
      dsimp only
      refine ⟨_, rfl, .inl ⟨_, rfl, _, rfl, d, rfl, tab.isD, _, rfl, _, rfl, (by exact (by decide : 2 ≤ sizeLine)), fun t ht => ?_⟩⟩
      have s5 : Same H4 (upd H4 t (.tup [.str x, .str y])) := same_new ht
      have f5 : upd H4 t (.tup [.str x, .str y]) t = some (.tup [.str x, .str y]) := upd_same
      have tab5 := tab.same s5
      have kb5 := kb.trans (But.of (p := d) s5)
      dsimp only
      generalize upd H4 t (.tup [.str x, .str y]) = H5 at s5 f5 tab5 kb5 ⊢
      have gv : (((g (x, y)).map V.int).getD (V.int m)) = .int ((g (x, y)).getD m) := by cases g (x, y) <;> rfl
      refine ⟨_, rfl, _, tab5.get f5, ?_⟩
      rw [gv]
      refine .inl ⟨_, rfl, _, _, rfl, _, rfl, _, rfl, _, rfl, (by exact (by decide : 2 ≤ sizeLine)), fun t2 ht2 => ?_⟩
      have s6 : Same H5 (upd H5 t2 (.tup [.str x, .str y])) := same_new ht2
      have f6 : upd H5 t2 (.tup [.str x, .str y]) t2 = some (.tup [.str x, .str y]) := upd_same
      have tab6 := tab5.same s6
      have kb6 := kb5.trans (But.of (p := d) s6)
      dsimp only
      generalize upd H5 t2 (.tup [.str x, .str y]) = H6 at s6 f6 tab6 kb6 ⊢
      obtain ⟨kvs, dp, tab7⟩ := tab6.put (v := min m ((g (x, y)).getD m)) (by omega) f6
      refine ⟨d, _, rfl, by rw [min_eq]; exact dp, ?_⟩
      exact ⟨_, _, _, rfl, kb6.trans But.upd, tab7⟩
    · rintro σ H3 ⟨v3, v4, v5, rfl, kb, tab⟩
      rw [List.length_map, ha.2.1, List.take_length] at tab
      have e1 : bds.foldl (fun f (b : Bd) => BF.lower f (b.1, b.2.1) b.2.2) (fun _ => none) = BF.first bds := rfl
      rw [e1] at tab
      have hL3 := kb _ _ nLd hL2
      have hlen : ys.length < 64 := by rw [hpm.length_eq]; exact tms_lt hl
      dsimp only
      have fl : ∀ {β : Type} (f : β → Str → β) (s : β) (i : Nat) (h : i < ys.length), (ys.take (i + 1)).foldl f s = f ((ys.take i).foldl f s) ys[i] := fun f s i h => by
        rw [List.take_succ, List.getElem?_eq_getElem h, List.foldl_append]
        rfl
      refine rd_seq ?_
      refine ⟨_, rfl, L, rfl, ⟨_, SqL.of hL3⟩, for_it (walk_list (K := K) (a := L) (xs := ys.map V.str)) (fun i σ H' => ∃ v3 v4 v5 v6 v7 : Option V, σ = [some (.ref a), some (.ref L), some (.ref d), v3, v4, v5, v6, v7] ∧ But d H3 H' ∧
        TabAt H' d ((ys.take i).foldl (BF.stage ys) (BF.first bds)) (30 + 4096 * i)) ⟨_, _, _, _, _, rfl, But.refl d H3, tab.mono (by omega)⟩ (fun i σ H' _ u => ?_) ?_ ?_⟩
      · obtain ⟨_, _, _, _, _, rfl, kb, _⟩ := u
        exact SqL.of (kb _ _ nLd hL3)
      · rintro i v σ H4 H5 hi ⟨v3, v4, v5, v6, v7, rfl, kb4, tab4⟩ ⟨rfl, hv⟩
        have hi1 : i < ys.length := by simpa using hi
        rw [List.getElem?_map, List.getElem?_eq_getElem hi1] at hv
        cases hv
        rw [fl _ _ i hi1]
        generalize (ys.take i).foldl (BF.stage ys) (BF.first bds) = g0 at tab4 ⊢
        generalize ys[i] = m
        have hL5 := kb4 _ _ nLd hL3
        refine ⟨_, rfl, L, rfl, ⟨_, SqL.of hL5⟩, for_it (walk_list (K := K) (a := L) (xs := ys.map V.str)) (fun j σ H' => ∃ v3 v4 v5 v7 : Option V, σ = [some (.ref a), some (.ref L), some (.ref d), v3, v4, v5, some (.str m), v7] ∧ But d H3 H' ∧
          TabAt H' d ((ys.take j).foldl (BF.line ys m) g0) (30 + 4096 * i + 64 * j)) ⟨_, _, _, _, rfl, kb4, tab4.mono (by omega)⟩ (fun j σ H' _ u => ?_) ?_ ?_⟩
        · obtain ⟨_, _, _, _, rfl, kb, _⟩ := u
          exact SqL.of (kb _ _ nLd hL3)
        · rintro j v σ H6 H7 hj ⟨v3, v4, v5, v7, rfl, kb6, tab6⟩ ⟨rfl, hv⟩
          have hj1 : j < ys.length := by simpa using hj
          rw [List.getElem?_map, List.getElem?_eq_getElem hj1] at hv
          cases hv
          rw [fl _ _ j hj1]
          generalize (ys.take j).foldl (BF.line ys m) g0 = g1 at tab6 ⊢
          generalize ys[j] = x
          have hL7 := kb6 _ _ nLd hL3
          refine ⟨_, rfl, L, rfl, ⟨_, SqL.of hL7⟩, for_it (walk_list (K := K) (a := L) (xs := ys.map V.str)) (fun l σ H' => ∃ v4 v5 v7 : Option V, σ = [some (.ref a), some (.ref L), some (.ref d), some (.str x), v4, v5, some (.str m), v7] ∧ But d H3 H' ∧
            TabAt H' d ((ys.take l).foldl (BF.cell m x) g1) (30 + 4096 * i + 64 * j + l)) ⟨_, _, _, rfl, kb6, tab6⟩ (fun l σ H' _ u => ?_) ?_ ?_⟩
          · obtain ⟨_, _, _, rfl, kb, _⟩ := u
            exact SqL.of (kb _ _ nLd hL3)
          · rintro l v σ H8 H9 hlt ⟨v4, v5, v7, rfl, kb8, tab8⟩ ⟨rfl, hv⟩
            have hl1 : l < ys.length := by simpa using hlt
            rw [List.getElem?_map, List.getElem?_eq_getElem hl1] at hv
            cases hv
            rw [fl _ _ l hl1]
            generalize (ys.take l).foldl (BF.cell m x) g1 = g at tab8 ⊢
            generalize ys[l] = y
            refine rd_if ?_
            refine ⟨_, rfl, _, rfl, (by exact (by decide : 2 ≤ sizeLine)), fun t ht => ?_⟩
            have s5 := same_new (o := .tup [.str x, .str m]) ht
            have f5 : upd H9 t (.tup [.str x, .str m]) t = some (.tup [.str x, .str m]) := upd_same
            have tab5 := tab8.same s5
            have kb5 := kb8.trans (But.of (p := d) s5)
            dsimp only
            generalize upd H9 t (.tup [.str x, .str m]) = G1 at s5 f5 tab5 kb5 ⊢
            refine ⟨_, rfl, d, _, rfl, tab5.get f5, _, rfl, ?_⟩
            cases e1 : g (x, m) with
            | none =>
              refine Eq.mpr (if_neg (fun z => by cases z)) ?_
              refine Eq.mpr (if_neg (fun z => by cases z)) ?_
              refine ⟨_, _, _, rfl, kb5, ?_⟩
              have ec : BF.cell m x g y = g := by unfold BF.cell; rw [e1]
              rw [ec]
              exact tab5.mono (by omega)
            | some u1 =>
              refine Eq.mpr (if_pos rfl) ?_
              refine ⟨_, rfl, _, rfl, (by exact (by decide : 2 ≤ sizeLine)), fun t2 ht2 => ?_⟩
              have s6 := same_new (o := .tup [.str m, .str y]) ht2
              have f6 : upd G1 t2 (.tup [.str m, .str y]) t2 = some (.tup [.str m, .str y]) := upd_same
              have tab6 := tab5.same s6
              have kb6 := kb5.trans (But.of (p := d) s6)
              dsimp only
              generalize upd G1 t2 (.tup [.str m, .str y]) = G2 at s6 f6 tab6 kb6 ⊢
              refine ⟨_, rfl, d, _, rfl, tab6.get f6, _, rfl, ?_⟩
              cases e2 : g (m, y) with
              | none =>
                refine Eq.mpr (if_neg (fun z => by cases z)) ?_
                refine ⟨_, _, _, rfl, kb6, ?_⟩
                have ec : BF.cell m x g y = g := by unfold BF.cell; rw [e1, e2]
                rw [ec]
                exact tab6.mono (by omega)
              | some u2 =>
                refine Eq.mpr (if_pos rfl) ?_
                have ec : BF.cell m x g y = BF.lower g (x, y) (u1 + u2) := by unfold BF.cell; rw [e1, e2]
                rw [ec]
                refine rd_seq (rd_set ?_)
                refine ⟨_, rfl, _, rfl, _, rfl, (by exact (by decide : 2 ≤ sizeLine)), fun t3 ht3 => ?_⟩
                have s7 := same_new (o := .tup [.str x, .str m]) ht3
                have f7 : upd G2 t3 (.tup [.str x, .str m]) t3 = some (.tup [.str x, .str m]) := upd_same
                have tab7 := tab6.same s7
                have kb7 := kb6.trans (But.of (p := d) s7)
                dsimp only
                generalize upd G2 t3 (.tup [.str x, .str m]) = G3 at s7 f7 tab7 kb7 ⊢
                refine ⟨d, .int u1, rfl, (by have q := tab7.get f7; rw [e1] at q; exact q), ?_⟩
                refine ⟨_, rfl, _, rfl, _, rfl, (by exact (by decide : 2 ≤ sizeLine)), fun t4 ht4 => ?_⟩
                have s8 := same_new (o := .tup [.str m, .str y]) ht4
                have f8 : upd G3 t4 (.tup [.str m, .str y]) t4 = some (.tup [.str m, .str y]) := upd_same
                have tab8 := tab7.same s8
                have kb8 := kb7.trans (But.of (p := d) s8)
                dsimp only
                generalize upd G3 t4 (.tup [.str m, .str y]) = G4 at s8 f8 tab8 kb8 ⊢
                refine ⟨d, .int u2, rfl, (by have q := tab8.get f8; rw [e2] at q; exact q), _, _, rfl, rfl, ?_⟩
                dsimp only
                refine ⟨_, rfl, .inl ⟨_, rfl, _, rfl, d, rfl, tab8.isD, _, rfl, _, rfl, (by exact (by decide : 2 ≤ sizeLine)), fun t5 ht5 => ?_⟩⟩
                have s9 := same_new (o := .tup [.str x, .str y]) ht5
                have f9 : upd G4 t5 (.tup [.str x, .str y]) t5 = some (.tup [.str x, .str y]) := upd_same
                have tab9 := tab8.same s9
                have kb9 := kb8.trans (But.of (p := d) s9)
                dsimp only
                generalize upd G4 t5 (.tup [.str x, .str y]) = G5 at s9 f9 tab9 kb9 ⊢
                have gv : (((g (x, y)).map V.int).getD (V.int (u1 + u2))) = .int ((g (x, y)).getD (u1 + u2)) := by cases g (x, y) <;> rfl
                refine ⟨_, rfl, _, tab9.get f9, ?_⟩
                rw [gv]
                refine .inl ⟨_, rfl, _, _, rfl, _, rfl, _, rfl, _, rfl, (by exact (by decide : 2 ≤ sizeLine)), fun t6 ht6 => ?_⟩
                have s10 := same_new (o := .tup [.str x, .str y]) ht6
                have f10 : upd G5 t6 (.tup [.str x, .str y]) t6 = some (.tup [.str x, .str y]) := upd_same
                have tab10 := tab9.same s10
                have kb10 := kb9.trans (But.of (p := d) s10)
                dsimp only
                generalize upd G5 t6 (.tup [.str x, .str y]) = G6 at s10 f10 tab10 kb10 ⊢
                obtain ⟨kvs, dp, tab11⟩ := tab10.put (v := min (u1 + u2) ((g (x, y)).getD (u1 + u2))) (by omega) f10
                refine ⟨d, _, rfl, by rw [min_eq]; exact dp, ?_⟩
                exact ⟨_, _, _, rfl, kb10.trans But.upd, tab11.mono (by omega)⟩
          · rintro σ H8 ⟨v4, v5, v7, rfl, kb8, tab8⟩
            rw [List.length_map, List.take_length] at tab8
            exact ⟨_, _, _, _, rfl, kb8, TabAt.mono (f := BF.line ys m g1 x) tab8 (by omega)⟩
        · rintro σ H6 ⟨v3, v4, v5, v7, rfl, kb6, tab6⟩
          rw [List.length_map, List.take_length] at tab6
          exact ⟨_, _, _, _, _, rfl, kb6, TabAt.mono (f := BF.stage ys g0 m) tab6 (by omega)⟩
      · rintro σ H4 ⟨v3, v4, v5, v6, v7, rfl, kb4, tab4⟩
        rw [List.length_map, List.take_length] at tab4
        have sF : Same H H4 := fun b o q => kb4 b o (fun z => by rw [z, hd0] at q; cases q) (kb b o (fun z => by rw [z, hd0] at q; cases q) (s12 b o q))
        exact ⟨_, rfl, k H4 d ys sF hd0 hpm (TabAt.mono (f := BF.sums bds ys) tab4 (by omega))⟩
end
end L2.K04

set_option Elab.async false
set_option linter.all false
set_option maxRecDepth 100000
set_option maxHeartbeats 4000000
namespace L2.K04
open PySem PySem.Spec PyProof.Rows L2.Vx
open PySem.W (Frag)
/-! ### the law's own look at rings -/
section
variable {P : Program} {w : World} {K : Frag} {mg : Str → Option Value} {bs : Heap}
theorem in_perm {bds : List Bd} {T : List Str} (h : T.Perm (tms bds)) : ∀ b ∈ bds, b.1 ∈ T ∧ b.2.1 ∈ T := fun b hb => ⟨h.mem_iff.mpr (in_tms bds b hb).1, h.mem_iff.mpr (in_tms bds b hb).2⟩
def spLRing (K : Frag) : Sp := fun vs H Q _ => ∃ (a : Addr) (ps : List Addr) (bds : List Bd), vs = [.ref a] ∧ BdsAt K H a ps bds ∧ bds.length ≤ 30 ∧ ∀ H' (b : Bool), Same H H' → (b = true ↔ hasRing bds) → Q (.bl b) H'
theorem scLRing : FnScope ["bounds", "found", "term"] ["bounds"] (defScope sLRing) := ⟨rfl, rfl, rfl, by decide +kernel, rfl, by decide +kernel, by decide +kernel⟩
theorem ok_lring {f fS fA : Addr} {fd fdS fdA : FuncData} (FP : FD K "_law_has_ring" sLRing f fd) (gAny : mg "any" = none)
    (GS : FnOk P w K mg bs CX0 2 fS fdS ["bounds"] (spLSums K)) (kS : PySem.W.keepIn K (.ref fS) = true) (gS : mg "_law_sums" = some (.ref fS)) (bS : Binds K fdS ["bounds"] [])
    (GA : FnOk P w K mg bs CX0 1 fA fdA ["bounds"] (spLAll K)) (kA : PySem.W.keepIn K (.ref fA) = true) (gA : mg "_law_all_terms" = some (.ref fA)) (bA : Binds K fdA ["bounds"] []) : FnOk P w K mg bs CX0 3 f fd ["bounds"] (spLRing K) := by
  have sc := scLRing
  refine FP.ok scLRing (fun vs H Q E h => ?_) (fun cdv A outer s H vs Q E hr h => ?_)
  · obtain ⟨a, ps, bds, rfl, _⟩ := h
    rfl
  · obtain ⟨a, ps, bds, rfl, ha, hl, k⟩ := h
    have hu := hu_of hr
    have hr1 : Room 1 (A.deeper (envOfC "_law_has_ring" (defScope sLRing) s.heap.objs.size f cdv)) := hr.mono (by decide)
    refine ⟨_, pss_cons (ps_set (i := 1) sc.nd rfl (Or.inr rfl) (pe_call GS hr (by rfl) gS kS bS .nil pass0 (pa_cons (pv 0) pa_nil)))
      (pss_one (ps_ret (pe_callB (cr_any rfl) (by rfl) gAny boot_any (pa_cons
          (pe_lc (own := [("term", 2)]) (g := gName 2) (by rfl) sc.nd (pi_list (pe_call GA hr1 (by rfl) gA kA bA .nil pass0 (pa_cons (pv 0) pa_nil))) (blkOk_by (N := ["bounds", "found", "term"]) (sc := defScope sLRing) (by decide +kernel))
            (fun _ _ _ _ _ => pg_name (i := 2) sc.nd rfl (Or.inl rfl)) (fun _ _ _ _ _ => pts_nil)
            (fun _ _ _ _ _ => pe_cmpR op_lt (pe_dget2 hu (pv 1) (pe_tup (pa_cons (pv 2) (pa_cons (pv 2) pa_nil))) pe_int ⟨rfl, rfl, rfl, rfl⟩) pe_int (nomark _))) pa_nil)))), ?_⟩
    refine rd_seq (rd_set ?_)
    refine ⟨_, rfl, a, ps, bds, rfl, ha, hl, fun H1 d T s1 hd0 hT tab => ?_⟩
    dsimp only
    refine rd_ret ?_
    refine ⟨_, rfl, a, ps, bds, rfl, ha.same s1, hl, fun H2 L ys s2 hL0 hpm hso hL => ⟨L, rfl, ⟨_, SqL.of hL⟩, fun D hD => ?_⟩⟩
    have tab2 := tab.same s2
    have hlen : ys.length < 64 := by rw [hpm.length_eq]; exact tms_lt hl
    refine lc_it (walk_list (K := K) (a := L) (xs := ys.map V.str)) (fun i H' => Same H2 H' ∧ H' D = some (.lst (((ys.take i).map fun x => decide ((BF.sums bds T (x, x)).getD 0 < 0)).map V.bl))) ⟨same_new hD, upd_same⟩ (fun _ _ _ u => SqL.of (u.1 _ _ hL)) ?_ ?_
    · rintro i v H5 H6 hi ⟨s5, d5⟩ ⟨rfl, hv⟩
      have hi' : i < ys.length := by simpa using hi
      rw [List.getElem?_map, List.getElem?_eq_getElem hi'] at hv
      cases hv
      have et : ys.take (i + 1) = ys.take i ++ [ys[i]] := by rw [List.take_succ, List.getElem?_eq_getElem hi']; rfl
      rw [et]
      generalize ys[i] = x
      refine ⟨rfl, rd_yes rfl ?_⟩
      refine ⟨_, rfl, d, rfl, (tab2.same s5).isD, _, rfl, _, rfl, (by exact (by decide : 2 ≤ sizeLine)), fun t ht => ?_⟩
      have s6 := same_new (o := .tup [.str x, .str x]) ht
      have f6 : upd H6 t (.tup [.str x, .str x]) t = some (.tup [.str x, .str x]) := upd_same
      have tab6 := (tab2.same s5).same s6
      have d6 := s6 _ _ d5
      dsimp only
      generalize upd H6 t (.tup [.str x, .str x]) = H7 at s6 f6 tab6 d6 ⊢
      have gv : (((BF.sums bds T (x, x)).map V.int).getD (V.int 0)) = .int ((BF.sums bds T (x, x)).getD 0) := by cases BF.sums bds T (x, x) <;> rfl
      refine ⟨_, tab6.get f6, ?_⟩
      rw [gv]
      refine ⟨_, _, rfl, rfl, _, d6, ?_, (s5.trans s6).mut hD, ?_⟩
      · rw [List.length_map, List.length_map, List.length_take]
        exact Nat.lt_of_lt_of_le (by omega : _ < 64) (by decide)
      · rw [upd_same, List.map_append, List.map_append]
        rfl
    · rintro H5 ⟨s5, d5⟩
      rw [List.length_map, List.take_length] at d5
      refine ⟨D, _, rfl, SqL.of d5, k H5 _ ((s1.trans s2).trans s5) ?_⟩
      have hTT := in_perm hT
      rw [List.any_map, List.any_eq_true]
      show (∃ x ∈ ys, decide ((BF.sums bds T (x, x)).getD 0 < 0) = true) ↔ _
      constructor
      · rintro ⟨x, hx, hn⟩
        have hn := of_decide_eq_true hn
        refine (BF.ring_iff hTT).mpr ⟨x, hT.mem_iff.mpr (hpm.mem_iff.mp hx), ?_⟩
        cases e : BF.sums bds T (x, x) with
        | none => rw [e] at hn; exact absurd hn (by decide)
        | some v => rw [e] at hn; exact ⟨v, rfl, hn⟩
      · intro hR
        obtain ⟨x, hx, v, e, hv⟩ := (BF.ring_iff hTT).mp hR
        refine ⟨x, hpm.mem_iff.mpr (hT.mem_iff.mp hx), decide_eq_true ?_⟩
        rw [e]
        exact hv
end
end L2.K04

set_option Elab.async false
set_option linter.all false
set_option maxRecDepth 100000
set_option maxHeartbeats 4000000
namespace L2.K04
open PySem PySem.Spec PyProof.Rows L2.Vx
open PySem.W (Frag)
/-! ### plain texts -/
def plainS (x : Str) : Prop := ∀ c ∈ x.cps.toList, c < 256
theorem plainS.big {x : Str} (h : plainS x) : ∀ c ∈ x.cps.toList, c < 16 ^ 8 := fun c hc => Nat.lt_trans (h c hc) (by decide)
theorem plainS.ok {x : Str} (h : plainS x) : PyData.strOk x = true := by
  unfold PyData.strOk
  rw [← Array.all_toList, List.all_eq_true]
  exact fun c hc => decide_eq_true (Nat.lt_trans (h c hc) (by decide))
theorem str_show {x : Str} (h : plainS x) (l : x.length ≤ 100) : shOk (.str x) = true ∧ (PyData.str x).depth ≤ 60 ∧ (PyData.str x).shown.length ≤ sizeLine := by
  refine show_s (sOk_str h.big) ?_ ?_
  · show (0 : Nat) ≤ 60
    decide
  · show x.length ≤ 9000
    omega
end L2.K04

set_option Elab.async false
set_option linter.all false
set_option maxRecDepth 100000
set_option maxHeartbeats 4000000
namespace L2.K04
open PySem PySem.Spec PyProof.Rows L2.Vx
open PySem.W (Frag)
/-! ### rows of bounds: as data, one behind the other -/
theorem chain_first {x y : Str} {b : Bd} {cs : List Bd} (h : BF.Chain x y (b :: cs)) : b.1 = x := by
  generalize e : b :: cs = l at h
  cases h with
  | nil => cases e
  | cons w => rw [(List.cons.inj e).1]
theorem chain_adj : ∀ {cs : List Bd} {x y : Str}, BF.Chain x y cs → ∀ (i : Nat) (b c : Bd), cs[i]? = some b → cs[i + 1]? = some c → b.2.1 = c.1
  | _, _, _, .nil _, i, b, c, h, _ => by simp at h
  | _, _, _, .cons (b := d) (cs := cs) w, 0, b, c, h, k => by
    simp at h k
    subst h
    cases cs with
    | nil => simp at k
    | cons e cs =>
      simp at k
      subst k
      exact (chain_first w).symm
  | _, _, _, .cons (b := d) (cs := cs) w, i + 1, b, c, h, k => chain_adj w i b c (by simpa using h) (by simpa using k)
theorem chain_last : ∀ {cs : List Bd} {x y : Str}, BF.Chain x y cs → ∀ (ds : List Bd) (b : Bd), cs = ds ++ [b] → b.2.1 = y
  | _, _, _, .nil _, ds, b, h => by
    cases ds <;> cases h
  | _, _, _, .cons (b := d) (cs := cs) w, ds, b, h => by
    cases ds with
    | nil =>
      have e := List.cons.inj h
      rw [e.2] at w
      rw [← e.1]
      generalize hz : d.2.1 = z at w
      cases w
      rfl
    | cons e ds => exact chain_last w ds b (List.cons.inj h).2
def rowD (b : Bd) : PyData := .tuple [.str b.1, .str b.2.1, .int b.2.2]
def showR (d : PyData) : Prop := shOk d = true ∧ d.depth ≤ 60 ∧ d.shown.length ≤ sizeLine
structure rowOk (b : Bd) : Prop where
  p1 : plainS b.1
  p2 : plainS b.2.1
  l1 : b.1.length ≤ 20
  l2 : b.2.1.length ≤ 20
  n : b.2.2.natAbs < 10 ^ 90
theorem row_show {b : Bd} (h : rowOk b) : showR (rowD b) := by
  refine show_s (sOk_tuple (sOk_cons (sOk_str h.p1.big) (sOk_cons (sOk_str h.p2.big) (sOk_cons (sOk_int h.n) sOk_nil)))) ?_ ?_
  · unfold rowD
    simp [PyData.depth, PyData.depthAll]
  · unfold rowD
    simp only [PyData.bulk, PyData.bulkAll]
    have e1 : b.1.cps.size = b.1.length := rfl
    have e2 : b.2.1.cps.size = b.2.1.length := rfl
    have := h.l1
    have := h.l2
    omega
theorem rows_lay : ∀ {cs : List Bd}, (∀ c ∈ cs, rowOk c) → PyData.canLayAll0 (cs.map rowD) = true ∧ PyData.depthAll (cs.map rowD) ≤ 1
  | [], _ => ⟨rfl, Nat.zero_le _⟩
  | c :: cs, h => by
    obtain ⟨a, b⟩ := rows_lay fun d hd => h d (List.mem_cons_of_mem _ hd)
    have k := h c (List.mem_cons_self ..)
    refine ⟨?_, ?_⟩
    · rw [List.map_cons]
      unfold PyData.canLayAll0
      rw [a, Bool.and_true]
      unfold rowD
      simp [PyData.canLay0, PyData.canLayAll0, k.p1.ok, k.p2.ok]
    · rw [List.map_cons]
      unfold PyData.depthAll
      unfold rowD at b ⊢
      simp [PyData.depth, PyData.depthAll] at b ⊢
      exact Nat.max_le.mpr ⟨Nat.le_refl 1, b⟩
theorem rows_shaped {cs : List Bd} (h : ∀ c ∈ cs, rowOk c) : SeqAt.shaped (.tuple (cs.map rowD)) = true := by
  obtain ⟨a, b⟩ := rows_lay h
  unfold SeqAt.shaped
  have e1 : PyData.canLay0 (.tuple (cs.map rowD)) = true := by unfold PyData.canLay0; exact a
  rw [e1, Bool.true_and]
  refine decide_eq_true ?_
  unfold PyData.depth
  omega
theorem row_shaped {b : Bd} (h : rowOk b) : SeqAt.shaped (rowD b) = true := by
  unfold SeqAt.shaped
  have e1 : PyData.canLay0 (rowD b) = true := by
    unfold rowD
    simp [PyData.canLay0, PyData.canLayAll0, h.p1.ok, h.p2.ok]
  rw [e1, Bool.true_and]
  refine decide_eq_true ?_
  unfold rowD
  simp [PyData.depth, PyData.depthAll]
section
variable {P : Program} {w : World} {K : Frag} {mg : Str → Option Value} {bs : Heap}
theorem bd_data {H : Hp} {p : Addr} {b : Bd} (h : BdAt K H p b) : Dd K H (.ref p) (rowD b) := .tup h (.cons (.str _) (.cons (.str _) (.cons (.int _) .nil)))
theorem bd_dp {H : Hp} {p : Addr} {b : Bd} (h : BdAt K H p b) : Dp K H (.ref p) (rowD b) := .tup h (.cons (.str _) (.cons (.str _) (.cons (.int _) .nil)))
theorem rows_dp {H : Hp} {qs : List Addr} {cs : List Bd} (h : RowsAt K H qs cs) : DpAll K H (qs.map V.ref) (cs.map rowD) := by
  induction h with
  | nil => exact .nil
  | cons h t ih => exact .cons (bd_dp h) ih
theorem rows_get {H : Hp} {qs : List Addr} {cs : List Bd} (h : RowsAt K H qs cs) : ∀ (i : Nat) (p : Addr), qs[i]? = some p → ∃ b, cs[i]? = some b ∧ BdAt K H p b := by
  induction h with
  | nil => intro i p e; simp at e
  | @cons q c l1 l2 h t ih =>
    intro i p e
    cases i with
    | zero =>
      simp at e
      subst e
      exact ⟨c, rfl, h⟩
    | succ i =>
      obtain ⟨b, e2, hb⟩ := ih i p (by simpa using e)
      exact ⟨b, by simpa using e2, hb⟩
theorem paired_drop {α β : Type} {F : α → β → Prop} : ∀ {xs : List α} {ys : List β} (n : Nat), Paired F xs ys → Paired F (xs.drop n) (ys.drop n)
  | _, _, 0, h => h
  | _, _, _ + 1, .nil => .nil
  | _, _, n + 1, .cons _ t => paired_drop n t
theorem paired_take {α β : Type} {F : α → β → Prop} : ∀ {xs : List α} {ys : List β} (n : Nat), Paired F xs ys → Paired F (xs.take n) (ys.take n)
  | _, _, 0, _ => .nil
  | _, _, _ + 1, .nil => .nil
  | _, _, n + 1, .cons h t => .cons h (paired_take n t)
theorem paired_app {α β : Type} {F : α → β → Prop} : ∀ {xs us : List α} {ys vs : List β}, Paired F xs ys → Paired F us vs → Paired F (xs ++ us) (ys ++ vs)
  | _, _, _, _, .nil, k => k
  | _, _, _, _, .cons h t, k => .cons h (paired_app t k)
theorem rows_rot {H : Hp} {qs : List Addr} {cs : List Bd} (h : RowsAt K H qs cs) : RowsAt K H (qs.drop 1 ++ qs.take 1) (cs.drop 1 ++ cs.take 1) := paired_app (paired_drop 1 h) (paired_take 1 h)
end
end L2.K04

set_option Elab.async false
set_option linter.all false
set_option maxRecDepth 100000
set_option maxHeartbeats 4000000
namespace L2.K04
open PySem PySem.Spec PyProof.Rows L2.Vx
open PySem.W (Frag)
/-! ### a value of any kind -/
def odd1 : List PyData := [.none, .bool true, .bool false, .int 0, .int 1, .int (-1), .int (10 ^ 8), .str "", .str "a", .str "x", .str "fine", .tuple [], .list [], .dict [], .tuple [.int 0], .tuple [.tuple []], .list [.int 0], .tuple [.int 0, .int 0]]
def odd2 : List PyData := [.tuple [.tuple [.int 0, .int 0]], .tuple [.str "a", .str "b"], .tuple [.str "same", .str "a", .str "b"], .tuple [.tuple [.int 0, .bool true]], .tuple [.str "fine"], .tuple [.tuple [.str "fine"]], .str "0", .str "a!"]
section
variable {P : Program} {w : World} {K : Frag} {mg : Str → Option Value} {bs : Heap}
/-- what is away from p -/
def awy (p : Addr) (H : Hp) : Hp := fun a => if a = p then none else H a
theorem awy_le {p : Addr} {H : Hp} : Same (awy p H) H := fun b o e => by
  unfold awy at e
  by_cases h : b = p
  · rw [if_pos h] at e; cases e
  · rw [if_neg h] at e; exact e
theorem awy_but {p : Addr} {H H' : Hp} (k : But p H H') : Same (awy p H) (awy p H') := fun b o e => by
  unfold awy at e ⊢
  by_cases h : b = p
  · rw [if_pos h] at e; cases e
  · rw [if_neg h] at e ⊢; exact k _ _ h e
theorem nw_awy {p : Addr} {H H' : Hp} {o : HO} (h : H p = some o) : Same (nw H H') (awy p H') := fun b u e => by
  have n : b ≠ p := fun z => by rw [z, nw_old h] at e; cases e
  unfold awy
  rw [if_neg n]
  exact nw_le _ _ e
def spOdd (K : Frag) : Sp := fun vs H Q _ => ∃ (p : Addr) (k : Int), vs = [.ref p] ∧ k < 1000000 ∧ Pot H p k ∧ ∀ H' v d, But p H H' → Pot H' p (k + 1) → d ∈ odd1 ++ odd2 → Dd K (awy p H') v d → Q v H'
theorem scOdd : FnScope ["pot", "some"] ["pot"] (defScope sOdd) := ⟨rfl, rfl, rfl, by decide +kernel, rfl, by decide +kernel, by decide +kernel⟩
theorem gd_neg1 : GD K (tUn (rU fun i => .int (-i)) (tC (.int 1))) (.int (-1)) := fun σ H Q q => ⟨1, rfl, q (.int (-1)) H (Same.refl H) (.int _)⟩
theorem gd_op {r : R2} {i j n : Int} (h : ∀ (H : Hp) (Q : VK), Q (.int n) H → r (.int i) (.int j) H Q) : GD K (tOp r (tC (.int i)) (tC (.int j))) (.int n) := fun σ H Q q => h H Q (q (.int n) H (Same.refl H) (.int _))
theorem ddAll_app {H : Hp} : ∀ {xs ys : List V} {ds es : List PyData}, DdAll K H xs ds → DdAll K H ys es → DdAll K H (xs ++ ys) (ds ++ es)
  | _, _, _, _, .nil, h => h
  | _, _, _, _, .cons a t, h => .cons a (ddAll_app t h)
theorem ddAll_mem {H : Hp} {v : V} : ∀ {xs : List V} {ds : List PyData}, DdAll K H xs ds → v ∈ xs → ∃ d, d ∈ ds ∧ Dd K H v d
  | _, _, .nil, h => by cases h
  | _, _, .cons a t, h => by
    rcases List.mem_cons.mp h with rfl | h
    · exact ⟨_, by simp, a⟩
    · obtain ⟨d, h1, h2⟩ := ddAll_mem t h
      exact ⟨d, List.mem_cons_of_mem _ h1, h2⟩
theorem ok_odd {f fT fO : Addr} {fd fdT fdO : FuncData} (FP : FD K "_law_odd" sOdd f fd) (F : Dx mg) (FT : FD K "_law_take" sTake fT fdT) (gT : mg "_law_take" = some (.ref fT)) (bT : Binds K fdT ["pot", "upto"] [])
    (FO : FD K "_law_of" sOf fO fdO) (gO : mg "_law_of" = some (.ref fO)) (bO : Binds K fdO ["pot", "some"] []) : FnOk P w K mg bs CX0 3 f fd ["pot"] (spOdd K) := by
  have sc := scOdd
  have GO : FnOk P w K mg bs CX0 2 fO fdO ["pot", "some"] (spOf K) := ok_of FO F FT gT bT
  refine FP.ok scOdd (fun vs H Q E h => ?_) (fun cdv A outer s H vs Q E hr h => ?_)
  · obtain ⟨p, k, rfl, _⟩ := h
    rfl
  · obtain ⟨p, t, rfl, ht, hP, k⟩ := h
    refine ⟨_, pss_cons (ps_set (i := 1) sc.nd rfl (Or.inl rfl) (pe_lst (pa_cons pe_non (pa_cons pe_bl (pa_cons pe_bl (pa_cons pe_int (pa_cons pe_int (pa_cons (pe_un un_neg pe_int) (pa_cons (pe_op op_pow pe_int pe_int)
          (pa_cons pe_str (pa_cons pe_str (pa_cons pe_str (pa_cons pe_str (pa_cons (pe_tup pa_nil) (pa_cons (pe_lst pa_nil) (pa_cons pe_dnewK (pa_cons (pe_tup (pa_cons pe_int pa_nil)) (pa_cons (pe_tup (pa_cons (pe_tup pa_nil) pa_nil))
          (pa_cons (pe_lst (pa_cons pe_int pa_nil)) (pa_cons (pe_tup (pa_cons pe_int (pa_cons pe_int pa_nil))) pa_nil))))))))))))))))))))
      (pss_cons (ps_set (i := 1) sc.nd rfl (Or.inl rfl) (pe_op op_cat (pv 1) (pe_lst (pa_cons (pe_tup (pa_cons (pe_tup (pa_cons pe_int (pa_cons pe_int pa_nil))) pa_nil)) (pa_cons (pe_tup (pa_cons pe_str (pa_cons pe_str pa_nil)))
          (pa_cons (pe_tup (pa_cons pe_str (pa_cons pe_str (pa_cons pe_str pa_nil)))) (pa_cons (pe_tup (pa_cons (pe_tup (pa_cons pe_int (pa_cons pe_bl pa_nil))) pa_nil)) (pa_cons (pe_tup (pa_cons pe_str pa_nil)) (pa_cons (pe_tup (pa_cons (pe_tup (pa_cons pe_str pa_nil)) pa_nil))
          (pa_cons pe_str (pa_cons pe_str pa_nil)))))))))))
      (pss_one (ps_ret (pe_call GO hr (by rfl) gO FO.kp bO .nil pass0 (pa_cons (pv 0) (pa_cons (pv 1) pa_nil)))))), ?_⟩
    refine rd_seq (rd_set (rd_lst ?_))
    refine (ga_cons (gd_const fun _ => .non) (ga_cons (gd_const fun _ => .bl _) (ga_cons (gd_const fun _ => .bl _) (ga_cons (gd_const fun _ => .int _) (ga_cons (gd_const fun _ => .int _) (ga_cons gd_neg1
      (ga_cons (gd_op fun H Q q => ⟨_, _, rfl, rfl, ⟨by decide, by decide, by decide⟩, q⟩) (ga_cons (gd_const fun _ => .str _) (ga_cons (gd_const fun _ => .str _) (ga_cons (gd_const fun _ => .str _) (ga_cons (gd_const fun _ => .str _)
      (ga_cons (gd_tup ga_nil (by decide)) (ga_cons (gd_lst ga_nil (by decide)) (ga_cons gd_dnew (ga_cons (gd_tup (ga_cons (gd_const fun _ => .int _) ga_nil) (by decide)) (ga_cons (gd_tup (ga_cons (gd_tup ga_nil (by decide)) ga_nil) (by decide))
      (ga_cons (gd_lst (ga_cons (gd_const fun _ => .int _) ga_nil) (by decide)) (ga_cons (gd_tup (ga_cons (gd_const fun _ => .int _) (ga_cons (gd_const fun _ => .int _) ga_nil)) (by decide)) ga_nil)))))))))))))))))
      : GA K _ odd1) _ _ _ fun vs H1 s1 g1 => ?_
    have l1 : vs.length = 18 := ddAll_len g1
    refine ⟨Nat.le_trans (Nat.le_of_eq l1) (by decide), fun a ha => ?_⟩
    have s2 : Same H1 (upd H1 a (.lst vs)) := same_new ha
    have f2 : upd H1 a (.lst vs) a = some (.lst vs) := upd_same
    have g2 := ddAll_keep (nw_up s2) g1
    have sH2 := s1.trans s2
    have ha0 := s1.free ha
    generalize upd H1 a (.lst vs) = H2 at s2 f2 g2 sH2 ⊢
    dsimp only
    refine rd_seq (rd_set ?_)
    refine ⟨_, rfl, rd_lst ?_⟩
    refine (ga_cons (gd_tup (ga_cons (gd_tup (ga_cons (gd_const fun _ => .int _) (ga_cons (gd_const fun _ => .int _) ga_nil)) (by decide)) ga_nil) (by decide))
      (ga_cons (gd_tup (ga_cons (gd_const fun _ => .str _) (ga_cons (gd_const fun _ => .str _) ga_nil)) (by decide))
      (ga_cons (gd_tup (ga_cons (gd_const fun _ => .str _) (ga_cons (gd_const fun _ => .str _) (ga_cons (gd_const fun _ => .str _) ga_nil))) (by decide))
      (ga_cons (gd_tup (ga_cons (gd_tup (ga_cons (gd_const fun _ => .int _) (ga_cons (gd_const fun _ => .bl _) ga_nil)) (by decide)) ga_nil) (by decide))
      (ga_cons (gd_tup (ga_cons (gd_const fun _ => .str _) ga_nil) (by decide))
      (ga_cons (gd_tup (ga_cons (gd_tup (ga_cons (gd_const fun _ => .str _) ga_nil) (by decide)) ga_nil) (by decide))
      (ga_cons (gd_const fun _ => .str _) (ga_cons (gd_const fun _ => .str _) ga_nil))))))) : GA K _ odd2) _ _ _ fun ws H3 s3 g3 => ?_
    have l3 : ws.length = 8 := ddAll_len g3
    refine ⟨Nat.le_trans (Nat.le_of_eq l3) (by decide), fun b hb => ?_⟩
    have s4 : Same H3 (upd H3 b (.lst ws)) := same_new hb
    have f4 : upd H3 b (.lst ws) b = some (.lst ws) := upd_same
    have f5 := s4 _ _ (s3 _ _ f2)
    have g4 := ddAll_keep (nw_up s4) (ddAll_keep (nw_in sH2) g3)
    have g5 := ddAll_keep (nw_up s4) (ddAll_keep (nw_up s3) g2)
    have sH4 := (sH2.trans s3).trans s4
    generalize upd H3 b (.lst ws) = H4 at s4 f4 f5 g4 g5 sH4 ⊢
    refine ⟨a, b, vs, ws, rfl, rfl, f5, f4, by rw [l1, l3]; exact (by decide), fun c hc => ?_⟩
    have s6 : Same H4 (upd H4 c (.lst (vs ++ ws))) := same_new hc
    have f6 : upd H4 c (.lst (vs ++ ws)) c = some (.lst (vs ++ ws)) := upd_same
    have g6 := ddAll_keep (nw_up s6) (ddAll_app g5 g4)
    have sH6 := sH4.trans s6
    have hc0 := sH4.free hc
    generalize upd H4 c (.lst (vs ++ ws)) = H6 at s6 f6 g6 sH6 ⊢
    dsimp only
    obtain ⟨o, hpo⟩ := hP.some
    have nc : c ≠ p := hP.ne hc0
    refine ⟨_, rfl, _, rfl, p, c, _, t, rfl, nc, SqL.of f6, by rw [List.length_append]; omega, by rw [List.length_append]; omega, ht, hP.same sH6, fun H7 v k7 hP7 hv => ?_⟩
    obtain ⟨d, hd, hdv⟩ := ddAll_mem (ddAll_keep (nw_awy hpo) g6) hv
    exact k H7 v d ((But.of sH6).trans k7) hP7 hd (Dd_keep (awy_but k7) hdv)
end
end L2.K04

set_option Elab.async false
set_option linter.all false
set_option maxRecDepth 100000
set_option maxHeartbeats 40000000
namespace L2.Vx
open PySem PySem.Spec PyProof.Rows L2
open PySem.W (Frag)
/-! ### data whose tuples of worths are known to the object -/
def worthD : PyData → Option (Str × Int)
  | .tuple [.str x, .int v] => some (x, v)
  | _ => none
def wAll (ds : List PyData) : Bool := !ds.isEmpty && ds.all fun d => (worthD d).isSome
mutual
inductive Dw (K : Frag) (H : Hp) : V → PyData → Prop
  | non : Dw K H .non .none
  | bl (b : Bool) : Dw K H (.bl b) (.bool b)
  | int (i : Int) : Dw K H (.int i) (.int i)
  | str (x : Str) : Dw K H (.str x) (.str x)
  | lst {a : Addr} {xs : List V} {ds : List PyData} : SqL K H a xs → DwAll K H xs ds → Dw K H (.ref a) (.list ds)
  | tup {a : Addr} {xs : List V} {ds : List PyData} : SqT K H a xs → (wAll ds = true → PlT H a xs) → DwAll K H xs ds → Dw K H (.ref a) (.tuple ds)
inductive DwAll (K : Frag) (H : Hp) : List V → List PyData → Prop
  | nil : DwAll K H [] []
  | cons {v : V} {vs : List V} {d : PyData} {ds : List PyData} : Dw K H v d → DwAll K H vs ds → DwAll K H (v :: vs) (d :: ds)
end
section
variable {K : Frag}
theorem DwAll.len {H : Hp} : ∀ {vs : List V} {ds : List PyData}, DwAll K H vs ds → vs.length = ds.length
  | _, _, .nil => rfl
  | _, _, .cons _ t => congrArg (· + 1) t.len
mutual
theorem Dw_keep {H H' : Hp} (k : Same H H') : ∀ {x : V} {d : PyData}, Dw K H x d → Dw K H' x d
  | _, _, .non => .non
  | _, _, .bl b => .bl b
  | _, _, .int i => .int i
  | _, _, .str x => .str x
  | _, _, .lst h t => .lst (k.seq h) (dwAll_keep k t)
  | _, _, .tup h p t => .tup (k.tup h) (fun q => (p q).same k) (dwAll_keep k t)
theorem dwAll_keep {H H' : Hp} (k : Same H H') : ∀ {xs : List V} {ds : List PyData}, DwAll K H xs ds → DwAll K H' xs ds
  | _, _, .nil => .nil
  | _, _, .cons h t => .cons (Dw_keep k h) (dwAll_keep k t)
end
mutual
theorem Dw.dp {H : Hp} : ∀ {x : V} {d : PyData}, Dw K H x d → Dp K H x d
  | _, _, .non => .non
  | _, _, .bl b => .bl b
  | _, _, .int i => .int i
  | _, _, .str x => .str x
  | _, _, .lst h t => .lst h t.dp
  | _, _, .tup h _ t => .tup h t.dp
theorem DwAll.dp {H : Hp} : ∀ {xs : List V} {ds : List PyData}, DwAll K H xs ds → DpAll K H xs ds
  | _, _, .nil => .nil
  | _, _, .cons h t => .cons h.dp t.dp
end
theorem DwAll.get {H : Hp} : ∀ {vs : List V} {ds : List PyData} {i : Nat} {v : V}, DwAll K H vs ds → vs[i]? = some v → ∃ d, ds[i]? = some d ∧ Dw K H v d
  | _, _, _, _, .nil, h => by simp at h
  | _, _, 0, v, .cons (d := d) a t, h => by
    simp at h
    subst h
    exact ⟨d, rfl, a⟩
  | _, _, i + 1, v, .cons a t, h => by
    obtain ⟨d, e, q⟩ := t.get (i := i) (by simpa using h)
    exact ⟨d, by simpa using e, q⟩
theorem DwAll.app {H : Hp} : ∀ {xs ys : List V} {ds es : List PyData}, DwAll K H xs ds → DwAll K H ys es → DwAll K H (xs ++ ys) (ds ++ es)
  | _, _, _, _, .nil, h => h
  | _, _, _, _, .cons a t, h => .cons a (t.app h)
theorem DwAll.drop {H : Hp} : ∀ {xs : List V} {ds : List PyData} (n : Nat), DwAll K H xs ds → DwAll K H (xs.drop n) (ds.drop n)
  | _, _, 0, h => h
  | _, _, n + 1, .nil => .nil
  | _, _, n + 1, .cons a t => t.drop n
theorem DwAll.take {H : Hp} : ∀ {xs : List V} {ds : List PyData} (n : Nat), DwAll K H xs ds → DwAll K H (xs.take n) (ds.take n)
  | _, _, 0, h => by rw [List.take_zero, List.take_zero]; exact .nil
  | _, _, n + 1, .nil => .nil
  | _, _, n + 1, .cons a t => .cons a (t.take n)
theorem DwAll.rev {H : Hp} : ∀ {xs : List V} {ds : List PyData}, DwAll K H xs ds → DwAll K H xs.reverse ds.reverse
  | _, _, .nil => .nil
  | _, _, .cons a t => by
    rw [List.reverse_cons, List.reverse_cons]
    exact t.rev.app (.cons a .nil)
/-- the kind -/
def tyD : PyData → String
  | .none => "NoneType"
  | .bool _ => "bool"
  | .int _ => "int"
  | .str _ => "str"
  | .list _ => "list"
  | .tuple _ => "tuple"
  | .dict _ => "dict"
theorem Dw.ty {H : Hp} {v : V} {d : PyData} (h : Dw K H v d) : TyX K H v (.type (tyD d)) := by
  cases h with
  | non => exact .base .non
  | bl b => exact .base (.bl b)
  | int i => exact .base (.int i)
  | str x => exact .base (.str x)
  | lst h t => exact tyX_list h
  | tup h _ t => exact tyX_tup h
def isTupD : PyData → Bool | .tuple _ => true | _ => false
def isLstD : PyData → Bool | .list _ => true | _ => false
def isStrD : PyData → Bool | .str _ => true | _ => false
def isBlD : PyData → Bool | .bool _ => true | _ => false
def isIntD : PyData → Bool | .int _ => true | .bool _ => true | _ => false
theorem rd_isi {H : Hp} {v : V} {d : PyData} {T : String} {b : Bool} {Q : VK} (h : Dw K H v d) (hb : kitB (tyD d) T = some b) (k : Q (.bl b) H) : rIsi K [v, .ty T] H Q :=
  ⟨v, .ty T, _, _, b, rfl, .ty T, h.ty, kit_ty hb, k⟩
theorem kit_tup (d : PyData) : kitB (tyD d) "tuple" = some (isTupD d) := by
  cases d with
  | none => exact (by decide +kernel : kitB "NoneType" "tuple" = some false)
  | bool _ => exact (by decide +kernel : kitB "bool" "tuple" = some false)
  | int _ => exact (by decide +kernel : kitB "int" "tuple" = some false)
  | str _ => exact (by decide +kernel : kitB "str" "tuple" = some false)
  | list _ => exact (by decide +kernel : kitB "list" "tuple" = some false)
  | tuple _ => exact (by decide +kernel : kitB "tuple" "tuple" = some true)
  | dict _ => exact (by decide +kernel : kitB "dict" "tuple" = some false)
theorem kit_lst (d : PyData) : kitB (tyD d) "list" = some (isLstD d) := by
  cases d with
  | none => exact (by decide +kernel : kitB "NoneType" "list" = some false)
  | bool _ => exact (by decide +kernel : kitB "bool" "list" = some false)
  | int _ => exact (by decide +kernel : kitB "int" "list" = some false)
  | str _ => exact (by decide +kernel : kitB "str" "list" = some false)
  | list _ => exact (by decide +kernel : kitB "list" "list" = some true)
  | tuple _ => exact (by decide +kernel : kitB "tuple" "list" = some false)
  | dict _ => exact (by decide +kernel : kitB "dict" "list" = some false)
theorem kit_str (d : PyData) : kitB (tyD d) "str" = some (isStrD d) := by
  cases d with
  | none => exact (by decide +kernel : kitB "NoneType" "str" = some false)
  | bool _ => exact (by decide +kernel : kitB "bool" "str" = some false)
  | int _ => exact (by decide +kernel : kitB "int" "str" = some false)
  | str _ => exact (by decide +kernel : kitB "str" "str" = some true)
  | list _ => exact (by decide +kernel : kitB "list" "str" = some false)
  | tuple _ => exact (by decide +kernel : kitB "tuple" "str" = some false)
  | dict _ => exact (by decide +kernel : kitB "dict" "str" = some false)
theorem kit_bl (d : PyData) : kitB (tyD d) "bool" = some (isBlD d) := by
  cases d with
  | none => exact (by decide +kernel : kitB "NoneType" "bool" = some false)
  | bool _ => exact (by decide +kernel : kitB "bool" "bool" = some true)
  | int _ => exact (by decide +kernel : kitB "int" "bool" = some false)
  | str _ => exact (by decide +kernel : kitB "str" "bool" = some false)
  | list _ => exact (by decide +kernel : kitB "list" "bool" = some false)
  | tuple _ => exact (by decide +kernel : kitB "tuple" "bool" = some false)
  | dict _ => exact (by decide +kernel : kitB "dict" "bool" = some false)
theorem kit_int (d : PyData) : kitB (tyD d) "int" = some (isIntD d) := by
  cases d with
  | none => exact (by decide +kernel : kitB "NoneType" "int" = some false)
  | bool _ => exact (by decide +kernel : kitB "bool" "int" = some true)
  | int _ => exact (by decide +kernel : kitB "int" "int" = some true)
  | str _ => exact (by decide +kernel : kitB "str" "int" = some false)
  | list _ => exact (by decide +kernel : kitB "list" "int" = some false)
  | tuple _ => exact (by decide +kernel : kitB "tuple" "int" = some false)
  | dict _ => exact (by decide +kernel : kitB "dict" "int" = some false)
/-! how great it is -/
mutual
def szD (M S : Nat) : PyData → Bool
  | .none | .bool _ | .int _ => true
  | .str x => decide (x.length ≤ S)
  | .list ds | .tuple ds => decide (ds.length ≤ M) && szAll M S ds
  | .dict _ => false
def szAll (M S : Nat) : List PyData → Bool
  | [] => true
  | d :: ds => szD M S d && szAll M S ds
end
structure OkM (M S n : Nat) (d : PyData) : Prop where
  lay : d.canLay0 = true
  dep : d.depth ≤ n
  sz : szD M S d = true
abbrev OkD (n : Nat) (d : PyData) : Prop := OkM 4000000 1000 n d
def OkAll (M S n : Nat) (ds : List PyData) : Prop := PyData.canLayAll0 ds = true ∧ PyData.depthAll ds ≤ n ∧ szAll M S ds = true
variable {M S : Nat}
theorem okAll_nil (n : Nat) : OkAll M S n [] := ⟨rfl, Nat.zero_le _, rfl⟩
theorem okAll_cons {n : Nat} {d : PyData} {ds : List PyData} (h : OkM M S n d) (t : OkAll M S n ds) : OkAll M S n (d :: ds) := by
  obtain ⟨h1, h2, h3⟩ := h
  obtain ⟨t1, t2, t3⟩ := t
  refine ⟨?_, ?_, ?_⟩
  · simp only [PyData.canLayAll0, h1, t1, Bool.and_self]
  · simp only [PyData.depthAll]
    omega
  · simp only [szAll, h3, t3, Bool.and_self]
theorem okAll_inv {n : Nat} {d : PyData} {ds : List PyData} (h : OkAll M S n (d :: ds)) : OkM M S n d ∧ OkAll M S n ds := by
  obtain ⟨h1, h2, h3⟩ := h
  simp only [PyData.canLayAll0, Bool.and_eq_true] at h1
  simp only [PyData.depthAll] at h2
  simp only [szAll, Bool.and_eq_true] at h3
  exact ⟨⟨h1.1, by omega, h3.1⟩, h1.2, by omega, h3.2⟩
theorem okAll_of {n : Nat} : ∀ {ds : List PyData}, (∀ d ∈ ds, OkM M S n d) → OkAll M S n ds
  | [], _ => okAll_nil n
  | d :: ds, h => okAll_cons (h d (List.mem_cons_self ..)) (okAll_of fun e he => h e (List.mem_cons_of_mem _ he))
theorem okAll_mem {n : Nat} : ∀ {ds : List PyData}, OkAll M S n ds → ∀ d ∈ ds, OkM M S n d
  | [], _, d, h => by cases h
  | e :: ds, h, d, hd => by
    obtain ⟨h1, h2⟩ := okAll_inv h
    rcases List.mem_cons.mp hd with rfl | hd
    · exact h1
    · exact okAll_mem h2 d hd
theorem ok_tup {n : Nat} {ds : List PyData} (h : ∀ d ∈ ds, OkM M S n d) (l : ds.length ≤ M) : OkM M S (n + 1) (.tuple ds) := by
  obtain ⟨h1, h2, h3⟩ := okAll_of h
  refine ⟨?_, ?_, ?_⟩
  · simp only [PyData.canLay0]
    exact h1
  · simp only [PyData.depth]
    omega
  · simp only [szD, h3, decide_eq_true l, Bool.and_self]
theorem ok_lst {n : Nat} {ds : List PyData} (h : ∀ d ∈ ds, OkM M S n d) (l : ds.length ≤ M) : OkM M S (n + 1) (.list ds) := by
  obtain ⟨h1, h2, h3⟩ := okAll_of h
  refine ⟨?_, ?_, ?_⟩
  · simp only [PyData.canLay0]
    exact h1
  · simp only [PyData.depth]
    omega
  · simp only [szD, h3, decide_eq_true l, Bool.and_self]
theorem OkM.tup {n : Nat} {ds : List PyData} (h : OkM M S n (.tuple ds)) : (∀ d ∈ ds, OkM M S n d) ∧ ds.length ≤ M := by
  obtain ⟨h1, h2, h3⟩ := h
  simp only [PyData.canLay0] at h1
  simp only [PyData.depth] at h2
  simp only [szD, Bool.and_eq_true, decide_eq_true_eq] at h3
  exact ⟨okAll_mem ⟨h1, by omega, h3.2⟩, h3.1⟩
theorem OkM.lst {n : Nat} {ds : List PyData} (h : OkM M S n (.list ds)) : (∀ d ∈ ds, OkM M S n d) ∧ ds.length ≤ M := by
  obtain ⟨h1, h2, h3⟩ := h
  simp only [PyData.canLay0] at h1
  simp only [PyData.depth] at h2
  simp only [szD, Bool.and_eq_true, decide_eq_true_eq] at h3
  exact ⟨okAll_mem ⟨h1, by omega, h3.2⟩, h3.1⟩
theorem OkM.mono {n m : Nat} {d : PyData} (h : OkM M S n d) (l : n ≤ m) : OkM M S m d := ⟨h.lay, Nat.le_trans h.dep l, h.sz⟩
mutual
theorem szD_up {M2 S2 : Nat} (h1 : M ≤ M2) (h2 : S ≤ S2) : ∀ {d : PyData}, szD M S d = true → szD M2 S2 d = true
  | .none, _ => rfl
  | .bool _, _ => rfl
  | .int _, _ => rfl
  | .str x, h => by
    simp only [szD, decide_eq_true_eq] at h ⊢
    omega
  | .list ds, h => by
    simp only [szD, Bool.and_eq_true, decide_eq_true_eq] at h ⊢
    exact ⟨by omega, szAll_up h1 h2 h.2⟩
  | .tuple ds, h => by
    simp only [szD, Bool.and_eq_true, decide_eq_true_eq] at h ⊢
    exact ⟨by omega, szAll_up h1 h2 h.2⟩
  | .dict _, h => by simp only [szD] at h; cases h
theorem szAll_up {M2 S2 : Nat} (h1 : M ≤ M2) (h2 : S ≤ S2) : ∀ {ds : List PyData}, szAll M S ds = true → szAll M2 S2 ds = true
  | [], _ => rfl
  | d :: ds, h => by
    simp only [szAll, Bool.and_eq_true] at h ⊢
    exact ⟨szD_up h1 h2 h.1, szAll_up h1 h2 h.2⟩
end
theorem OkM.up {n M2 S2 : Nat} {d : PyData} (h : OkM M S n d) (h1 : M ≤ M2) (h2 : S ≤ S2) : OkM M2 S2 n d := ⟨h.lay, h.dep, szD_up h1 h2 h.sz⟩
theorem OkM.shaped {n : Nat} {d : PyData} (h : OkM M S n d) (l : n ≤ 64) : SeqAt.shaped d = true := by
  unfold SeqAt.shaped
  rw [h.lay, decide_eq_true (Nat.le_trans h.dep l)]
  rfl
theorem OkM.len {n : Nat} {x : Str} (h : OkM M S n (.str x)) : x.length ≤ S := by
  have := h.sz
  simp only [szD, decide_eq_true_eq] at this
  exact this
theorem ok_non (n : Nat) : OkM M S n .none := ⟨rfl, by simp [PyData.depth], rfl⟩
theorem ok_bl (n : Nat) (b : Bool) : OkM M S n (.bool b) := ⟨rfl, by simp [PyData.depth], rfl⟩
theorem ok_int (n : Nat) (i : Int) : OkM M S n (.int i) := ⟨rfl, by simp [PyData.depth], rfl⟩
theorem ok_str (n : Nat) {x : Str} (h : PyData.strOk x = true) (l : x.length ≤ S) : OkM M S n (.str x) := ⟨by simp only [PyData.canLay0]; exact h, by simp [PyData.depth], by simp only [szD, decide_eq_true l]⟩
end
end L2.Vx

set_option Elab.async false
set_option linter.all false
set_option maxRecDepth 100000
set_option maxHeartbeats 2000000
namespace L2.K04
open PySem PySem.Spec PyProof.Rows L2.Vx
open PySem.W (Frag)
/-! ### whether any value is an integer, a bound, a worth -/
def intD : PyData → Bool | .int _ => true | _ => false
def bdD : PyData → Option Bd
  | .tuple [.str x, .str y, .int m] => if termIn x && (termIn y && decide (x ≠ y)) then some (x, y, m) else none
  | _ => none
section
variable {P : Program} {w : World} {K : Frag} {mg : Str → Option Value} {bs : Heap}
theorem noStr_dw {H : Hp} {v : V} {d : PyData} (h : Dw K H v d) (hs : isStrD d = false) : NoStr K H v := ⟨_, h.ty, by rw [kit_str, hs]⟩
theorem dw_str {H : Hp} {v : V} {d : PyData} (h : Dw K H v d) (hs : isStrD d = true) : ∃ x : Str, v = .str x ∧ d = .str x := by
  cases h with
  | str x => exact ⟨x, rfl, rfl⟩
  | _ => cases hs
theorem dw_tup {H : Hp} {v : V} {d : PyData} (h : Dw K H v d) (hs : isTupD d = true) : ∃ (a : Addr) (xs : List V) (ds : List PyData), v = .ref a ∧ d = .tuple ds ∧ SqT K H a xs ∧ DwAll K H xs ds ∧ (wAll ds = true → PlT H a xs) := by
  cases h with
  | tup h p t => exact ⟨_, _, _, rfl, rfl, h, t, p⟩
  | _ => cases hs
def spIntG (K : Frag) : Sp := fun vs H Q _ => ∃ (v : V) (d : PyData), vs = [v] ∧ Dw K H v d ∧ Q (.bl (intD d)) H
theorem intD_eq (d : PyData) : intD d = (isIntD d && !isBlD d) := by cases d <;> rfl
theorem ok_intG {f : Addr} {fd : FuncData} (FP : FD K "is_integer" sIsInt f fd) (F : FxBd mg) : FnOk P w K mg bs CX0 1 f fd ["value"] (spIntG K) := by
  have sc := scInt
  refine FP.ok scInt (fun vs H Q E h => ?_) (fun cdv A outer s H vs Q E hr h => ?_)
  · obtain ⟨v, d, rfl, _⟩ := h
    rfl
  · obtain ⟨v, d, rfl, hd, k⟩ := h
    refine ⟨_, pss_one (ps_ret (pe_and (pe_callB call_isi (by rfl) F.isi boot_isinstance (pa_cons (pv 0) (pa_cons (pe_bltn (v := .ty "int") (by rfl) F.int boot_int rfl) pa_nil)))
      (pe_one (pe_not (pe_callB call_isi (by rfl) F.isi boot_isinstance (pa_cons (pv 0) (pa_cons (pe_bltn (v := .ty "bool") (by rfl) F.bool boot_bool rfl) pa_nil))))))), ?_⟩
    rw [intD_eq] at k
    refine ⟨_, rfl, v, .ty "int", _, _, isIntD d, rfl, .ty "int", hd.ty, kit_ty (kit_int d), _, rfl, ?_⟩
    cases hi : isIntD d with
    | false =>
      rw [hi] at k
      refine Eq.mpr (if_neg (by decide)) ?_
      exact k
    | true =>
      rw [hi] at k
      refine Eq.mpr (if_pos rfl) ?_
      exact ⟨_, rfl, v, .ty "bool", _, _, isBlD d, rfl, .ty "bool", hd.ty, kit_ty (kit_bl d), _, rfl, k⟩
def spIsBdG (K : Frag) : Sp := fun vs H Q _ => ∃ (v : V) (d : PyData) (n : Nat), vs = [v] ∧ Dw K H v d ∧ OkD n d ∧ ∀ H', Same H H' → Q (.bl (bdD d).isSome) H'
theorem bdD_no {d : PyData} (h : isTupD d = false) : bdD d = none := by
  cases d <;> first | rfl | cases h
theorem bdD_len {ds : List PyData} (h : ds.length ≠ 3) : bdD (.tuple ds) = none := by
  unfold bdD
  split
  · rename_i e
    cases PyData.tuple.inj e
    exact absurd rfl h
  · rfl
theorem bd_no1 {a b c : PyData} (h : isStrD a = false) : (bdD (.tuple [a, b, c])).isSome = false := by
  cases a <;> first | rfl | cases h
theorem bd_no2 {a b c : PyData} (h : isStrD b = false) : (bdD (.tuple [a, b, c])).isSome = false := by
  cases b <;> first | (exact (Bool.false_ne_true h.symm).elim) | (cases a <;> rfl)
theorem bd_no3 {a b c : PyData} (h : intD c = false) : (bdD (.tuple [a, b, c])).isSome = false := by
  cases c <;> first | (exact (Bool.false_ne_true h.symm).elim) | (cases a <;> first | rfl | (cases b <;> rfl))
theorem bd_two {x y : Str} {m : Int} : (bdD (.tuple [.str x, .str y, .int m])).isSome = (termIn x && (termIn y && decide (x ≠ y))) := by
  unfold bdD
  dsimp only
  split
  · rename_i h
    exact h.symm
  · rename_i h
    exact (Bool.not_eq_true _ ▸ h : _ = false).symm
theorem bd_no1t {x : Str} {b c : PyData} (h : termIn x = false) : (bdD (.tuple [.str x, b, c])).isSome = false := by
  cases hb : isStrD b with
  | false => exact bd_no2 hb
  | true =>
    cases hc : intD c with
    | false => exact bd_no3 hc
    | true =>
      cases b <;> first | (exact (Bool.false_ne_true hb).elim) | skip
      cases c <;> first | (exact (Bool.false_ne_true hc).elim) | skip
      rw [bd_two, h]
      rfl
theorem bd_no2t {x y : Str} {c : PyData} (h : (termIn y && decide (x ≠ y)) = false) : (bdD (.tuple [.str x, .str y, c])).isSome = false := by
  cases hc : intD c with
  | false => exact bd_no3 hc
  | true =>
    cases c <;> first | (exact (Bool.false_ne_true hc).elim) | skip
    rw [bd_two, h, Bool.and_false]
theorem dw_three {H : Hp} {xs : List V} {ds : List PyData} (h : DwAll K H xs ds) (l : xs.length = 3) : ∃ x1 x2 x3 d1 d2 d3, xs = [x1, x2, x3] ∧ ds = [d1, d2, d3] ∧ Dw K H x1 d1 ∧ Dw K H x2 d2 ∧ Dw K H x3 d3 := by
  cases h with
  | nil => cases l
  | cons h1 t => cases t with
    | nil => cases l
    | cons h2 t => cases t with
      | nil => cases l
      | cons h3 t => cases t with
        | nil => exact ⟨_, _, _, _, _, _, rfl, rfl, h1, h2, h3⟩
        | cons _ _ => simp at l
theorem dw_two {H : Hp} {xs : List V} {ds : List PyData} (h : DwAll K H xs ds) (l : xs.length = 2) : ∃ x1 x2 d1 d2, xs = [x1, x2] ∧ ds = [d1, d2] ∧ Dw K H x1 d1 ∧ Dw K H x2 d2 := by
  cases h with
  | nil => cases l
  | cons h1 t => cases t with
    | nil => cases l
    | cons h2 t => cases t with
      | nil => exact ⟨_, _, _, _, rfl, rfl, h1, h2⟩
      | cons _ _ => simp at l
theorem ok_isbdG {f fT fI fM fC : Addr} {fd fdT fdI fdM fdC : FuncData} (FP : FD K "is_bound" sIsBd f fd) (F : FxBd mg) (FTm : FxTerm mg) (FNm : FxName mg)
    (FT : FD K "is_term" sIsTerm fT fdT) (gT : mg "is_term" = some (.ref fT)) (bT : Binds K fdT ["value"] [])
    (FI : FD K "is_integer" sIsInt fI fdI) (gI : mg "is_integer" = some (.ref fI)) (bI : Binds K fdI ["value"] [])
    (FM : FD K "is_name" sIsName fM fdM) (gM : mg "is_name" = some (.ref fM)) (bM : Binds K fdM ["value"] [])
    (FC : FD K "consists_of" sCons fC fdC) (gC : mg "consists_of" = some (.ref fC)) (bC : Binds K fdC ["text", "signs"] []) : FnOk P w K mg bs CX0 4 f fd ["value"] (spIsBdG K) := by
  have sc := scIsBd
  have GT : FnOk P w K mg bs CX0 3 fT fdT ["value"] (spTerm K) := ok_term FT FTm FNm FM gM bM FC gC bC
  have GI : FnOk P w K mg bs CX0 1 fI fdI ["value"] (spIntG K) := ok_intG FI F
  refine FP.ok scIsBd (fun vs H Q E h => ?_) (fun cdv A outer s H vs Q E hr h => ?_)
  · obtain ⟨v, d, n, rfl, _⟩ := h
    rfl
  · obtain ⟨v, d, n, rfl, hd, hok, k⟩ := h
    have hr1 : Room 1 (A.deeper (envOfC "is_bound" (defScope sIsBd) s.heap.objs.size f cdv)) := hr.mono (by decide)
    refine ⟨_, pss_cons (ps_if (PW.pt (pw_or (pt_not (pt_val (pe_callB call_isi (by rfl) F.isi boot_isinstance (pa_cons (pv 0) (pa_cons (pe_bltn (v := .ty "tuple") (by rfl) F.tup boot_tuple rfl) pa_nil)))))
          (pw_or1 (pt_cmpR op_ne (pe_callB call_len_seq (by rfl) F.len boot_len (pa_cons (pv 0) pa_nil)) pe_int (nomark _))))) (pss_one (ps_ret pe_bl)) pss_nil)
      (pss_cons (ps_asg (pv 0) (pg_tup rfl (pgs_cons (pg_name (i := 1) sc.nd rfl (Or.inl rfl)) (pgs_cons (pg_name (i := 2) sc.nd rfl (Or.inl rfl)) (pgs_cons (pg_name (i := 3) sc.nd rfl (Or.inl rfl)) pgs_nil)))))
      (pss_one (ps_ret (pe_and (pe_call GT hr (by rfl) gT FT.kp bT .nil pass0 (pa_cons (pv 1) pa_nil)) (pe_and (pe_call GT hr (by rfl) gT FT.kp bT .nil pass0 (pa_cons (pv 2) pa_nil))
        (pe_and (pe_cmpR op_ne (pv 1) (pv 2) (nomark _)) (pe_one (pe_call GI hr1 (by rfl) gI FI.kp bI .nil pass0 (pa_cons (pv 3) pa_nil))))))))), ?_⟩
    refine rd_seq (rd_if ?_)
    refine ⟨_, rfl, v, .ty "tuple", _, _, isTupD d, rfl, .ty "tuple", hd.ty, kit_ty (kit_tup d), _, rfl, ?_⟩
    cases ht : isTupD d with
    | false =>
      refine Eq.mpr (if_pos rfl) ?_
      have q := k H (Same.refl H)
      rw [bdD_no ht] at q
      exact q
    | true =>
      refine Eq.mpr (if_neg (by decide)) ?_
      obtain ⟨a, xs, ds, rfl, rfl, hx, hall, _⟩ := dw_tup hd ht
      refine ⟨_, rfl, a, _, rfl, .inr hx, rfl, _, rfl, ?_⟩
      by_cases hl : xs.length = 3
      · refine Eq.mpr (if_neg (by rw [hl]; exact nt rfl)) ?_
        dsimp only [tNext]
        obtain ⟨x1, x2, x3, d1, d2, d3, rfl, rfl, h1, h2, h3⟩ := dw_three hall hl
        refine rd_seq ?_
        refine ⟨_, rfl, a, _, rfl, hx, rfl, _, _, rfl, _, _, rfl, _, _, rfl, rfl, ?_⟩
        dsimp only
        have hm := hok.tup.1
        have ok1 := hm d1 (by simp)
        have ok2 := hm d2 (by simp)
        cases hs1 : isStrD d1 with
        | false =>
          refine ⟨_, rfl, x1, rfl, .inl ⟨noStr_dw h1 hs1, fun H1 s1 => ⟨_, rfl, ?_⟩⟩⟩
          refine Eq.mpr (if_neg (by decide)) ?_
          have q := k H1 s1
          rw [bd_no1 hs1] at q
          exact q
        | true =>
          obtain ⟨x, rfl, rfl⟩ := dw_str h1 hs1
          refine ⟨_, rfl, .str x, rfl, .inr ⟨x, rfl, Nat.le_trans ok1.len (by decide), fun H1 s1 => ⟨_, rfl, ?_⟩⟩⟩
          cases t1 : termIn x with
          | false =>
            refine Eq.mpr (if_neg (by decide)) ?_
            have q := k H1 s1
            rw [bd_no1t t1] at q
            exact q
          | true =>
            refine Eq.mpr (if_pos rfl) ?_
            cases hs2 : isStrD d2 with
            | false =>
              refine ⟨_, rfl, x2, rfl, .inl ⟨noStr_dw (Dw_keep s1 h2) hs2, fun H2 s2 => ⟨_, rfl, ?_⟩⟩⟩
              refine Eq.mpr (if_neg (by decide)) ?_
              have q := k H2 (s1.trans s2)
              rw [bd_no2 hs2] at q
              exact q
            | true =>
              obtain ⟨y, rfl, rfl⟩ := dw_str h2 hs2
              refine ⟨_, rfl, .str y, rfl, .inr ⟨y, rfl, Nat.le_trans ok2.len (by decide), fun H2 s2 => ⟨_, rfl, ?_⟩⟩⟩
              have q := k H2 (s1.trans s2)
              cases t2 : termIn y with
              | false =>
                refine Eq.mpr (if_neg (by decide)) ?_
                rw [bd_no2t (by rw [t2]; rfl)] at q
                exact q
              | true =>
                refine Eq.mpr (if_pos rfl) ?_
                refine ⟨_, rfl, _, rfl, rfl, _, rfl, ?_⟩
                by_cases he : x = y
                · subst he
                  refine Eq.mpr (if_neg (nt rfl)) ?_
                  rw [bd_no2t (by rw [decide_eq_false (fun z => z rfl), Bool.and_false])] at q
                  exact q
                · refine Eq.mpr (if_pos (nf (fun q => he (V.str.inj q)))) ?_
                  refine ⟨_, rfl, x3, d3, rfl, Dw_keep (s1.trans s2) h3, ?_⟩
                  cases hi : intD d3 with
                  | false =>
                    rw [bd_no3 hi] at q
                    exact q
                  | true =>
                    cases d3 <;> first | (exact (Bool.false_ne_true hi).elim) | skip
                    rw [bd_two, t1, t2, decide_eq_true he] at q
                    exact q
      · refine Eq.mpr (if_pos (nf (fun q => hl (by have := V.int.inj q; omega)))) ?_
        have q := k H (Same.refl H)
        rw [bdD_len (by rw [← hall.len]; exact hl)] at q
        exact q
end
end L2.K04

set_option Elab.async false
set_option linter.all false
set_option maxRecDepth 100000
set_option maxHeartbeats 3200000
namespace L2.Vx
open PySem PySem.Spec PyProof.Rows L2
open PySem.W (Frag)
/-! ### a tuple in a dict whose keys are tuples -/
section
variable {X : Cx} {pins : List (Addr × Obj)} {σ : St} {H : Hp} {s : Shared}
theorem key_ofS {a : Addr} {ks : List Key} (I : Inv X pins σ H s) (e : SqT X.K H a (ks.map kV)) : (tupleKind (mixKind X.prog X.w)).is s.heap ks a := by
  obtain ⟨its, r, ⟨o, h1, h2, n, h3⟩, _⟩ := I.tuple e
  exact ⟨o, its.toArray, n, h1, h2, h3, by simpa using items_are r⟩
def tDInT (K : Frag) (ty td : TE) : TE := fun σ H Q => ty σ H fun y H1 => td σ H1 fun x H2 => ∃ a b kvs ks, x = .ref a ∧ y = .ref b ∧ H2 a = some (.dT kvs) ∧ SqT K H2 b (ks.map kV) ∧ Q (.bl (valV kvs ks).isSome) H2
theorem pc_dinT {i o : Expr} {ty td : TE} (hu : X.A.units + 1 < cLine) (hi : PE X i ty) (ho : PE X o td) : PC X .In i o (tDInT X.K ty td) := by
  refine ⟨fun pins s σ H Q I h => ?_⟩
  refine thn (hi.run pins s σ H _ I h) fun iv s1 ⟨y, H1, I1, ry, q1⟩ => thn (ho.run pins s1 σ H1 _ I1 q1) fun u s2 ⟨x, H2, I2, rx, a, b, kvs, ks, ex, ey, e, eb, q2⟩ => ?_
  subst ex ey
  cases ry
  obtain rfl : u = Value.ref a := rx
  obtain ⟨z, hd, xs, rel, dd⟩ := dt_rd I2.hok (.inl e)
  refine wpAny_in_heap (tupleKind_room_in1 hu) (key_ofS I2 eb) hd dd ?_
  have q := (rel.val ks).isSome_eq
  rw [Option.isSome_map] at q
  rw [← q]
  exact ⟨.bl (valV kvs ks).isSome, H2, I2.tok _, rfl, q2⟩
theorem pe_dinT {K : Frag} {i o : Expr} {pos : Pos} {ty td : TE} (hu : X.A.units + 1 < cLine) (hi : PE X i ty) (ho : PE X o td) (hK : K = X.K := by rfl) (h1 : behindInMarks .In o = false := by first | exact nobehind _ (by decide) (by decide) | rfl) : PE X (.Compare i [.In] [o] pos) (tDInT K ty td) := by
  subst hK
  exact pe_cmp (pc_dinT hu hi ho) h1
end
end L2.Vx

set_option Elab.async false
set_option linter.all false
set_option maxRecDepth 100000
set_option maxHeartbeats 4000000
namespace L2.K04
open PySem PySem.Spec PyProof.Rows L2.Vx
open PySem.W (Frag)
/-! ### bounds of any kind: refused, or taken -/
theorem bdD_row {d : PyData} {b : Bd} (h : bdD d = some b) : d = rowD b ∧ termIn b.1 = true ∧ termIn b.2.1 = true ∧ b.1 ≠ b.2.1 := by
  unfold bdD at h
  split at h
  · split at h
    · rename_i x y m c
      cases Option.some.inj h
      rw [Bool.and_eq_true, Bool.and_eq_true, decide_eq_true_eq] at c
      exact ⟨rfl, c.1, c.2.1, c.2.2⟩
    · cases h
  · cases h
theorem suffix_len2 (x : Str) : x.length ≤ (Txt.removesuffix x "!").length + 1 := by
  unfold Txt.removesuffix
  split
  · unfold Txt.affix
    dsimp only
    split
    · omega
    · unfold Builtin.Str.strSub
      show x.cps.size ≤ (Array.extract _ _ _).size + 1
      rw [Array.size_extract]
      have e : ("!" : Str).length = 1 := rfl
      have e2 : x.length = x.cps.size := rfl
      omega
  · unfold Txt.affix
    exact Nat.le_succ _
theorem termIn_len {x : Str} (h : termIn x = true) : x.length ≤ 20 := by
  unfold termIn at h
  rcases Bool.or_eq_true_iff.mp h with h | h
  · rw [of_decide_eq_true h]
    exact (by decide +kernel : ("0" : Str).length ≤ 20)
  · unfold nameIn at h
    have h2 := of_decide_eq_true (Bool.and_eq_true_iff.mp (Bool.and_eq_true_iff.mp h).2).1
    have := suffix_len2 x
    omega
theorem okBd_of {d : PyData} {b : Bd} (h : bdD d = some b) : okBd b := by
  obtain ⟨_, h1, h2, h3⟩ := bdD_row h
  exact ⟨termIn_len h1, termIn_len h2, h1, h2, h3⟩
def rightB : PyData → Bool | .tuple ds => ds.all fun d => (bdD d).isSome | _ => false
theorem right_rows : ∀ {ds : List PyData}, (ds.all fun d => (bdD d).isSome) = true → ∃ cs : List Bd, ds = cs.map rowD ∧ ∀ c ∈ cs, okBd c
  | [], _ => ⟨[], rfl, fun c h => by cases h⟩
  | d :: ds, h => by
    rw [List.all_cons, Bool.and_eq_true] at h
    obtain ⟨cs, e, q⟩ := right_rows h.2
    obtain ⟨b, hb⟩ := Option.isSome_iff_exists.mp h.1
    refine ⟨b :: cs, by rw [List.map_cons, ← e, (bdD_row hb).1], fun c hc => ?_⟩
    rcases List.mem_cons.mp hc with rfl | hc
    · exact okBd_of hb
    · exact q c hc
section
variable {P : Program} {w : World} {K : Frag} {mg : Str → Option Value} {bs : Heap}
theorem dw_row {H : Hp} {v : V} {b : Bd} (h : Dw K H v (rowD b)) : ∃ p : Addr, v = .ref p ∧ BdAt K H p b := by
  unfold rowD at h
  cases h with
  | tup hs _ ha =>
    cases ha with
    | cons a1 t1 => cases t1 with
      | cons a2 t2 => cases t2 with
        | cons a3 t3 =>
          cases t3
          cases a1
          cases a2
          cases a3
          exact ⟨_, rfl, hs⟩
theorem dw_rows {H : Hp} : ∀ {xs : List V} {cs : List Bd}, DwAll K H xs (cs.map rowD) → ∃ qs : List Addr, xs = qs.map V.ref ∧ RowsAt K H qs cs
  | xs, [], h => by
    cases h
    exact ⟨[], rfl, .nil⟩
  | xs, c :: cs, h => by
    rw [List.map_cons] at h
    cases h with
    | cons h1 t =>
      obtain ⟨qs, rfl, hq⟩ := dw_rows t
      obtain ⟨p, rfl, hp⟩ := dw_row h1
      exact ⟨p :: qs, rfl, .cons hp hq⟩
/-- a value that is given as bounds -/
def VI (K : Frag) (H : Hp) (v : V) (d : PyData) : Prop := (Dw K H v d ∧ OkD 40 d ∧ ∀ ds, d = .tuple ds → ds.length ≤ 30) ∨ (d = .dict [] ∧ ∀ H', Same H H' → TyX K H' v (.type "dict"))
theorem VI.same {H H' : Hp} {v : V} {d : PyData} (h : VI K H v d) (s : Same H H') : VI K H' v d := by
  rcases h with ⟨h1, h2, h3⟩ | ⟨h1, h2⟩
  · exact .inl ⟨Dw_keep s h1, h2, h3⟩
  · exact .inr ⟨h1, fun H'' s2 => h2 H'' (s.trans s2)⟩
theorem vi_right {H : Hp} {v : V} {d : PyData} (h : VI K H v d) (hr : rightB d = true) : ∃ (a : Addr) (ps : List Addr) (bds : List Bd), v = .ref a ∧ d = .tuple (bds.map rowD) ∧ BdsAt K H a ps bds ∧ bds.length ≤ 30 := by
  rcases h with ⟨h1, h2, h3⟩ | ⟨rfl, _⟩
  · have ht : isTupD d = true := by cases d <;> first | rfl | cases hr
    obtain ⟨a, xs, ds, rfl, rfl, hx, hall, _⟩ := dw_tup h1 ht
    obtain ⟨cs, rfl, hok⟩ := right_rows hr
    obtain ⟨qs, rfl, hR⟩ := dw_rows hall
    have hl := h3 _ rfl
    rw [List.length_map] at hl
    exact ⟨a, qs, cs, rfl, rfl, bdsAt_of hx hR hok, hl⟩
  · cases hr
/-- a value that is given as a term -/
def TI (K : Frag) (H : Hp) (v : V) (t : Option Str) : Prop := ((∀ H', Same H H' → NoStr K H' v) ∧ t = none) ∨ ∃ z : Str, v = .str z ∧ z.length ≤ 1000 ∧ t = some z
theorem TI.same {H H' : Hp} {v : V} {t : Option Str} (h : TI K H v t) (s : Same H H') : TI K H' v t := by
  rcases h with ⟨h1, h2⟩ | h
  · exact .inl ⟨fun H'' s2 => h1 H'' (s.trans s2), h2⟩
  · exact .inr h
def termO : Option Str → Bool | some z => termIn z | none => false
def spChkG (K : Frag) (CB : Addr) : Sp := fun vs H Q E => ∃ (v : V) (d : PyData), vs = [v] ∧ VI K H v d ∧ (rightB d = true → ∀ H', Same H H' → Q .non H') ∧ (rightB d = false → ∀ H' e, Same H H' → H' e = some (xv v) → E (.ref CB) (some e) H')
theorem scChkG : FnScope ["value", "bound"] ["value"] (defScope sChkB) := ⟨rfl, rfl, rfl, by decide +kernel, rfl, by decide +kernel, by decide +kernel⟩
theorem ok_chkG {f fB C fI : Addr} {fd fdB : FuncData} (FP : FD K "check_bounds" sChkB f fd) (F : FxBd mg) (gAll : mg "all" = none) (T : ErrT K C fI) (gBad : mg "BadBounds" = some (.ref C))
    (GB : FnOk P w K mg bs CX0 4 fB fdB ["value"] (spIsBdG K)) (kB : PySem.W.keepIn K (.ref fB) = true) (gB : mg "is_bound" = some (.ref fB)) (bB : Binds K fdB ["value"] []) : FnOk P w K mg bs (L2.CX P w) 5 f fd ["value"] (spChkG K C) := by
  have sc := scChkG
  refine FP.okX scChkG (fun vs H Q E h => ?_) (fun cdv A outer s H vs Q E hr h => ?_)
  · obtain ⟨v, d, rfl, _⟩ := h
    rfl
  · obtain ⟨v, d, rfl, hv, k1, k2⟩ := h
    refine ⟨_, pss_one (ps_if (PW.pt (pw_or (pt_not (pt_val (pe_callB call_isi (by rfl) F.isi boot_isinstance (pa_cons (pv 0) (pa_cons (pe_bltn (v := .ty "tuple") (by rfl) F.tup boot_tuple rfl) pa_nil))))) (pw_or1 (pt_not (pt_val (pe_callB (cr_all rfl) (by rfl) gAll boot_all (pa_cons (pe_lc (own := [("bound", 1)]) (g := gName 1) (by rfl) sc.nd (pi_tup (pv 0)) (blkOk_by (N := ["value", "bound"]) (sc := defScope sChkB) (by decide +kernel)) (fun _ _ _ _ _ => (pg_name (i := 1) sc.nd rfl (Or.inl rfl))) (fun _ _ _ _ _ => pts_nil) (fun _ _ _ _ _ => (pe_call GB hr (by rfl) gB kB bB .nil pass0 (pa_cons (pv 1) pa_nil)))) pa_nil))))))) (pss_one (ps_err rfl T gBad hr (takes_of rfl rfl rfl rfl) (pa_cons (pv 0) pa_nil))) pss_nil), ?_⟩
    have fin : ∀ H1, Same H H1 → rightB d = false → ∀ e, H1 e = none → E (.ref C) (some e) (upd H1 e (xv v)) := fun H1 s1 hR e he => k2 hR _ e (s1.trans (same_new he)) upd_same
    refine rd_if ?_
    rcases hv with ⟨hd, hok, hl⟩ | ⟨rfl, hT⟩
    · refine ⟨_, rfl, v, .ty "tuple", _, _, isTupD d, rfl, .ty "tuple", hd.ty, kit_ty (kit_tup d), _, rfl, ?_⟩
      cases ht : isTupD d with
      | false =>
        refine Eq.mpr (if_pos rfl) ?_
        have hR : rightB d = false := by cases d <;> first | rfl | cases ht
        exact ⟨_, rfl, _, rfl, fin H (Same.refl H) hR⟩
      | true =>
        refine Eq.mpr (if_neg (by decide)) ?_
        obtain ⟨q, xs, ds, rfl, rfl, hx, hall, _⟩ := dw_tup hd ht
        have hlen := hall.len
        obtain ⟨hmem, hl2⟩ := hok.tup
        refine ⟨_, rfl, q, rfl, ⟨_, hx⟩, fun D hD => lc_it (walk_tup (K := K) (a := q) (xs := xs)) (fun j H' => Same H H' ∧ H' D = some (.lst (((ds.take j).map fun d => (bdD d).isSome).map V.bl))) ⟨same_new hD, by rw [upd_same]; rfl⟩ (fun _ _ _ u => sqt_same u.1 hx) ?_ ?_⟩
        · rintro j u H5 H6 hj ⟨s5, d5⟩ ⟨rfl, hv⟩
          obtain ⟨e, he, hde⟩ := hall.get hv
          refine ⟨rfl, rd_yes rfl ?_⟩
          refine ⟨_, rfl, u, e, 40, rfl, Dw_keep s5 hde, (hmem e (List.mem_of_getElem? he)), fun H7 s7 => ⟨_, s7 _ _ d5, ?_, (s5.trans s7).mut hD, ?_⟩⟩
          · rw [List.length_map, List.length_map, List.length_take]
            exact Nat.lt_of_le_of_lt (Nat.min_le_right _ _) (Nat.lt_of_le_of_lt hl2 (by decide))
          · rw [upd_same, List.take_succ, he, List.map_append, List.map_append]
            rfl
        · rintro H5 ⟨s5, d5⟩
          refine ⟨D, _, rfl, SqL.of d5, ?_⟩
          rw [hlen, List.take_length, List.all_map]
          have eall : ds.all (id ∘ fun d => (bdD d).isSome) = rightB (.tuple ds) := rfl
          rw [eall]
          refine ⟨_, rfl, ?_⟩
          cases hw : rightB (.tuple ds) with
          | false =>
            refine Eq.mpr (if_pos rfl) ?_
            exact ⟨_, rfl, _, rfl, fin H5 s5 hw⟩
          | true =>
            refine Eq.mpr (if_neg (by decide)) ?_
            exact k1 hw H5 s5
    · refine ⟨_, rfl, v, .ty "tuple", _, _, false, rfl, .ty "tuple", hT _ (Same.refl _), kit_ty (by decide +kernel), _, rfl, ?_⟩
      refine Eq.mpr (if_pos rfl) ?_
      exact ⟨_, rfl, _, rfl, fin H (Same.refl H) rfl⟩
def spSetG (K : Frag) (CB : Addr) : Sp := fun vs H Q E => ∃ (v : V) (d : PyData), vs = [v] ∧ VI K H v d ∧ (rightB d = true → ∀ H' u, Same H H' → Q u H') ∧ (rightB d = false → ∀ H' e, Same H H' → H' e = some (xv v) → E (.ref CB) (some e) H')
theorem scSetG : FnScope ["bounds", "values", "ring"] ["bounds"] (defScope sSettled) := ⟨rfl, rfl, rfl, by decide +kernel, rfl, by decide +kernel, by decide +kernel⟩
theorem ok_setG {f fK fV CB : Addr} {fd fdK fdV : FuncData} (FP : FD K "settled" sSettled f fd)
    (GK : FnOk P w K mg bs (L2.CX P w) 5 fK fdK ["value"] (spChkG K CB)) (kK : PySem.W.keepIn K (.ref fK) = true) (gK : mg "check_bounds" = some (.ref fK)) (bK : Binds K fdK ["value"] [])
    (GV : FnOk P w K mg bs CX0 3 fV fdV ["bounds"] (spVals K)) (kV : PySem.W.keepIn K (.ref fV) = true) (gV : mg "values_or_ring" = some (.ref fV)) (bV : Binds K fdV ["bounds"] []) : FnOk P w K mg bs (L2.CX P w) 6 f fd ["bounds"] (spSetG K CB) := by
  have sc := scSetG
  refine FP.okX scSetG (fun vs H Q E h => ?_) (fun cdv A outer s H vs Q E hr h => ?_)
  · obtain ⟨v, d, rfl, _⟩ := h
    rfl
  · obtain ⟨v, d, rfl, hv, k1, k2⟩ := h
    have hr3 : Room 3 (A.deeper (envOfC "settled" (defScope sSettled) s.heap.objs.size f cdv)) := hr.mono (by decide)
    refine ⟨_, pss_cons (ps_expr (pe_callS GK hr (by rfl) gK kK bK (fun σ => passAt (takes_of rfl rfl rfl rfl) σ) (pa_cons (pv 0) pa_nil)))
      (pss_cons (ps_asg (pe_call GV hr3 (by rfl) gV kV bV .nil pass0 (pa_cons (pv 0) pa_nil)) (pg_tup rfl (pgs_cons (pg_name (i := 1) sc.nd rfl (Or.inl rfl)) (pgs_cons (pg_name (i := 2) sc.nd rfl (Or.inl rfl)) pgs_nil))))
      (pss_cons (ps_if (pt_cmpR op_notN (pv 2) pe_non (nomark _)) (pss_one (ps_ret (pe_tup (pa_cons pe_str (pa_cons (pv 2) pa_nil))))) pss_nil)
      (pss_one (ps_ret (pe_tup (pa_cons pe_str (pa_cons (pv 1) pa_nil))))))), ?_⟩
    refine rd_seq ?_
    refine ⟨_, rfl, v, d, rfl, hv, fun hR H1 s1 => ?_, fun hR H1 e s1 he => k2 hR H1 e s1 he⟩
    obtain ⟨a, ps, bds, rfl, rfl, ha, hl⟩ := vi_right (hv.same s1) hR
    dsimp only
    refine rd_seq ?_
    refine ⟨_, rfl, a, ps, bds, rfl, ha, hl, tms_lt hl, fun H2 t q qs ys val s2 ht hq hpm hso hpr hgv => ?_, fun H2 t q qs cs y s2 ht hq hrow hch hne hcs hsum hcl => ?_⟩
    · refine ⟨t, _, rfl, SqT.of ht, rfl, _, _, rfl, _, _, rfl, rfl, ?_⟩
      dsimp only
      refine rd_seq (rd_if ?_)
      refine ⟨_, rfl, rfl, _, rfl, ?_⟩
      refine Eq.mpr (if_neg (by decide)) ?_
      dsimp only [tNext]
      refine ⟨_, rfl, (by exact (by decide : 2 ≤ sizeLine)), fun t2 ht2 => ?_⟩
      exact k1 hR _ _ ((s1.trans s2).trans (same_new ht2))
    · refine ⟨t, _, rfl, SqT.of ht, rfl, _, _, rfl, _, _, rfl, rfl, ?_⟩
      dsimp only
      refine rd_seq (rd_if ?_)
      refine ⟨_, rfl, rfl, _, rfl, ?_⟩
      refine Eq.mpr (if_pos rfl) ?_
      refine ⟨_, rfl, (by exact (by decide : 2 ≤ sizeLine)), fun t2 ht2 => ?_⟩
      exact k1 hR _ _ ((s1.trans s2).trans (same_new ht2))
def spShowsN (K : Frag) (CB : Addr) : Sp := fun vs H Q E => ∃ (v : V) (d : PyData), vs = [v, .non] ∧ VI K H v d ∧ (rightB d = true → ∀ H' u, Same H H' → Q u H') ∧ (rightB d = false → ∀ H' e, Same H H' → H' e = some (xv v) → E (.ref CB) (some e) H')
abbrev shN : List Str := ["bounds", "value", "kind", "found", "known", "bound", "step"]
theorem scShowsN : FnScope shN ["bounds", "value"] (defScope sShows) := ⟨rfl, rfl, rfl, by decide +kernel, rfl, by decide +kernel, by decide +kernel⟩
theorem pss_dead {X : Cx} {ss : List Stmt} : PSs X ss (fun _ _ _ => False) := ⟨fun _ _ _ _ _ _ h => h.elim⟩
theorem ps_dead {X : Cx} {st : Stmt} : PS X st (fun _ _ _ => False) := ⟨fun _ _ _ _ _ _ h => h.elim⟩
theorem ok_showsN {f fK CB : Addr} {fd fdK : FuncData} (FP : FD K "shows_settled" sShows f fd) (F : FxBd mg)
    (GK : FnOk P w K mg bs (L2.CX P w) 5 fK fdK ["value"] (spChkG K CB)) (kK : PySem.W.keepIn K (.ref fK) = true) (gK : mg "check_bounds" = some (.ref fK)) (bK : Binds K fdK ["value"] []) : FnOk P w K mg bs (L2.CX P w) 6 f fd ["bounds", "value"] (spShowsN K CB) := by
  have sc := scShowsN
  refine FP.okX scShowsN (fun vs H Q E h => ?_) (fun cdv A outer s H vs Q E hr h => ?_)
  · obtain ⟨v, d, rfl, _⟩ := h
    rfl
  · obtain ⟨v, d, rfl, hv, k1, k2⟩ := h
    refine ⟨_, pss_cons (ps_expr (pe_callS GK hr (by rfl) gK kK bK (fun σ => passAt (takes_of rfl rfl rfl rfl) σ) (pa_cons (pv 0) pa_nil)))
      (pss_cons (ps_if (PW.pt (pw_or (pt_not (pt_val (pe_callB call_isi (by rfl) F.isi boot_isinstance (pa_cons (pv 1) (pa_cons (pe_bltn (v := .ty "tuple") (by rfl) F.tup boot_tuple rfl) pa_nil))))) (pw_or1 (pt_cmpR op_ne (pe_callB call_len_seq (by rfl) F.len boot_len (pa_cons (pv 1) pa_nil)) pe_int (nomark _))))) (pss_one (ps_ret pe_bl)) pss_nil) pss_dead), ?_⟩
    refine rd_seq ?_
    refine ⟨_, rfl, v, d, rfl, hv, fun hR H1 s1 => ?_, fun hR H1 e s1 he => k2 hR H1 e s1 he⟩
    dsimp only
    refine rd_seq (rd_if ?_)
    refine ⟨_, rfl, .non, .ty "tuple", .type "NoneType", _, false, rfl, .ty "tuple", .base .non, kit_ty (by decide +kernel), _, rfl, ?_⟩
    refine Eq.mpr (if_pos rfl) ?_
    exact k1 hR H1 _ s1
end
end L2.K04

set_option Elab.async false
set_option linter.all false
set_option maxRecDepth 100000
set_option maxHeartbeats 4000000
namespace L2.K04
open PySem PySem.Spec PyProof.Rows L2.Vx
open PySem.W (Frag)
/-! ### the least way, of any values -/
section
variable {P : Program} {w : World} {K : Frag} {mg : Str → Option Value} {bs : Heap}
structure FxErr (K : Frag) (mg : Str → Option Value) (CB CT CC fE : Addr) : Prop where
  bad : ErrT K CB fE
  gB : mg "BadBounds" = some (.ref CB)
  term : ErrT K CT fE
  gT : mg "BadTerm" = some (.ref CT)
  con : ErrT K CC fE
  gC : mg "Contrary" = some (.ref CC)
def spLeastG (K : Frag) (CB CT CC : Addr) : Sp := fun vs H Q E => ∃ (v : V) (d : PyData) (x y : V) (tx ty : Option Str), vs = [v, x, y] ∧ VI K H v d ∧ TI K H x tx ∧ TI K H y ty ∧
  (rightB d = false → ∀ H' e, Same H H' → H' e = some (xv v) → E (.ref CB) (some e) H') ∧
  (rightB d = true → termO tx = false → ∀ H' e, Same H H' → H' e = some (xv x) → E (.ref CT) (some e) H') ∧
  (rightB d = true → termO tx = true → (termO ty = false ∨ ty = tx) → ∀ H' e, Same H H' → H' e = some (xv y) → E (.ref CT) (some e) H') ∧
  (rightB d = true → termO tx = true → termO ty = true → ty ≠ tx → ∀ bds : List Bd, d = .tuple (bds.map rowD) → hasRing bds → ∀ H' e, Same H H' → H' e = some (xv v) → E (.ref CC) (some e) H') ∧
  (rightB d = true → termO tx = true → termO ty = true → ty ≠ tx → ∀ bds : List Bd, d = .tuple (bds.map rowD) → ¬ hasRing bds → ∀ H' u, Same H H' → Q u H')
theorem scLeast : FnScope ["bounds", "one", "other", "sums", "firsts", "_"] ["bounds", "one", "other"] (defScope sLeast) := ⟨rfl, rfl, rfl, by decide +kernel, rfl, by decide +kernel, by decide +kernel⟩
theorem ok_leastG {f fK fM fV fS fA fE CB CT CC : Addr} {fd fdK fdM fdV fdS fdA : FuncData} (FP : FD K "least_way" sLeast f fd) (FX : Fx03 mg) (FE : FxErr K mg CB CT CC fE)
    (GK : FnOk P w K mg bs (L2.CX P w) 5 fK fdK ["value"] (spChkG K CB)) (kK : PySem.W.keepIn K (.ref fK) = true) (gK : mg "check_bounds" = some (.ref fK)) (bK : Binds K fdK ["value"] [])
    (GM : FnOk P w K mg bs CX0 3 fM fdM ["value"] (spTerm K)) (kM : PySem.W.keepIn K (.ref fM) = true) (gM : mg "is_term" = some (.ref fM)) (bM : Binds K fdM ["value"] [])
    (GV : FnOk P w K mg bs CX0 3 fV fdV ["bounds"] (spVals K)) (kV : PySem.W.keepIn K (.ref fV) = true) (gV : mg "values_or_ring" = some (.ref fV)) (bV : Binds K fdV ["bounds"] [])
    (GS : FnOk P w K mg bs CX0 2 fS fdS ["bounds", "ends"] (spSums K)) (kS : PySem.W.keepIn K (.ref fS) = true) (gS : mg "least_sums" = some (.ref fS)) (bS : Binds K fdS ["bounds", "ends"] [])
    (GA : FnOk P w K mg bs CX0 1 fA fdA ["firsts", "one", "other"] (spAlong K)) (kA : PySem.W.keepIn K (.ref fA) = true) (gA : mg "way_along" = some (.ref fA)) (bA : Binds K fdA ["firsts", "one", "other"] []) :
    FnOk P w K mg bs (L2.CX P w) 6 f fd ["bounds", "one", "other"] (spLeastG K CB CT CC) := by
  have sc := scLeast
  refine FP.okX scLeast (fun vs H Q E h => ?_) (fun cdv A outer s H vs Q E hr h => ?_)
  · obtain ⟨v, d, x, y, tx, ty, rfl, _⟩ := h
    rfl
  · obtain ⟨v, d, vx, vy, ox, oy, rfl, hv, hx, hy, k1, k2, k3, k4, k5⟩ := h
    have hu := hu_of hr
    have hr1 : Room 1 (A.deeper (envOfC "least_way" (defScope sLeast) s.heap.objs.size f cdv)) := hr.mono (by decide)
    have hr2 : Room 2 (A.deeper (envOfC "least_way" (defScope sLeast) s.heap.objs.size f cdv)) := hr.mono (by decide)
    have hr3 : Room 3 (A.deeper (envOfC "least_way" (defScope sLeast) s.heap.objs.size f cdv)) := hr.mono (by decide)
    refine ⟨_, pss_cons (ps_expr (pe_callS GK hr (by rfl) gK kK bK (fun σ => passAt (takes_of rfl rfl rfl rfl) σ) (pa_cons (pv 0) pa_nil)))
      (pss_cons (ps_if (pt_not (pt_val (pe_call GM hr3 (by rfl) gM kM bM .nil pass0 (pa_cons (pv 1) pa_nil)))) (pss_one (ps_err rfl FE.term FE.gT hr (takes_of rfl rfl rfl rfl) (pa_cons (pv 1) pa_nil))) pss_nil)
      (pss_cons (ps_if (PW.pt (pw_or (pt_not (pt_val (pe_call GM hr3 (by rfl) gM kM bM .nil pass0 (pa_cons (pv 2) pa_nil)))) (pw_or1 (pt_cmpR op_eq (pv 2) (pv 1) (nomark _))))) (pss_one (ps_err rfl FE.term FE.gT hr (takes_of rfl rfl rfl rfl) (pa_cons (pv 2) pa_nil))) pss_nil)
      (pss_cons (ps_if (pt_cmpR op_notN (pe_ix ix_tup (pe_call GV hr3 (by rfl) gV kV bV .nil pass0 (pa_cons (pv 0) pa_nil)) pe_int (fun _ _ => rfl)) pe_non (nomark _)) (pss_one (ps_err rfl FE.con FE.gC hr (takes_of rfl rfl rfl rfl) (pa_cons (pv 0) pa_nil))) pss_nil)
      (pss_cons (ps_asg (pe_call GS hr2 (by rfl) gS kS bS .nil pass0 (pa_cons (pv 0) (pa_cons (pe_disp (pps_cons (pv 2) pe_int pps_nil) (by rfl) (by rfl) (fun z => by cases z) (by decide)) pa_nil)))
          (pg_tup rfl (pgs_cons (pg_name (i := 3) sc.nd rfl (Or.inl rfl)) (pgs_cons (pg_name (i := 4) sc.nd rfl (Or.inl rfl)) (pgs_cons (pg_name (i := 5) sc.nd rfl (Or.inl rfl)) pgs_nil)))))
      (pss_cons (ps_if (pt_cmp (pc_dnotin hu (pv 1) (pv 3))) (pss_one (ps_ret pe_non)) pss_nil)
      (pss_one (ps_ret (pe_tup (pa_cons (pe_dget hu (pv 3) (pv 1) (fun _ _ => rfl)) (pa_cons (pe_call GA hr1 (by rfl) gA kA bA .nil pass0 (pa_cons (pv 4) (pa_cons (pv 1) (pa_cons (pv 2) pa_nil)))) pa_nil)))))))))), ?_⟩
    refine rd_seq ?_
    refine ⟨_, rfl, v, d, rfl, hv, fun hR H1 s1 => ?_, fun hR H1 e s1 he => k1 hR H1 e s1 he⟩
    obtain ⟨a, ps, bds, rfl, rfl, ha1, hl⟩ := vi_right (hv.same s1) hR
    have h64 : (tms bds).length < 64 := tms_lt hl
    dsimp only [tNext]
    refine rd_seq (rd_if ?_)
    rcases hx.same s1 with ⟨hn, rfl⟩ | ⟨x, rfl, lx, rfl⟩
    · refine ⟨_, rfl, vx, rfl, .inl ⟨hn _ (Same.refl _), fun H2 s2 => ⟨_, rfl, ?_⟩⟩⟩
      refine Eq.mpr (if_pos rfl) ?_
      exact ⟨_, rfl, _, rfl, fun e he => k2 hR rfl _ e ((s1.trans s2).trans (same_new he)) upd_same⟩
    refine ⟨_, rfl, .str x, rfl, .inr ⟨x, rfl, Nat.le_trans lx (by decide), fun H2 s2 => ⟨_, rfl, ?_⟩⟩⟩
    cases tx : termIn x with
    | false =>
      refine Eq.mpr (if_pos rfl) ?_
      exact ⟨_, rfl, _, rfl, fun e he => k2 hR tx _ e ((s1.trans s2).trans (same_new he)) upd_same⟩
    | true =>
    refine Eq.mpr (if_neg (by decide)) ?_
    dsimp only [tNext]
    refine rd_seq (rd_if ?_)
    rcases hy.same (s1.trans s2) with ⟨hn, rfl⟩ | ⟨y, rfl, ly, rfl⟩
    · refine ⟨_, rfl, vy, rfl, .inl ⟨hn _ (Same.refl _), fun H3 s3 => ⟨_, rfl, ?_⟩⟩⟩
      refine Eq.mpr (if_pos rfl) ?_
      exact ⟨_, rfl, _, rfl, fun e he => k3 hR tx (.inl rfl) _ e (((s1.trans s2).trans s3).trans (same_new he)) upd_same⟩
    refine ⟨_, rfl, .str y, rfl, .inr ⟨y, rfl, Nat.le_trans ly (by decide), fun H3 s3 => ⟨_, rfl, ?_⟩⟩⟩
    cases ty : termIn y with
    | false =>
      refine Eq.mpr (if_pos rfl) ?_
      exact ⟨_, rfl, _, rfl, fun e he => k3 hR tx (.inl ty) _ e (((s1.trans s2).trans s3).trans (same_new he)) upd_same⟩
    | true =>
    refine Eq.mpr (if_neg (by decide)) ?_
    refine ⟨_, rfl, _, rfl, rfl, _, rfl, ?_⟩
    by_cases hyx : y = x
    · refine Eq.mpr (if_pos (decide_eq_true (by rw [hyx]))) ?_
      exact ⟨_, rfl, _, rfl, fun e he => k3 hR tx (.inr (by rw [hyx])) _ e (((s1.trans s2).trans s3).trans (same_new he)) upd_same⟩
    have hne0 : x ≠ y := fun z => hyx z.symm
    have hne : (some y : Option Str) ≠ some x := fun z => hyx (Option.some.inj z)
    refine Eq.mpr (if_neg (by rw [decide_eq_false (fun q => hyx (V.str.inj q))]; exact Bool.false_ne_true)) ?_
    dsimp only [tNext]
    have s13 := (s1.trans s2).trans s3
    have ha3 := ha1.same (s2.trans s3)
    refine rd_seq (rd_if ?_)
    refine ⟨_, rfl, a, ps, bds, rfl, ha3, hl, tms_lt hl, fun H4 t q qs ys val s4 ht hq hpm hso hpr hgv => ?_, fun H4 t q qs cs z s4 ht hq hrow hch hne2 hcs hsum _ => ?_⟩
    · have nr := ring_no hgv
      have no := noRing nr
      refine ⟨t, _, _, _, rfl, rfl, SqT.of ht, rfl, rfl, _, rfl, ?_⟩
      refine Eq.mpr (if_neg (by decide)) ?_
      dsimp only [tNext]
      have s14 := s13.trans s4
      have ha4 := ha1.same ((s2.trans s3).trans s4)
      refine rd_seq ?_
      refine ⟨_, rfl, fun p hp => ⟨_, rfl, upd_same, [(Sum.inr y, .int 0)], rfl, (by show 1 ≤ 15; decide), ?_⟩⟩
      have em : mergeK [] [((Sum.inr y : Key), V.int 0)] = [(Sum.inr y, V.int 0)] := rfl
      have s5 : Same H4 (upd (upd H4 p (.dK [])) p (.dK (mergeK [] [(Sum.inr y, V.int 0)]))) := (same_new hp).mut hp
      have f5 : upd (upd H4 p (.dK [])) p (.dK (mergeK [] [(Sum.inr y, V.int 0)])) p = some (.dK [(Sum.inr y, V.int 0)]) := upd_same
      dsimp only [tNil]
      generalize upd (upd H4 p (.dK [])) p (.dK (mergeK [] [(Sum.inr y, V.int 0)])) = H5 at s5 f5 ⊢
      have s15 := s14.trans s5
      refine ⟨a, p, ps, bds, BF.only y, rfl, ha4.same s5, hl, tms_lt hl, ⟨_, f5, (by show 1 ≤ 100; decide), fun z => ?_⟩, fun H6 t2 d e r s6 hr9 hor hs hf ht2 => ?_⟩
      · unfold BF.only
        by_cases hz : z = y
        · rw [if_pos hz, hz]
          exact valV_pos rfl
        · rw [if_neg hz]
          exact valV_neg (fun q => hz (Sum.inr.inj q).symm)
      · have hlow : (aft bds (BF.only y) (r + 1)).low = none := by
          rcases hor with q | q
          · exact q
          · exact BF.settles (in_tms bds) no (BF.only y) (fun _ => none) (r := r) (by have := tms_lt hl; omega)
        obtain ⟨rk1, rk2, rk⟩ := BF.round_kept (show (BF.round bds (aft bds (BF.only y) r).S (aft bds (BF.only y) r).F).low = none from hlow)
        have ok := BF.ok_after bds (BF.only y) r
        have had := BF.had_after bds (BF.only y) r
        have hs2 : SumsAt H6 d (aft bds (BF.only y) r).S 10000 := by rw [← rk1]; exact hs
        have hf2 : FstAt K H6 e (aft bds (BF.only y) r).F 10000 := by rw [← rk2]; exact hf
        obtain ⟨hle, e0⟩ := BF.least_of no (BF.real_after bds (BF.only y) (fun _ => none) r) (BF.le_after bds (BF.only y) (fun _ => none) r) rk x
        generalize (aft bds (BF.only y) r).S = S at hle e0 rk ok had hs2
        generalize (aft bds (BF.only y) r).F = F at ok had hf2
        have s16 := s15.trans s6
        refine ⟨t2, _, rfl, SqT.of ht2, rfl, _, _, rfl, _, _, rfl, _, _, rfl, rfl, ?_⟩
        obtain ⟨kd, ed, ld, hd⟩ := hs2
        refine rd_seq (rd_if ?_)
        have g := DGet.k (k := Sum.inr x) ed
        rw [hd x] at g
        refine ⟨_, rfl, _, rfl, d, _, rfl, g, _, rfl, ?_⟩
        cases hS : S x with
        | none =>
          refine Eq.mpr (if_pos rfl) ?_
          rw [hS] at hle
          exact k5 hR tx ty hne bds rfl nr H6 _ s16
        | some v =>
          refine Eq.mpr (if_neg (fun q => by cases q)) ?_
          dsimp only [tNext]
          rw [hS] at hle g
          obtain ⟨⟨n, w1⟩, _⟩ := id hle
          have hx : x ∈ tms bds := by
            rcases w1.ends with q | ⟨⟨b, hb, q⟩, _⟩
            · exact absurd q hne0
            · exact q ▸ (in_tms bds b hb).1
          obtain ⟨y2, u, m, hm, pw, _, u2, h02, _⟩ := BF.to_end (in_tms bds) no ok had hx hS
          obtain ⟨rfl, _⟩ := BF.only_iff h02
          refine rd_ret ?_
          refine ⟨_, rfl, _, rfl, d, _, rfl, g, _, rfl, _, rfl, _, rfl, e, x, y2, F, 10000, m, u, rfl, hf2, pw, by omega, fun H7 q7 qs7 cs s7 hq0 hq7 hrow pl hlen => ?_⟩
          refine ⟨(by exact (by decide : 2 ≤ sizeLine)), fun t3 ht3 => ?_⟩
          have s8 : Same H7 (upd H7 t3 (.tup [.int v, .ref q7])) := same_new ht3
          exact k5 hR tx ty hne bds rfl nr _ _ ((s16.trans s7).trans s8)
    · refine ⟨t, _, _, _, rfl, rfl, SqT.of ht, rfl, rfl, _, rfl, ?_⟩
      refine Eq.mpr (if_pos rfl) ?_
      refine ⟨_, rfl, _, rfl, fun d hd => ?_⟩
      exact k4 hR tx ty hne bds rfl (ring_yes hch hcs hsum) _ d ((s13.trans s4).trans (same_new hd)) upd_same
end
end L2.K04

set_option Elab.async false
set_option linter.all false
set_option maxRecDepth 100000
set_option maxHeartbeats 3200000
namespace L2.Vx
open PySem PySem.Spec PyProof.Rows L2
open PySem.W (Frag)
open LamX (CodeO Tabs TabS TabB ExtN LamS lamEnv lamCx inv_table codeO_ne among_app)
/-! ### lambdas that are kept, and called from within a comprehension -/
def LamO (f : Addr) (o : Obj) : HO := .ext fun h => h.get? f = some o
theorem lamO_tbl {f : Addr} {o : Obj} (ps : Array Value) : LamO f o ≠ .tbl ps := fun z => by
  unfold LamO at z
  cases z
abbrev lamQ (X : Cx) : Str := X.env.qual ++ "<lambda>"
/-- the object of a lambda that a def made -/
abbrev lamObj (X : Cx) (params : Arguments) (body : Expr) (scope : Scope) (pm : Value) (c' : Addr) (ctv : Value) : Obj := PySem.W.kla_obj "<lambda>" (lamQ X) params body scope (cloFrom X.env.cells scope.names []) pm c' ctv
section
variable {X : Cx} {pins : List (Addr × Obj)} {σ : St} {H HZ : Hp} {s s1 : Shared}
theorem tabs_up {T : List (Addr × Str)} {P : Addr} {q : Str} {H H' : Hp} {ps : Array Value} {c' : Addr} {pos : Pos} (hT : Tabs T H) (hu : ∀ p ∈ T, p.1 = P → p.2 = q) (hm : (P, q) ∈ T) (hP : H P = some (.tbl ps)) (e : ∀ b o, b ≠ P → H b = some o → H' b = some o)
    (eP : H' P = some (.tbl (ps ++ #[rawInt pos.line, rawInt pos.col, .ref c']))) (ec : H' c' = some (CodeO c' q)) : Tabs T H' := by
  have eX : ∀ b, H b = some (CodeO b q) → H' b = some (CodeO b q) := fun b h => e b _ (fun z => by
    rw [z, hP] at h
    exact codeO_ne ps (Option.some.inj h).symm) h
  intro p hp
  by_cases hb : p.1 = P
  · obtain ⟨ps', h1, h2, h3⟩ := hT _ hm
    have e0 : ps' = ps := by
      have h1 : H P = some (.tbl ps') := h1
      rw [hP] at h1
      cases h1
      rfl
    subst e0
    have eL : (ps' ++ #[rawInt pos.line, rawInt pos.col, .ref c']).toList = ps'.toList ++ [rawInt pos.line, rawInt pos.col, .ref c'] := by simp
    rw [hu p hp hb, hb]
    refine ⟨_, eP, by rw [eL]; exact PySem.TriplesOk_snoc _ _ _ _ h2, fun p' cv hcv => ?_⟩
    rw [eL] at hcv
    rcases among_app _ h2 hcv with z | z
    · obtain ⟨c0, e1, e2⟩ := h3 p' cv z
      exact ⟨c0, e1, eX c0 e2⟩
    · exact ⟨c', z, ec⟩
  · obtain ⟨ps', h1, h2, h3⟩ := hT p hp
    refine ⟨ps', e _ _ hb h1, h2, fun p' cv hcv => ?_⟩
    obtain ⟨c0, e1, e2⟩ := h3 p' cv hcv
    refine ⟨c0, e1, e _ _ (fun z => ?_) e2⟩
    rw [z, hP] at e2
    exact codeO_ne ps (Option.some.inj e2).symm
/-- the lambda as a value, its object known from then on -/
theorem lam_kept {T : List (Addr × Str)} {c P : Addr} {params : Arguments} {body : Expr} {scope : Scope} {pos : Pos} {E : Value → Shared → Prop} {Q : Value → Shared → Prop} (I : Inv X pins σ H s) (TB : TabB X.base X.mg c P) (hcode : X.env.code = .ref c)
    (hm : (P, lamQ X) ∈ T) (hu : ∀ p ∈ T, p.1 = P → p.2 = lamQ X) (hT : Tabs T H) (hdef : defaultsOf params X.env = ([], [])) (hfree : ∀ y ∈ scope.names, y.2 = .free → ∃ c, X.env.cells.lookup y.1 = some c)
    (h : ∀ (f c' : Addr) (pm ctv : Value) (H1 : Hp) (s' : Shared), Inv X pins σ H1 s' → ExtN H H1 → Tabs T H1 → H f = none → H1 f = some (LamO f (lamObj X params body scope pm c' ctv)) → H1 c' = some (CodeO c' (lamQ X)) → Q (.ref f) s') :
    wpAny (model X.prog X.w) X.A (eval (.Lambda params body scope pos) X.env) Q E s := by
  obtain ⟨ps, hP, ht, ha⟩ := hT _ hm
  have bP := TB.bm.keeps I.bk
  have hP' : s.heap.get? P = some { cls := .none, data := .fields ps } := I.hok P _ hP
  have known : ∀ {G : Hp} {hp : Heap} {o : Obj}, o.isFreed = false → ObjOk X.prog X.w (upd G hp.objs.size (LamO hp.objs.size o)) (hp.push o) hp.objs.size (LamO hp.objs.size o) := fun {G hp o} ho =>
    ⟨Heap.get?_push_size _ ho, ⟨o, Heap.get?_push_size _ ho⟩, fun h1 h2 e st => st _ e⟩
  refine PySem.W.kla_eval hdef ?_
  cases hc : codeAmong pos ps.toList with
  | none =>
    refine PySem.W.kla_makeFunction (mg := X.mg) (c := c) (P := P) (ps := ps) (closure_ok hfree) I.ok.glob (I.mod.glob.keeps I.bk) hcode (TB.code.keeps I.bk) hP' ht hc TB.gP bP fun c' ctv h' tk hx hge hlt hrec htb => ?_
    obtain ⟨c2, oc, vs, t, e2, hoc, hd, hv⟩ := hrec
    cases e2
    have nC : H c' = none := I.hok.fresh hge
    have nF : H h'.objs.size = none := I.hok.fresh (Nat.le_trans hge (Nat.le_of_lt hlt))
    have nPc : P ≠ c' := ne_of_none hP nC
    have nPf : P ≠ h'.objs.size := ne_of_none hP nF
    have ncf : c' ≠ h'.objs.size := Nat.ne_of_lt hlt
    have I0 := inv_table (t' := tk) (more := #[rawInt pos.line, rawInt pos.col, .ref c']) (h' := h') I hP hx htb hge ⟨oc, vs, t, hoc, hd, hv⟩
    have I1 := I0.laid (t' := tk) (o := LamO h'.objs.size (lamObj X params body scope ((X.mg "__name__").getD .none) c' ctv)) (fun b o e => Heap.get?_push_of_some (lamObj X params body scope ((X.mg "__name__").getD .none) c' ctv) e) (Nat.le_refl _) (known rfl)
    have at_ : ∀ b o, b ≠ P → H b = some o → upd (upd (upd H P (.tbl (ps ++ #[rawInt pos.line, rawInt pos.col, .ref c']))) c' (CodeO c' (lamQ X))) h'.objs.size (LamO h'.objs.size (lamObj X params body scope ((X.mg "__name__").getD .none) c' ctv)) b = some o := fun b o nb e => by
      rw [upd_ne (ne_of_none e nF), upd_ne (ne_of_none e nC), upd_ne nb]
      exact e
    have ec : upd (upd (upd H P (.tbl (ps ++ #[rawInt pos.line, rawInt pos.col, .ref c']))) c' (CodeO c' (lamQ X))) h'.objs.size (LamO h'.objs.size (lamObj X params body scope ((X.mg "__name__").getD .none) c' ctv)) c' = some (CodeO c' (lamQ X)) := by rw [upd_ne ncf, upd_same]
    have eP : upd (upd (upd H P (.tbl (ps ++ #[rawInt pos.line, rawInt pos.col, .ref c']))) c' (CodeO c' (lamQ X))) h'.objs.size (LamO h'.objs.size (lamObj X params body scope ((X.mg "__name__").getD .none) c' ctv)) P = some (.tbl (ps ++ #[rawInt pos.line, rawInt pos.col, .ref c'])) := by rw [upd_ne nPf, upd_ne nPc, upd_same]
    refine h h'.objs.size c' _ ctv _ _ I1 (fun b o e n => at_ b o (fun z => ?_) e) (tabs_up hT hu hm hP at_ eP ec) nF upd_same ec
    rw [z, hP] at e
    exact n ps (Option.some.inj e).symm
  | some cv =>
    obtain ⟨c', e, hco⟩ := ha pos cv hc
    subst e
    refine PySem.W.kla_makeFunctionHit (mg := X.mg) (c := c) (P := P) (ps := ps) (closure_ok hfree) I.ok.glob (I.mod.glob.keeps I.bk) hcode (TB.code.keeps I.bk) hP' ht hc bP fun ctv h' tk hx hsz => ?_
    have I0 : Inv X pins σ H { s with heap := h', toks := tk } := I.kept hx
    have nF : H h'.objs.size = none := I.hok.fresh hsz
    have I1 := I0.laid (t' := tk) (o := LamO h'.objs.size (lamObj X params body scope ((X.mg "__name__").getD .none) c' ctv)) (fun b o e => Heap.get?_push_of_some (lamObj X params body scope ((X.mg "__name__").getD .none) c' ctv) e) (Nat.le_refl _) (known rfl)
    have sm : Same H (upd H h'.objs.size (LamO h'.objs.size (lamObj X params body scope ((X.mg "__name__").getD .none) c' ctv))) := same_new nF
    exact h h'.objs.size c' _ ctv _ _ I1 (ExtN.of sm) (hT.ext sm) nF upd_same (sm _ _ hco)
def tLamK (X : Cx) (T : List (Addr × Str)) (params : Arguments) (body : Expr) (scope : Scope) : TE := fun _ H Q => Tabs T H ∧ ∀ (f c' : Addr) (pm ctv : Value) (H1 : Hp), ExtN H H1 → Tabs T H1 → H f = none → H1 f = some (LamO f (lamObj X params body scope pm c' ctv)) → H1 c' = some (CodeO c' (lamQ X)) → Q (.ref f) H1
theorem pe_lamK {T : List (Addr × Str)} {c P : Addr} {params : Arguments} {body : Expr} {scope : Scope} {pos : Pos} (TB : TabB X.base X.mg c P) (hcode : X.env.code = .ref c)
    (hm : (P, lamQ X) ∈ T) (hu : ∀ p ∈ T, p.1 = P → p.2 = lamQ X) (hdef : defaultsOf params X.env = ([], [])) (L : LamS X.env.scope scope) : PE X (.Lambda params body scope pos) (tLamK X T params body scope) := by
  refine ⟨fun pins s σ H Q I h => ?_⟩
  obtain ⟨hT, h⟩ := h
  exact lam_kept I TB hcode hm hu hT hdef (L.has I.ok) fun f c' pm ctv H1 s' I1 eN T1 nF hf hc => ⟨.ref f, H1, I1, rfl, h f c' pm ctv H1 eN T1 nF hf hc⟩
end
end L2.Vx

set_option Elab.async false
set_option linter.all false
set_option maxRecDepth 100000
set_option maxHeartbeats 3200000
namespace L2.Vx
open PySem PySem.Spec PyProof.Rows L2
open PySem.W (Frag)
open LamX (CodeO Tabs TabS TabB ExtN LamS lamEnv lamCx)
/-! ### a kept lambda's call -/
section
variable {X : Cx} {pins : List (Addr × Obj)} {σ : St} {H HZ : Hp} {s s1 : Shared}
/-- a lambda's body begins: what its def knew at s still stands in its cells -/
theorem lam_begin {A : Around} {outer : List Env} {E : XK} {scope : Scope} {f c' : Addr} {h₁ : Heap} {tk : Nat} (I : Inv X pins σ H s) (L : LamS X.env.scope scope) (e0 : Env0 X.prog X.w X.K X.mg X.base A outer s1 HZ) (hd : A.handled = none)
    (cellP : ∀ {y : Str} {c : Addr} {v : Option Value}, X.env.cells.lookup y = some c → s.heap.IsCell c v → s1.heap.IsCell c v ∧ HZ c = none)
    (hns : h₁.Ns s1.heap.objs.size fun y => ([] : List (Str × Value)).reverse.lookup y) (kp : ∀ b o, s1.heap.get? b = some o → h₁.get? b = some o) :
    Inv (lamCx X A outer s1 HZ E scope f c') [] σ HZ { s1 with heap := h₁, toks := tk } := by
  have free_ := L.has I.ok
  have back : ∀ {y c}, (cloFrom X.env.cells scope.names []).lookup y = some c → X.env.cells.lookup y = some c := fun {y c} e => by
    rcases cloFrom_mem (PySem.mem_of_lookup e) with hm | ⟨h1, h2⟩
    · cases hm
    · obtain ⟨c1, hc⟩ := free_ _ h1 rfl
      have hc : X.env.cells.lookup y = some c1 := hc
      obtain rfl : c = c1 := by rw [h2, hc] <;> rfl
      exact hc
  have there : ∀ {y}, scope.names.lookup y = some .free → ∃ c, (cloFrom X.env.cells scope.names []).lookup y = some c := fun {y} hl =>
    mem_lookup (cloFrom_has (cells := X.env.cells) (acc := []) (PySem.mem_of_lookup hl))
  have keptC : ∀ {y c v}, X.env.cells.lookup y = some c → s.heap.IsCell c v → h₁.IsCell c v := fun {y c v} e z => by
    obtain ⟨o, ho, hdt⟩ := (cellP e z).1
    exact ⟨o, kp _ _ ho, hdt⟩
  have none_ : ∀ b : Addr, b ∉ (lamCx X A outer s1 HZ E scope f c').ex := fun b z => absurd (show b ∈ ([] : List Addr) from z) (by simp)
  have own_ : ∀ {y : Str}, scope.names.lookup y ≠ some .local ∧ scope.names.lookup y ≠ some .cell := fun {y} => ⟨fun k => (L.own _ (PySem.mem_of_lookup k)).1 rfl, fun k => (L.own _ (PySem.mem_of_lookup k)).2 rfl⟩
  have hok : (lamCx X A outer s1 HZ E scope f c').Ok :=
    { mod := e0.mod, kind := L.kind, glob := rfl, blt := rfl, above := Nat.le_refl _, inj := fun y z c e1 e2 => I.ok.inj y z c (back e1) (back e2),
      has := fun y hy => by
        rcases (show scope.names.lookup y = some .cell ∨ scope.names.lookup y = some .free from hy) with k | k
        · exact absurd k own_.2
        · exact there k
      cab := fun y c z _ => absurd (show false = true from z) Bool.false_ne_true, hd := fun _ => hd, frames := Around.frames_deeper e0.frames, stk := .inr ⟨rfl, rfl⟩, exf := fun b z => absurd z (none_ b), bs := e0.bs, bsz := e0.bsz,
      noex := fun b _ _ => none_ b, exfs := fun b z => absurd z (none_ b), funs := e0.funs, frf := e0.frf }
  refine ⟨hok, rfl, e0.bare, Un.kept kp, ⟨_, hns, fun i y v e1 e2 e3 => ?_⟩, fun y c e => ?_, e0.hok.fresh (Nat.le_refl _), fun y c e => ?_, fun q hq => absurd (show q ∈ ([] : List (Addr × Obj)) ++ [] from hq) (by simp), e0.hok.kept kp, I.len⟩
  · rcases (show Vis scope y from e3) with k | k | k
    · exact absurd k own_.1
    · exact absurd k own_.2
    · obtain ⟨m, hn, hl⟩ := I.loc
      have hcf := L.free _ (PySem.mem_of_lookup k) rfl
      obtain ⟨u, r, q⟩ := hl i y v e1 e2 (hcf.elim (fun z => .inr (.inl z)) fun z => .inr (.inr z))
      obtain ⟨c2, h2⟩ := there k
      refine ⟨u, r, .inr ⟨.inr k, c2, h2, ?_⟩⟩
      rcases q with ⟨k', _⟩ | ⟨_, c3, e', z⟩
      · have k' : X.env.scope.names.lookup y = some .local := k'
        have kx := hcf
        rw [k'] at kx
        rcases kx with z | z <;> cases z
      · have c1 := back h2
        rw [c1] at e'
        cases e'
        exact keptC c1 z
  · obtain ⟨v, z⟩ := I.cell y c (back e)
    exact ⟨v, keptC (back e) z⟩
  · obtain ⟨v, z⟩ := I.cell y c (back e)
    exact (cellP (back e) z).2
/-- a lambda that is kept at f, its reading t -/
def LamAt (X : Cx) (k : Nat) (f : Addr) (t : XK → TE) (H : Hp) : Prop := ∃ (params : Arguments) (body : Expr) (scope : Scope) (pm : Value) (c' : Addr) (ctv : Value), H f = some (LamO f (lamObj X params body scope pm c' ctv)) ∧ H c' = some (CodeO c' (lamQ X)) ∧ LamS X.env.scope scope ∧
  (∀ (q : Str) (cl : List (Str × Addr)) (pm cv ctv : Value), bindArgs (PySem.W.kla_fn "<lambda>" q params body scope cl pm cv ctv) ⟨[], []⟩ = pure []) ∧
  ∀ (A : Around) (outer : List Env) (s : Shared) (H : Hp) (E : XK) (f c' : Addr), Room k (A.deeper (lamEnv X scope s.heap.objs.size f c')) → PE (lamCx X A outer s H E scope f c') body (t E)
theorem LamAt.same {k : Nat} {f : Addr} {t : XK → TE} {H' : Hp} (h : LamAt X k f t H) (e : Same H H') : LamAt X k f t H' := by
  obtain ⟨pa, b, sc, pm, c', ctv, h1, h2, r⟩ := h
  exact ⟨pa, b, sc, pm, c', ctv, e _ _ h1, e _ _ h2, r⟩
theorem LamAt.extN {k : Nat} {f : Addr} {t : XK → TE} {H' : Hp} (h : LamAt X k f t H) (e : ExtN H H') : LamAt X k f t H' := by
  obtain ⟨pa, b, sc, pm, c', ctv, h1, h2, r⟩ := h
  exact ⟨pa, b, sc, pm, c', ctv, e _ _ h1 lamO_tbl, e _ _ h2 LamX.codeO_ne, r⟩
/-- its call by the name of a slot, in a def that is called from where the def that made it stood at s -/
theorem pe_actK {Ng : List Str} {qg : Str} {sg : Scope} {g f : Addr} {cdg : Value} {k i : Nat} {a : Str} {pn : List (Addr × Obj)} {xe : Value → Shared → Prop} {W : WX} {E : XK} {t : XK → TE} {p1 p2 : Pos} {sB : Shared} {HB : Hp} {fp : List Addr} {CXg : CXT} {Eg : XK} {fs : List Addr}
    (I : Inv X pins σ H s) (uB : Un fs fp H HB s.heap sB.heap) (hfp : ∀ y c, X.env.cells.lookup y = some c → c ∉ fp)
    (tk : Takes ((cxOf CXg X.prog X.w X.K X.mg X.base Ng qg sg g cdg X.A X.stack sB HB Eg).tr pn xe) W) (hr : Room (k + 1) (X.A.deeper (envOfC qg sg sB.heap.objs.size g cdg)))
    (hN : Ng[i]? = some a) (hv : Vis sg a) (hd : (a == ("__debug__" : Str)) = false := by decide) (hcd : (a == ("__classdict__" : Str)) = false := by decide) :
    PE ((cxOf CXg X.prog X.w X.K X.mg X.base Ng qg sg g cdg X.A X.stack sB HB Eg).tr pn xe) (.Call (.Name a p1) [] [] p2)
      (fun σZ HZ Q => (∀ cls d H', E cls d H' → W cls d σZ H') ∧ σZ[i]? = some (some (.ref f)) ∧ LamAt X k f t HZ ∧ t E σ HZ Q) := by
  refine ⟨fun pinsZ sZ σZ HZ Q IZ h => ?_⟩
  obtain ⟨hW, hs, hL, ht⟩ := h
  refine wpAny_Call_Name_kw (thn ((pe_var (pos := p1) (i := i) hN hv hd hcd).run pinsZ sZ σZ HZ (fun v H1 => v = .ref f ∧ H1 = HZ) IZ ⟨.ref f, hs, rfl, rfl⟩) fun u s1 q0 => ?_)
  obtain ⟨v, H1, I1, r1, ev, eH⟩ := q0
  subst ev
  subst eH
  obtain rfl : u = Value.ref f := r1
  obtain ⟨params, body, scope, pm, c', ctv, hf, hc, L, hbind, hbody⟩ := hL
  obtain ⟨of1, _, _⟩ := I1.hok f _ hf
  refine PySem.W.callWith_F0 ⟨_, _, _, _, of1⟩ ?_
  obtain ⟨⟨oc, vs, tk', hoc, hdc, hvc⟩, _, _⟩ := I1.hok c' _ hc
  have cellP : ∀ {y : Str} {c : Addr} {v : Option Value}, X.env.cells.lookup y = some c → s.heap.IsCell c v → s1.heap.IsCell c v ∧ H1 c = none := fun {y c v} e z => by
    obtain ⟨o, ho, hdt⟩ := z
    have hn := I.freeC y c e
    obtain ⟨sl, q1⟩ := uB.any ho hn (hfp y c e)
    have n1 := uB.free c o ho hn (hfp y c e)
    obtain ⟨sl2, q2⟩ := I1.base.any q1 n1 (fun z => nomatch (show c ∈ ([] : List Addr) from z))
    exact ⟨⟨_, q2, hdt⟩, I1.base.free c _ q1 n1 (fun z => nomatch (show c ∈ ([] : List Addr) from z))⟩
  have rc : codeAny (model X.prog X.w) (X.A.deeper (envOfC qg sg sB.heap.objs.size g cdg)) (.call (.ref f) ⟨[], []⟩)
      (CR (L2.CX X.prog X.w) (envOfC qg sg sB.heap.objs.size g cdg :: X.stack) X.prog X.w H1 s1 Q E) s1 := by
    refine PySem.W.kla_callFunE hr.depth of1 rfl L.co L.gen rfl ⟨c', oc, vs, tk', rfl, hoc, hdc, hvc⟩ ?_
    rw [hbind]
    refine wpAny_pure (wpAny_newFunctionEnv (fun y hy => (L.own y hy).2) (fun y hy => absurd hy (by simp)) (fun h₁ hns hsb => ⟨I1.nolimit.fresh _ hsb, ?_⟩) L.kind)
    show codeAny _ _ (.expr body (lamEnv X scope s1.heap.objs.size f c')) _ _
    have J := lam_begin (E := E) (f := f) (c' := c') (tk := s1.toks + ([] : List (Str × Value)).length) I L I1.env0 hr.hd cellP hns fun b o e => hsb.extBut b o (Nat.ne_of_lt (Heap.lt_size e)) (Heap.get?_push_of_some _ e)
    refine PySem.W.kla_codeExpr (wpAny_mono ((hbody _ _ s1 H1 E f c' (hr.deeper _)).run [] _ _ H1 Q J ht) (fun v s' hq => ?_) fun e s' hq => hq)
    obtain ⟨w', H', J', rv, q⟩ := hq
    exact ⟨w', H', J'.os, J'.bare, J'.base, J'.hok, rv, q⟩
  refine wpAny_call (codeAny_mono rc fun r s' hq => ?_)
  match r, hq with
  | .error e, hq => exact tk e s' (XE.of_call I1 (fun cls d H' z => hW cls d H' z) hq)
  | .ok (.ret u), hq => exact I1.after hq
  | .ok .next, hq => exact hq.elim
  | .ok .brk, hq => exact hq.elim
  | .ok .cont, hq => exact hq.elim
end
end L2.Vx

set_option Elab.async false
set_option linter.all false
set_option maxRecDepth 100000
set_option maxHeartbeats 3200000
namespace L2.Vx
open PySem PySem.Spec PyProof.Rows L2
open PySem.W (Frag)
open LamX (CodeO Tabs TabS TabB ExtN LamS lamEnv lamCx)
/-! ### g(x) in a comprehension, x a lambda that is kept -/
section
variable {X : Cx} {pins : List (Addr × Obj)} {σ : St} {H : Hp} {s : Shared}
theorem pe_toldK {TT : (XK → Hp → VK → Prop) → Hp → VK → Prop} {x a y : Str} {g : Addr} {k j : Nat} {pg : Arguments} {bg : List Stmt} {sg : Scope} {dV kV doc pm cdv ct oc : Value} {an od : Option Addr} {osl : Array (Option Value)} {Ng : List Str} {p py pos : Pos} {sc : Scope} {ce : Env} {fp : List Addr}
    (I : Inv X pins σ H s) (hfp : ∀ y c, X.env.cells.lookup y = some c → c ∉ fp) (hg : Gl (X.blk s H sc ce fp) x) (hm : X.mg x = some (.ref g)) (hk : PySem.W.keepIn X.K (.ref g) = true)
    (lk : X.K.lookup g = some ⟨oc, od, .func (PySem.W.fnOf x x pg bg sg dV kV doc pm an cdv ct), osl⟩) (hcg : PySem.W.codeIn X.K cdv x = true)
    (hb : Binds X.K (PySem.W.fnOf x x pg bg sg dV kV doc pm an cdv ct) [a] []) (Sg : FnScope Ng [a] sg) (hNg : Ng[0]? = some a) (hva : Vis sg a) (hG : Gives X Ng x sg g cdv bg a (lamQ X) TT) (hr : Room (k + 2) X.A) (hy : PE (X.blk s H sc ce fp) (.Name y py) (tVar j))
    (hdb : (x == ("__debug__" : Str)) = false := by decide) (hd : (a == ("__debug__" : Str)) = false := by decide) (hcd : (a == ("__classdict__" : Str)) = false := by decide) :
    PE (X.blk s H sc ce fp) (.Call (.Name x p) [.Name y py] [] pos) (fun σ2 HB Q => ∃ (f : Addr) (t : XK → TE), σ2[j]? = some (some (.ref f)) ∧ LamAt X k f t HB ∧ TT (fun E H' Q' => LamAt X k f t H' ∧ t E σ H' Q') HB Q) := by
  refine ⟨fun pinsB sB σB HB Q IB h => ?_⟩
  obtain ⟨f, t, hs, hL, hT⟩ := h
  have ha := (pa_cons hy pa_nil).run pos pinsB sB σB HB (fun vs H1 => vs = [.ref f] ∧ H1 = HB) IB ⟨.ref f, hs, rfl, rfl⟩
  refine wpAny_Call_Name_kw (ld_glob IB hg hm ?_ hdb)
  refine PySem.W.callWith_K (h₀ := X.base) IB.ok.mod.kin hk (thn ha fun us s1 q0 => ?_) (by rfl) (by rfl)
  obtain ⟨vs, H1, I1, r, ev, eH⟩ := q0
  subst ev
  subst eH
  obtain ⟨u, rfl, ru⟩ := vals1 r
  cases ru
  refine ⟨I1.kIn, ?_⟩
  have uB : Un (frs X.stack) fp H H1 s.heap s1.heap := I1.base
  have rc : codeAny (model X.prog X.w) X.A (.call (.ref g) ⟨[.ref f], []⟩) (CR CX0 X.stack X.prog X.w H1 s1 Q E0) s1 := by
    refine LamX.run_ofS (N := Ng) (ps := [a]) (us := [.ref f]) (vs := [.ref f]) lk hcg Sg hr I1.env0 (hb s1 [.ref f] I1.kIn rfl) (.cons rfl .nil) rfl fun hr' => ?_
    obtain ⟨_, _, _, _, c', _, _, hc, _⟩ := id hL
    obtain ⟨t', ht', hq'⟩ := hG f c' s1 H1 Q (fun E H' Q' => LamAt X k f t H' ∧ t E σ H' Q') (fun W pn xe E p1 p2 tk => ⟨fun pins s σ H Q I h =>
      (pe_actK (t := t) (i := 0) (p1 := p1) (p2 := p2) (E := E) (by assumption) uB hfp tk hr' hNg hva hd hcd).run pins s σ H Q I ⟨h.1, h.2.1, h.2.2.2.1, h.2.2.2.2⟩⟩) hc hT
    exact ⟨t', ht'.nox, hq'⟩
  refine wpAny_call (codeAny_mono rc fun r s2 hq => ?_)
  match r, hq with
  | .error e, hq => exact (show False from hq).elim
  | .ok (.ret u), hq => exact I1.after hq
  | .ok .next, hq => exact hq.elim
  | .ok .brk, hq => exact hq.elim
  | .ok .cont, hq => exact hq.elim
end
end L2.Vx

set_option Elab.async false
set_option linter.all false
set_option maxRecDepth 100000
set_option maxHeartbeats 3200000
namespace L2.Vx
open PySem PySem.Spec PyProof.Rows L2
open PySem.W (Frag)
/-! ### [.. for .. in ..] whose element is told what its def knows at the start -/
section
variable {X : Cx}
theorem lcI_core {pins : List (Addr × Obj)} {s : Shared} {σ : St} {H : Hp} {Q : VK} {elt tg iter : Expr} {scope : Scope} {own : List (Str × Nat)} {pos pos' : Pos} {wi : TI} {g : TG} {te : TE} {use : Option (Value → Sem Unit)} {Qf : Value → Shared → Prop}
    (hc : X.calm = true) (hN : X.N.Nodup) (I : Inv X pins σ H s) (hi : PI X tg iter wi) (ok : BlkOk X.N X.env.scope scope own) (hg : ∀ (s : Shared) (H : Hp) (C : Addr) (cl : List (Str × Addr)) (fp : List Addr), PG (X.blk s H scope (compEnvC scope cl C X.env) fp) tg g)
    (he : ∀ (s : Shared) (H : Hp) (C : Addr) (cl : List (Str × Addr)) (fp : List Addr), Inv X pins σ H s → (∀ y c, X.env.cells.lookup y = some c → c ∉ fp) → PE (X.blk s H scope (compEnvC scope cl C X.env) fp) elt te) (hs : ∀ x, foldedSetIterable iter X.env x = pure x)
    (h : tLc wi g tYes te (own.map (·.2)) σ H Q)
    (hRR : ∀ D C s' m H', Inv X pins σ H' s' → Q (.ref D) H' → s'.heap.Ns C m → FpOk X pins H' C → compPost (model X.prog X.w) X.A X.xe use Qf (.ref D) C (.ok .next) s') :
    wpAny (model X.prog X.w) X.A (comprehension (.ListComp elt [⟨tg, iter, [], 0⟩] scope pos) scope X.env pos' (newList []) false (eval iter X.env) use) Qf X.xe s := by
  have hfree := fun (y : Str × NameKind) (hy : y ∈ scope.names) (e : y.2 = .free) => (ok.free y hy e).elim (fun k => I.ok.has _ (.inl k)) fun k => I.ok.has _ (.inr k)
  refine wpAny_comprehension_free (use := use) rfl hs (closure_ok hfree) ok.kind (fun y hy e => by rw [ok.uniq y hy, e]) (thn (hi.run pins s σ H _ I h) fun xv s1 hx => thn hx fun itv s2 h2 => ?_)
  obtain ⟨it, fp, tn, J, H2, rfl, I2, T, st2, f2, q⟩ := h2
  refine wpAny_newObj_type (newEnv_comp ?_) (by show 0 ≤ sizeLine; decide)
  obtain ⟨W, ⟨m0, w0⟩, turn⟩ := q s2.heap.objs.size (I2.hok.fresh (Nat.le_refl _))
  -- the new list
  have I3 := I2.laid (t' := s2.toks) (o := .lst []) (fun b o e => Heap.get?_push_of_some { cls := .type "list", data := .seq ([] : List Value).toArray } e) (Nat.le_refl _) ⟨Nat.zero_le _, [], 0, .nil, Heap.get?_push_size _ rfl⟩
  have keep3 : ∀ b o, s2.heap.get? b = some o → (s2.heap.push { cls := .type "list", data := .seq ([] : List Value).toArray }).get? b = some o := fun b o e => Heap.get?_push_of_some _ e
  have in2 : ∀ b ∈ fp, b < s2.heap.objs.size := fun b hb => by
    obtain ⟨o, e, _⟩ := T.obj _ _ st2 b hb
    exact Heap.lt_size e
  have at3 : ∀ b ∈ fp, upd H2 s2.heap.objs.size (.lst []) b = H2 b := fun b hb => upd_ne (Nat.ne_of_lt (in2 b hb))
  have f3 : ∀ b ∈ fp, FpOk X pins (upd H2 s2.heap.objs.size (.lst [])) b ∧ b < (s2.heap.push { cls := .type "list", data := .seq ([] : List Value).toArray }).objs.size := fun b hb =>
    ⟨⟨(at3 b hb).trans (f2 b hb).1, (f2 b hb).2⟩, by rw [Heap.size_push]; exact Nat.lt_succ_of_lt (in2 b hb)⟩
  have st3 := T.keep _ _ (s2.heap.push { cls := .type "list", data := .seq ([] : List Value).toArray }) st2 fun b _ o e => keep3 b o e
  generalize hD : s2.heap.objs.size = D at I3 f3 w0 turn
  generalize hs3 : ({ s2 with heap := s2.heap.push { cls := .type "list", data := .seq ([] : List Value).toArray } } : Shared) = s3 at I3
  have e3 : s3.heap = s2.heap.push { cls := .type "list", data := .seq ([] : List Value).toArray } := by rw [← hs3]
  rw [← e3] at f3 st3
  have I4 := block_start I3 ok hN f3
  generalize upd H2 D (.lst []) = H3 at I3 f3 w0 I4
  have hfp : ∀ y c, X.env.cells.lookup y = some c → c ∉ fp := fun y c e z => (f3 c z).1.2.2.2.2.1 y c e rfl
  have pg := hg s3 H3 s3.heap.objs.size (cellsFrom (s3.heap.objs.size + 1) scope.names (cloFrom X.env.cells scope.names [])) fp
  have pe := he s3 H3 s3.heap.objs.size (cellsFrom (s3.heap.objs.size + 1) scope.names (cloFrom X.env.cells scope.names [])) fp I3 hfp
  show codeAny _ _ (.compStart (.ListComp elt [⟨tg, iter, [], 0⟩] scope pos) 0 (.ref it) (.ref D) (compEnvC scope (cellsFrom (s3.heap.objs.size + 1) scope.names (cloFrom X.env.cells scope.names [])) s3.heap.objs.size X.env)) (compPost (model X.prog X.w) X.A X.xe use Qf (.ref D) s3.heap.objs.size) { s3 with heap := pushCells (s3.heap.push { cls := .type "dict", data := .dict #[] }) scope.names }
  have cL : (compEnvC scope (cellsFrom (s3.heap.objs.size + 1) scope.names (cloFrom X.env.cells scope.names [])) s3.heap.objs.size X.env).locals = s3.heap.objs.size := rfl
  generalize compEnvC scope (cellsFrom (s3.heap.objs.size + 1) scope.names (cloFrom X.env.cells scope.names [])) s3.heap.objs.size X.env = ce at I4 pg pe cL ⊢
  have st4 := T.keep _ _ (pushCells (s3.heap.push { cls := .type "dict", data := .dict #[] }) scope.names) st3 fun b _ o e => pushCells_keeps _ _ _ _ (Heap.get?_push_of_some _ e)
  generalize hs4 : ({ s3 with heap := pushCells (s3.heap.push { cls := .type "dict", data := .dict #[] }) scope.names } : Shared) = s4 at I4 ⊢
  have e4 : s4.heap = pushCells (s3.heap.push { cls := .type "dict", data := .dict #[] }) scope.names := by rw [← hs4]
  rw [← e4] at st4
  have stat : ∀ {σ' : St} {H' : Hp} {s' : Shared}, Inv (X.blk s3 H3 scope ce fp) [] σ' H' s' → (∀ b ∈ fp, H' b = none) → ∀ b ∈ fp, FpOk (X.blk s3 H3 scope ce fp) [] H' b := fun {σ' H' s'} I' hn b hb =>
    ⟨hn b hb, (I'.ok.exf b hb).1, I'.ok.exfs b hb, .inl hb, (fun x c e => (I'.ok.exf b hb).2 x c e), fun p hp => absurd (show p ∈ ([] : List (Addr × Obj)) ++ [] from hp) (by simp)⟩
  refine codeAny_compStart_list ?_ (T.self X.A 0 _ _ _ st4 ?_)
  all_goals
    refine compLoop_any (fun n s' => ∃ i H', Inv (X.blk s3 H3 scope ce fp) [] (wipe σ (own.map (·.2))) H' s' ∧ tn i s'.heap ∧ (∀ b ∈ fp, H' b = none) ∧ W i n H') ?_ m0 ⟨0, H3, I4, st4, fun b hb => (f3 b hb).1.1, w0⟩
    rintro n s5 ⟨i, H5, I5, st5, n5, w5⟩
    rcases turn i n H5 w5 with ⟨stop, qq⟩ | ⟨go, Nx, hNx, step⟩
    · refine thnF (T.done (X.blk s3 H3 scope ce fp) rfl rfl rfl hc i [] s5 _ H5 (fun _ _ => False) I5 (stat I5 n5) st5 stop) fun r s6 ⟨hr, I6⟩ => ?_
      subst hr
      have I7 : Inv X pins σ H5 s6 := I3.call' (ch := fp) I6.os I6.base I6.hok I6.bare fun b hb => ⟨(f3 b hb).1.2.2.2.1, (f3 b hb).1.2.1, (f3 b hb).1.2.2.2.2.1, (f3 b hb).1.2.2.2.2.2⟩
      have nC : H5 ce.locals = none := I6.free
      obtain ⟨m, hn, _⟩ := I6.loc
      have hn : s6.heap.Ns ce.locals m := hn
      rw [cL] at hn nC
      exact hRR D s3.heap.objs.size s6 m H5 I7 qq hn (I3.fpOk (Nat.le_refl _) nC)
    · refine thnF (T.item (X.blk s3 H3 scope ce fp) rfl rfl rfl hc i [] s5 _ H5 (fun _ _ => False) I5 (stat I5 n5) st5 go) fun r s6 ⟨u, hr, h6⟩ => ?_
      subst hr
      refine thnF h6 fun _ s7 ⟨x, H7, I7, r7, y7, st7, n7⟩ => ?_
      refine thnF (pg.run _ s7 _ H7 x u _ (I7.pinned (stat I7 n7) (T.obj _ _ st7)) r7 (step x H7 y7)) fun _ s8 ⟨σ8, H8, I8, hw8, q8⟩ => ?_
      refine thnF ((pts_nil : PTs (X.blk s3 H3 scope ce fp) [] tYes).run _ s8 σ8 H8 _ I8 q8) fun b s9 ⟨H9, I9, q9⟩ => ?_
      have fin : ∀ {s' : Shared} {H' : Hp}, Inv (X.blk s3 H3 scope ce fp) ([] ++ pinsAt fp s7.heap) σ8 H' s' → Nx H' → ∃ m, m < n ∧ ∃ i H', Inv (X.blk s3 H3 scope ce fp) [] (wipe σ (own.map (·.2))) H' s' ∧ tn i s'.heap ∧ (∀ b ∈ fp, H' b = none) ∧ W i m H' := fun {s' H'} I' nx => by
        obtain ⟨m', hm, w'⟩ := hNx H' nx
        have pin' : ∀ b ∈ fp, ∀ o, s7.heap.get? b = some o → s'.heap.get? b = some o ∧ H' b = none := fun b hb o e =>
          have z := I'.pin (b, o) (List.mem_append_right _ (List.mem_append_right _ (mem_pinsAt hb e)))
          ⟨z.1, z.2.1⟩
        refine ⟨m', hm, i + 1, H', (I'.unpinned (pins := [])).weak (by rw [← hw8, wipe_length]) (fun j v e => (wipe_some (by rw [← hw8] at e; exact e)).1), T.keep _ _ _ st7 fun b hb o e => (pin' b hb o e).1, fun b hb => ?_, w'⟩
        obtain ⟨o, e, _⟩ := T.obj _ _ st7 b hb
        exact (pin' b hb o e).2
      cases b with
      | false => exact fin I9 q9
      | true =>
        have q9 : te σ8 H9 fun y H4 => ∃ acc, H4 D = some (.lst acc) ∧ acc.length < sizeLine ∧ Nx (upd H4 D (.lst (acc ++ [y]))) := q9
        refine thnF (pe.run _ s9 σ8 H9 _ I9 q9) fun z s10 ⟨yv, H10, I10, r10, acc, hD10, hz10, nx⟩ => ?_
        exact app_ok (X := X.blk s3 H3 scope ce fp) I10 hD10 hz10 r10 fun s11 I11 => fin I11 nx
/-- as a value; the element's reading knows the slots as they stand ahead -/
theorem pe_lcI {elt tg iter : Expr} {scope : Scope} {own : List (Str × Nat)} {pos : Pos} {wi : TI} {g : TG} {te : St → TE} (hc : X.calm = true) (hN : X.N.Nodup) (hi : PI X tg iter wi) (ok : BlkOk X.N X.env.scope scope own)
    (hg : ∀ (s : Shared) (H : Hp) (C : Addr) (cl : List (Str × Addr)) (fp : List Addr), PG (X.blk s H scope (compEnvC scope cl C X.env) fp) tg g)
    (he : ∀ (pins : List (Addr × Obj)) (σ : St) (s : Shared) (H : Hp) (C : Addr) (cl : List (Str × Addr)) (fp : List Addr), Inv X pins σ H s → (∀ y c, X.env.cells.lookup y = some c → c ∉ fp) → PE (X.blk s H scope (compEnvC scope cl C X.env) fp) elt (te σ)) (hs : ∀ x, foldedSetIterable iter X.env x = pure x := by intro _; rfl) :
    PE X (.ListComp elt [⟨tg, iter, [], 0⟩] scope pos) (fun σ H Q => tLc wi g tYes (te σ) (own.map (·.2)) σ H Q) := by
  refine ⟨fun pins s σ H Q I h => ?_⟩
  rw [eval_ListComp]
  refine lcI_core hc hN I hi ok hg (he pins σ) hs h fun D C s' m H' I' q hn f => ⟨m, hn, fun h'' sb => ?_⟩
  obtain ⟨f0, f1, f2, f3, f4, f5⟩ := f
  exact ⟨.ref D, H', I'.turned (t' := s'.toks) (fun b o hb e => (sb.2 b hb).trans e) f0 f1 f3 f4 f5, rfl, q⟩
end
end L2.Vx

set_option Elab.async false
set_option linter.all false
set_option maxRecDepth 100000
namespace L2.Vx
open PySem PySem.Spec PyProof.Rows L2
/-! ### one middle for what follows -/
theorem te_to {te : TE} {σ : St} {H : Hp} {Q : VK} (C : V → Hp → Prop) (rest : ∀ v H', C v H' → Q v H') (here : ∀ Q' : VK, (∀ v H', C v H' → Q' v H') → te σ H Q') : te σ H Q := here Q rest
theorem seq_to {t u : TS} {D : Ends} {σ : St} {H : Hp} (C : St → Hp → Prop) (rest : ∀ σc Hc, C σc Hc → u D σc Hc) (here : ∀ N : St → Hp → Prop, (∀ σc Hc, C σc Hc → N σc Hc) → t { D with nx := N } σ H) : tSeq t u D σ H := here (u D) fun σc Hc h => rest σc Hc h
end L2.Vx

set_option Elab.async false
set_option linter.all false
set_option maxRecDepth 100000
set_option maxHeartbeats 4000000
namespace L2.K04
open PySem PySem.Spec PyProof.Rows L2.Vx
open PySem.W (Frag)
/-! ### the law's own looks at integers, terms, bounds -/
def lintB (d : PyData) (lo hi : Int) : Bool := match d with
  | .int i => decide (lo ≤ i) && decide (i ≤ hi)
  | _ => false
/-- without one «!» at the end -/
def bare (z : Str) : Str := if cutS z (some (-1)) none = "!" then cutS z none (some (-1)) else z
theorem sIx_m1 (n d : Nat) : HT.sIx n d (some (-1)) = n - 1 := by
  show (if (-1 : Int) < 0 then ((-1 : Int) + (n : Int)).toNat else min (-1 : Int).toNat n) = n - 1
  rw [if_pos (by decide)]
  omega
theorem cutS_last (z : Str) : cutS z (some (-1)) none = ⟨(z.cps.toList.drop (z.length - 1)).toArray⟩ := by
  unfold cutS
  rw [sIx_m1, HT.sIx_none]
  congr 2
  exact List.take_of_length_le (by rw [List.length_drop]; exact Nat.le_refl _)
theorem cutS_init (z : Str) : cutS z none (some (-1)) = ⟨(z.cps.toList.take (z.length - 1)).toArray⟩ := by
  unfold cutS
  rw [sIx_m1, HT.sIx_none, Nat.sub_zero, List.drop_zero]
theorem bare_eq (z : Str) : Txt.removesuffix z "!" = bare z := by
  have hL : z.cps.toList.length = z.length := by simp [Str.length]
  have e1 : ("!" : Str).length = 1 := rfl
  have e2 : ("!" : Str).cps = #[33] := by decide +kernel
  have key : (("!" : Str).length ≤ z.length && Builtin.Str.subAt z "!" (z.length - ("!" : Str).length)) = decide (cutS z (some (-1)) none = "!") := by
    rw [cutS_last]
    unfold Builtin.Str.subAt
    rw [e1, e2]
    by_cases h0 : z.length = 0
    · have hz : z.cps.toList = [] := List.length_eq_zero_iff.mp (by rw [hL]; exact h0)
      rw [decide_eq_false (by omega : ¬ 1 ≤ z.length), Bool.false_and, hz, List.drop_nil]
      decide +kernel
    · rw [decide_eq_true (by omega : 1 ≤ z.length), Bool.true_and]
      have e3 : z.cps.extract (z.length - 1) (z.length - 1 + 1) = (z.cps.toList.drop (z.length - 1)).toArray := by
        apply Array.toList_inj.mp
        rw [Array.toList_extract]
        show List.take _ (List.drop (z.length - 1) z.cps.toList) = _
        rw [List.take_of_length_le (by rw [List.length_drop, hL]; omega)]
      rw [e3, Bool.eq_iff_iff, decide_eq_true_eq]
      constructor
      · intro h
        have h2 : (z.cps.toList.drop (z.length - 1)).toArray = #[33] := by simpa using h
        rw [h2]
        decide +kernel
      · intro h
        have h2 : (z.cps.toList.drop (z.length - 1)).toArray = ("!" : Str).cps := congrArg Str.cps h
        rw [h2, e2]
        decide
  unfold Txt.removesuffix bare
  rw [key]
  by_cases h : cutS z (some (-1)) none = "!"
  · rw [decide_eq_true h, if_pos rfl, if_pos h]
    have h0 : z.length ≠ 0 := fun c => by
      rw [cutS_last] at h
      have hz : z.cps.toList = [] := List.length_eq_zero_iff.mp (by rw [hL]; exact c)
      rw [hz] at h
      have := congrArg Str.length h
      simp [Str.length] at this
      exact absurd this (by decide +kernel)
    unfold Txt.affix
    dsimp only
    rw [e1]
    have hb : (z.length - 1 - 0 == z.length) = false := beq_eq_false_iff_ne.mpr (by omega)
    rw [if_neg (by rw [hb]; exact Bool.false_ne_true), cutS_init]
    unfold Builtin.Str.strSub
    congr 1
    apply Array.toList_inj.mp
    rw [Array.toList_extract]
    show List.take _ (List.drop 0 z.cps.toList) = _
    rw [List.drop_zero]
    congr 1
  · rw [decide_eq_false h, if_neg h]
    rfl
section
variable {P : Program} {w : World} {K : Frag} {mg : Str → Option Value} {bs : Heap}
def spLInt (K : Frag) : Sp := fun vs H Q _ => ∃ (v : V) (d : PyData) (lo hi : Int), vs = [v, .int lo, .int hi] ∧ Dw K H v d ∧ Q (.bl (lintB d lo hi)) H
theorem scLInt : FnScope ["value", "low", "high"] ["value", "low", "high"] (defScope sLInt) := ⟨rfl, rfl, rfl, by decide +kernel, rfl, by decide +kernel, by decide +kernel⟩
theorem ok_lint {f : Addr} {fd : FuncData} (FP : FD K "_law_is_int" sLInt f fd) (F : FxBd mg) : FnOk P w K mg bs CX0 1 f fd ["value", "low", "high"] (spLInt K) := by
  have sc := scLInt
  refine FP.ok scLInt (fun vs H Q E h => ?_) (fun cdv A outer s H vs Q E hr h => ?_)
  · obtain ⟨v, d, lo, hi, rfl, _⟩ := h
    rfl
  · obtain ⟨v, d, lo, hi, rfl, hd, k⟩ := h
    refine ⟨_, pss_one (ps_ret (pe_and (pe_callB call_isi (by rfl) F.isi boot_isinstance (pa_cons (pv 0) (pa_cons (pe_bltn (v := .ty "int") (by rfl) F.int boot_int rfl) pa_nil))) (pe_and (pe_not (pe_callB call_isi (by rfl) F.isi boot_isinstance (pa_cons (pv 0) (pa_cons (pe_bltn (v := .ty "bool") (by rfl) F.bool boot_bool rfl) pa_nil)))) (pe_one (pe_chain op_le op_le (pv 1) (pv 0) (pv 2)))))), ?_⟩
    refine ⟨_, rfl, v, .ty "int", _, _, isIntD d, rfl, .ty "int", hd.ty, kit_ty (kit_int d), _, rfl, ?_⟩
    cases hi' : isIntD d with
    | false =>
      refine Eq.mpr (if_neg (by decide)) ?_
      have e : lintB d lo hi = false := by cases d <;> first | rfl | cases hi'
      rw [e] at k
      exact k
    | true =>
      refine Eq.mpr (if_pos rfl) ?_
      refine ⟨_, rfl, v, .ty "bool", _, _, isBlD d, rfl, .ty "bool", hd.ty, kit_ty (kit_bl d), _, rfl, ?_⟩
      refine ⟨_, rfl, ?_⟩
      cases hb : isBlD d with
      | true =>
        refine Eq.mpr (if_neg (by decide)) ?_
        have e : lintB d lo hi = false := by cases d <;> first | rfl | cases hb
        rw [e] at k
        exact k
      | false =>
        refine Eq.mpr (if_pos rfl) ?_
        cases d with
        | int i =>
          cases hd
          refine ⟨_, rfl, _, rfl, _, _, rfl, rfl, _, rfl, ?_⟩
          have k : Q (.bl (decide (lo ≤ i) && decide (i ≤ hi))) H := k
          by_cases h1 : lo ≤ i
          · refine Eq.mpr (if_pos (decide_eq_true h1)) ?_
            rw [decide_eq_true h1, Bool.true_and] at k
            exact ⟨_, rfl, _, _, rfl, rfl, k⟩
          · refine Eq.mpr (if_neg (by rw [decide_eq_false h1]; exact Bool.false_ne_true)) ?_
            rw [decide_eq_false h1, Bool.false_and] at k
            exact k
        | bool b => cases hb
        | _ => cases hi'
def spLTerm (K : Frag) : Sp := fun vs H Q _ => ∃ (v : V) (t : Option Str), vs = [v] ∧ TI K H v t ∧ ∀ H', Same H H' → Q (.bl (termO t)) H'
theorem scLTerm : FnScope ["value", "name", "sign"] ["value"] (defScope sLTerm) := ⟨rfl, rfl, rfl, by decide +kernel, rfl, by decide +kernel, by decide +kernel⟩
theorem ok_lterm {f : Addr} {fd : FuncData} (FP : FD K "_law_is_term" sLTerm f fd) (F : FxBd mg) (gStr : mg "str" = none) (gAll : mg "all" = none) : FnOk P w K mg bs CX0 1 f fd ["value"] (spLTerm K) := by
  have sc := scLTerm
  refine FP.ok scLTerm (fun vs H Q E h => ?_) (fun cdv A outer s H vs Q E hr h => ?_)
  · obtain ⟨v, t, rfl, _⟩ := h
    rfl
  · obtain ⟨v, t, rfl, hv, k⟩ := h
    refine ⟨_, pss_cons (ps_if (pt_not (pt_val (pe_callB call_isi (by rfl) F.isi boot_isinstance (pa_cons (pv 0) (pa_cons (pe_bltn (v := .ty "str") (by rfl) gStr boot_str rfl) pa_nil))))) (pss_one (ps_ret pe_bl)) pss_nil)
      (pss_cons (ps_if (pt_cmpR op_eq (pv 0) pe_str (nomark _)) (pss_one (ps_ret pe_bl)) pss_nil)
      (pss_cons (ps_set (i := 1) sc.nd rfl (Or.inl rfl) (pe_ifExp (pt_cmpR op_eq (pe_slice sl_str (pv 0) (po_some (pe_un un_neg pe_int)) po_none) pe_str (nomark _)) (pe_slice sl_str (pv 0) po_none (po_some (pe_un un_neg pe_int))) (pv 0)))
      (pss_one (ps_ret (pe_and (pe_chain op_lt op_lt pe_int (pe_callB call_len_str (by rfl) F.len boot_len (pa_cons (pv 1) pa_nil)) pe_int) (pe_one (pe_callB (cr_all rfl) (by rfl) gAll boot_all (pa_cons (pe_lc (own := [("sign", 2)]) (g := gName 2) (by rfl) sc.nd (pi_str (pv 1)) (blkOk_by (N := ["value", "name", "sign"]) (sc := defScope sLTerm) (by decide +kernel)) (fun _ _ _ _ _ => (pg_name (i := 2) sc.nd rfl (Or.inl rfl))) (fun _ _ _ _ _ => pts_nil) (fun _ _ _ _ _ => (pe_cmpR op_in_sign (pv 2) pe_str rfl))) pa_nil)))))))), ?_⟩
    rcases hv with ⟨hn, rfl⟩ | ⟨z, rfl, lz, rfl⟩
    · obtain ⟨n, hT, hk⟩ := hn _ (Same.refl _)
      refine rd_seq (rd_if ?_)
      refine ⟨_, rfl, v, .ty "str", _, _, false, rfl, .ty "str", hT, kit_ty hk, _, rfl, ?_⟩
      refine Eq.mpr (if_pos rfl) ?_
      exact k H (Same.refl H)
    have hz2 : z.length ≤ sizeLine := Nat.le_trans lz (by decide)
    have lb : (bare z).length ≤ 1000 := by
      unfold bare
      split
      · exact Nat.le_trans (cutS_length _ _ _) lz
      · exact lz
    refine rd_seq (rd_if ?_)
    refine ⟨_, rfl, .str z, .ty "str", .type "str", _, true, rfl, .ty "str", .base (.str z), kit_ty (by decide +kernel), _, rfl, ?_⟩
    refine Eq.mpr (if_neg (by decide)) ?_
    dsimp only [tNext]
    refine rd_seq (rd_if ?_)
    refine ⟨_, rfl, rfl, _, rfl, ?_⟩
    by_cases h0 : z = "0"
    · refine Eq.mpr (if_pos (decide_eq_true (by rw [h0]))) ?_
      have q := k H (Same.refl H)
      have e : termO (some z) = true := by
        show termIn z = true
        unfold termIn
        rw [decide_eq_true h0]
        rfl
      rw [e] at q
      exact q
    refine Eq.mpr (if_neg (by rw [decide_eq_false (fun q => h0 (V.str.inj q))]; exact Bool.false_ne_true)) ?_
    dsimp only [tNext]
    have et : termO (some z) = nameIn (bare z) := by
      show termIn z = _
      unfold termIn
      rw [decide_eq_false h0, bare_eq]
      rfl
    rw [et] at k
    refine rd_seq (rd_set (te_to (fun v H' => v = .str (bare z) ∧ H' = H) ?_ ?_))
    rotate_left
    · intro Q' q'
      refine ⟨_, rfl, 1, rfl, -1, rfl, z, rfl, hz2, rfl, _, rfl, ?_⟩
      by_cases hb : cutS z (some (-1)) none = "!"
      · refine Eq.mpr (if_pos (decide_eq_true (by rw [hb]))) ?_
        exact ⟨_, rfl, 1, rfl, -1, rfl, z, rfl, hz2, q' _ _ ⟨by unfold bare; rw [if_pos hb], rfl⟩⟩
      · refine Eq.mpr (if_neg (by rw [decide_eq_false (fun q => hb (V.str.inj q))]; exact Bool.false_ne_true)) ?_
        exact ⟨_, rfl, q' _ _ ⟨by unfold bare; rw [if_neg hb], rfl⟩⟩
    · rintro v H' ⟨rfl, rfl⟩
      generalize bare z = y at lb k
      dsimp only
      refine rd_ret ?_
      refine ⟨_, rfl, y, rfl, Nat.le_trans lb (by decide), _, _, rfl, rfl, _, rfl, ?_⟩
      unfold nameIn at k
      by_cases h1 : 1 ≤ y.length
      · refine Eq.mpr (if_pos (decide_eq_true (by omega))) ?_
        rw [decide_eq_true h1, Bool.true_and] at k
        refine ⟨_, _, rfl, rfl, _, rfl, ?_⟩
        by_cases h2 : y.length ≤ 8
        · refine Eq.mpr (if_pos (decide_eq_true (by omega))) ?_
          rw [decide_eq_true h2, Bool.true_and] at k
          refine ⟨_, rfl, y, rfl, fun D hD => lc_it walk_str (fun i H5 => Same H' H5 ∧ H5 D = some (.lst (((y.cps.toList.take i).map fun c => decide (c ∈ lettersS.cps.toList)).map V.bl))) ⟨same_new hD, by rw [upd_same]; rfl⟩ (fun _ _ _ _ => trivial) ?_ ?_⟩
          · rintro i v H5 H6 hi ⟨s5, d5⟩ ⟨rfl, c, hc, rfl⟩
            refine ⟨rfl, rd_yes rfl ?_⟩
            refine ⟨_, rfl, c, _, rfl, rfl, _, d5, ?_, s5.mut hD, ?_⟩
            · rw [List.length_map, List.length_map, List.length_take]
              exact Nat.lt_of_le_of_lt (Nat.le_trans (Nat.min_le_right _ _) (by simpa [Str.length] using lb)) (by decide)
            · have hc' : y.cps.toList[i]? = some c := by simpa using hc
              rw [upd_same, List.take_succ, hc', List.map_append, List.map_append]
              rfl
          · rintro H5 ⟨s5, d5⟩
            refine ⟨D, _, rfl, SqL.of d5, ?_⟩
            have e : y.cps.toList.take y.cps.size = y.cps.toList := List.take_of_length_le (by simp)
            rw [e, List.all_map]
            exact k _ s5
        · refine Eq.mpr (if_neg (by rw [decide_eq_false (by omega : ¬ ((y.length : Nat) : Int) < 9)]; decide)) ?_
          rw [decide_eq_false h2, Bool.false_and] at k
          exact k H' (Same.refl H')
      · refine Eq.mpr (if_neg (by rw [decide_eq_false (by omega : ¬ (0 : Int) < ((y.length : Nat) : Int))]; decide)) ?_
        refine ⟨_, rfl, ?_⟩
        refine Eq.mpr (if_neg (by decide)) ?_
        rw [decide_eq_false h1, Bool.false_and] at k
        exact k H' (Same.refl H')
/-! ### bounds -/
mutual
def iB : PyData → Bool
  | .int i => decide (i.natAbs ≤ 1000000000)
  | .list ds => iA ds
  | .tuple ds => iA ds
  | _ => true
def iA : List PyData → Bool
  | [] => true
  | d :: ds => iB d && iA ds
end
theorem iA_mem : ∀ {ds : List PyData}, iA ds = true → ∀ d ∈ ds, iB d = true
  | [], _, d, h => by cases h
  | e :: ds, h, d, hd => by
    have h2 := Bool.and_eq_true_iff.mp (show (iB e && iA ds) = true from h)
    rcases List.mem_cons.mp hd with rfl | hd
    · exact h2.1
    · exact iA_mem h2.2 d hd
theorem iA_of : ∀ {ds : List PyData}, (∀ d ∈ ds, iB d = true) → iA ds = true
  | [], _ => rfl
  | e :: ds, h => by
    show (iB e && iA ds) = true
    rw [h e (List.mem_cons_self ..), iA_of fun d hd => h d (List.mem_cons_of_mem _ hd)]
    rfl
def strO : PyData → Option Str | .str z => some z | _ => none
theorem ti_of {H : Hp} {v : V} {d : PyData} {n : Nat} (h : Dw K H v d) (ok : OkD n d) : TI K H v (strO d) := by
  cases hs : isStrD d with
  | true =>
    obtain ⟨x, rfl, rfl⟩ := dw_str h hs
    exact .inr ⟨x, rfl, ok.len, rfl⟩
  | false =>
    have e : strO d = none := by cases d <;> first | rfl | cases hs
    rw [e]
    exact .inl ⟨fun H' s => noStr_dw (Dw_keep s h) hs, rfl⟩
theorem termO_no {d : PyData} (h : isStrD d = false) : termO (strO d) = false := by
  cases d <;> first | rfl | cases h
def spLBd (K : Frag) : Sp := fun vs H Q _ => ∃ (v : V) (d : PyData), vs = [v] ∧ Dw K H v d ∧ OkD 40 d ∧ iB d = true ∧ ∀ H', Same H H' → Q (.bl (bdD d).isSome) H'
theorem scLBd : FnScope ["value"] ["value"] (defScope sLBd) := ⟨rfl, rfl, rfl, by decide +kernel, rfl, by decide +kernel, by decide +kernel⟩
theorem lint_int {d : PyData} (h : iB d = true) : lintB d (-1000000000) 1000000000 = intD d := by
  cases d with
  | int i =>
    have h : decide (i.natAbs ≤ 1000000000) = true := h
    rw [decide_eq_true_eq] at h
    show (decide _ && decide _) = true
    rw [decide_eq_true (by omega), decide_eq_true (by omega)]
    rfl
  | _ => rfl
theorem ok_lbd {f fI fT : Addr} {fd fdI fdT : FuncData} (FP : FD K "_law_is_bound" sLBd f fd) (F : FxBd mg)
    (GI : FnOk P w K mg bs CX0 1 fI fdI ["value", "low", "high"] (spLInt K)) (kI : PySem.W.keepIn K (.ref fI) = true) (gI : mg "_law_is_int" = some (.ref fI)) (bI : Binds K fdI ["value", "low", "high"] [])
    (GT : FnOk P w K mg bs CX0 1 fT fdT ["value"] (spLTerm K)) (kT : PySem.W.keepIn K (.ref fT) = true) (gT : mg "_law_is_term" = some (.ref fT)) (bT : Binds K fdT ["value"] []) : FnOk P w K mg bs CX0 2 f fd ["value"] (spLBd K) := by
  have sc := scLBd
  refine FP.ok scLBd (fun vs H Q E h => ?_) (fun cdv A outer s H vs Q E hr h => ?_)
  · obtain ⟨v, d, rfl, _⟩ := h
    rfl
  · obtain ⟨v, d, rfl, hd, hok, hib, k⟩ := h
    refine ⟨_, pss_cons (ps_if (PW.pt (pw_or (pt_not (pt_val (pe_callB call_isi (by rfl) F.isi boot_isinstance (pa_cons (pv 0) (pa_cons (pe_bltn (v := .ty "tuple") (by rfl) F.tup boot_tuple rfl) pa_nil))))) (pw_or (pt_cmpR op_ne (pe_callB call_len_seq (by rfl) F.len boot_len (pa_cons (pv 0) pa_nil)) pe_int (nomark _)) (pw_or1 (pt_not (pt_val (pe_call GI hr (by rfl) gI kI bI .nil pass0 (pa_cons (pe_ix ix_tup (pv 0) pe_int (fun _ _ => rfl)) (pa_cons (pe_un un_neg (pe_op op_pow pe_int pe_int)) (pa_cons (pe_op op_pow pe_int pe_int) pa_nil)))))))))) (pss_one (ps_ret pe_bl)) pss_nil)
      (pss_one (ps_ret (pe_and (pe_call GT hr (by rfl) gT kT bT .nil pass0 (pa_cons (pe_ix ix_tup (pv 0) pe_int (fun _ _ => rfl)) pa_nil)) (pe_and (pe_call GT hr (by rfl) gT kT bT .nil pass0 (pa_cons (pe_ix ix_tup (pv 0) pe_int (fun _ _ => rfl)) pa_nil)) (pe_one (pe_cmpR op_ne (pe_ix ix_tup (pv 0) pe_int (fun _ _ => rfl)) (pe_ix ix_tup (pv 0) pe_int (fun _ _ => rfl)) (nomark _))))))), ?_⟩
    have no : bdD d = none → Q (.bl false) H := fun e => by
      have q := k H (Same.refl H)
      rw [e] at q
      exact q
    refine rd_seq (rd_if ?_)
    refine ⟨_, rfl, v, .ty "tuple", _, _, isTupD d, rfl, .ty "tuple", hd.ty, kit_ty (kit_tup d), _, rfl, ?_⟩
    cases ht : isTupD d with
    | false =>
      refine Eq.mpr (if_pos rfl) ?_
      exact no (bdD_no ht)
    | true =>
      refine Eq.mpr (if_neg (by decide)) ?_
      obtain ⟨a, xs, ds, rfl, rfl, hx, hall, _⟩ := dw_tup hd ht
      refine ⟨_, rfl, a, _, rfl, .inr hx, rfl, _, rfl, ?_⟩
      by_cases hl : xs.length = 3
      rotate_left
      · refine Eq.mpr (if_pos (nf (fun q => hl (by have := V.int.inj q; omega)))) ?_
        exact no (bdD_len (by rw [← hall.len]; exact hl))
      refine Eq.mpr (if_neg (by rw [hl]; exact nt rfl)) ?_
      obtain ⟨x1, x2, x3, d1, d2, d3, rfl, rfl, h1, h2, h3⟩ := dw_three hall hl
      have hm := hok.tup.1
      have ok1 := hm d1 (by simp)
      have ok2 := hm d2 (by simp)
      have i3 : iB d3 = true := iA_mem (show iA [d1, d2, d3] = true from hib) d3 (by simp)
      refine ⟨_, rfl, a, _, _, x3, rfl, rfl, hx, rfl, 10, 9, rfl, rfl, ⟨by decide, by decide, by decide⟩, _, rfl, 10, 9, rfl, rfl, ⟨by decide, by decide, by decide⟩, x3, d3, _, _, rfl, h3, _, rfl, ?_⟩
      have e3 : lintB d3 (-(10 ^ Int.toNat 9)) (10 ^ Int.toNat 9) = intD d3 := lint_int i3
      rw [e3]
      cases hI : intD d3 with
      | false =>
        refine Eq.mpr (if_pos rfl) ?_
        have q := k H (Same.refl H)
        rw [bd_no3 hI] at q
        exact q
      | true =>
        refine Eq.mpr (if_neg (by decide)) ?_
        dsimp only [tNext]
        refine rd_ret ?_
        refine ⟨_, rfl, a, _, _, x1, rfl, rfl, hx, rfl, x1, _, rfl, ti_of h1 ok1, fun H1 s1 => ⟨_, rfl, ?_⟩⟩
        have no1 : (bdD (.tuple [d1, d2, d3])).isSome = false → Q (.bl false) H1 := fun e => by
          have q := k H1 s1
          rw [e] at q
          exact q
        cases t1 : termO (strO d1) with
        | false =>
          refine Eq.mpr (if_neg (by decide)) ?_
          cases hs1 : isStrD d1 with
          | false => exact no1 (bd_no1 hs1)
          | true =>
            obtain ⟨x, rfl, rfl⟩ := dw_str h1 hs1
            exact no1 (bd_no1t t1)
        | true =>
          refine Eq.mpr (if_pos rfl) ?_
          have hs1 : isStrD d1 = true := by cases d1 <;> first | rfl | cases t1
          obtain ⟨x, rfl, rfl⟩ := dw_str h1 hs1
          have hx1 := sqt_same s1 hx
          have h21 := Dw_keep s1 h2
          refine ⟨_, rfl, a, _, _, x2, rfl, rfl, hx1, rfl, x2, _, rfl, ti_of h21 ok2, fun H2 s2 => ⟨_, rfl, ?_⟩⟩
          have no2 : (bdD (.tuple [.str x, d2, d3])).isSome = false → Q (.bl false) H2 := fun e => by
            have q := k H2 (s1.trans s2)
            rw [e] at q
            exact q
          cases t2 : termO (strO d2) with
          | false =>
            refine Eq.mpr (if_neg (by decide)) ?_
            cases hs2 : isStrD d2 with
            | false => exact no2 (bd_no2 hs2)
            | true =>
              obtain ⟨y, rfl, rfl⟩ := dw_str h21 hs2
              have t2 : termIn y = false := t2
              exact no2 (bd_no2t (by rw [t2]; rfl))
          | true =>
            refine Eq.mpr (if_pos rfl) ?_
            have hs2 : isStrD d2 = true := by cases d2 <;> first | rfl | cases t2
            obtain ⟨y, rfl, rfl⟩ := dw_str h21 hs2
            have hx2 := sqt_same s2 hx1
            refine ⟨_, rfl, a, _, _, .str x, rfl, rfl, hx2, rfl, _, rfl, a, _, _, .str y, rfl, rfl, hx2, rfl, rfl, ?_⟩
            have t1 : termIn x = true := t1
            have t2 : termIn y = true := t2
            have q := k H2 (s1.trans s2)
            cases d3 <;> first | (exact (Bool.false_ne_true hI).elim) | skip
            rw [bd_two, t1, t2, Bool.true_and, Bool.true_and] at q
            have e : (!decide (V.str x = V.str y)) = decide (x ≠ y) := by
              by_cases h : x = y
              · rw [h]; simp
              · rw [decide_eq_true h, decide_eq_false (fun z => h (V.str.inj z))]; rfl
            rw [e]
            exact q
end
end L2.K04

set_option Elab.async false
set_option linter.all false
set_option maxRecDepth 100000
set_option maxHeartbeats 4000000
namespace L2.K04
open PySem PySem.Spec PyProof.Rows L2.Vx
open PySem.W (Frag)
/-! ### expressions that make data, away from the pot -/
/-! ### data with small integers -/
structure OkI (M S n : Nat) (d : PyData) : Prop where
  ok : OkM M S n d
  ib : iB d = true
section
variable {M S n : Nat}
theorem OkI.up {M2 S2 : Nat} {d : PyData} (h : OkI M S n d) (h1 : M ≤ M2) (h2 : S ≤ S2) : OkI M2 S2 n d := ⟨h.ok.up h1 h2, h.ib⟩
theorem OkI.mono {m : Nat} {d : PyData} (h : OkI M S n d) (l : n ≤ m) : OkI M S m d := ⟨h.ok.mono l, h.ib⟩
theorem oki_tup {ds : List PyData} (h : ∀ d ∈ ds, OkI M S n d) (l : ds.length ≤ M) : OkI M S (n + 1) (.tuple ds) := ⟨ok_tup (fun d hd => (h d hd).ok) l, iA_of fun d hd => (h d hd).ib⟩
theorem oki_lst {ds : List PyData} (h : ∀ d ∈ ds, OkI M S n d) (l : ds.length ≤ M) : OkI M S (n + 1) (.list ds) := ⟨ok_lst (fun d hd => (h d hd).ok) l, iA_of fun d hd => (h d hd).ib⟩
theorem oki_non (n : Nat) : OkI M S n .none := ⟨ok_non n, rfl⟩
theorem oki_bl (n : Nat) (b : Bool) : OkI M S n (.bool b) := ⟨ok_bl n b, rfl⟩
theorem oki_int (n : Nat) (i : Int) (h : i.natAbs ≤ 1000000000) : OkI M S n (.int i) := ⟨L2.Vx.ok_int n i, decide_eq_true h⟩
theorem oki_str (n : Nat) {x : Str} (h : PyData.strOk x = true) (l : x.length ≤ S) : OkI M S n (.str x) := ⟨ok_str n h l, rfl⟩
theorem oki_tup1 {ds : List PyData} (h : OkI M S (n + 1) (.tuple ds)) : ∀ d ∈ ds, OkI M S n d := by
  obtain ⟨⟨h1, h2, h3⟩, hi⟩ := h
  simp only [PyData.canLay0] at h1
  simp only [PyData.depth] at h2
  simp only [szD, Bool.and_eq_true, decide_eq_true_eq] at h3
  exact fun d hd => ⟨okAll_mem ⟨h1, by omega, h3.2⟩ d hd, iA_mem (show iA ds = true from hi) d hd⟩
end
/-! ### heaps without some objects -/
def awyZ (Z : List Addr) (H : Hp) : Hp := fun a => if a ∈ Z then none else H a
def ButZ (Z : List Addr) (H H' : Hp) : Prop := ∀ b o, b ∉ Z → H b = some o → H' b = some o
theorem awyZ_le {Z : List Addr} {H : Hp} : Same (awyZ Z H) H := fun b o e => by
  unfold awyZ at e
  by_cases h : b ∈ Z
  · rw [if_pos h] at e; cases e
  · rw [if_neg h] at e; exact e
theorem awyZ_but {Z : List Addr} {H H' : Hp} (k : ButZ Z H H') : Same (awyZ Z H) (awyZ Z H') := fun b o e => by
  unfold awyZ at e ⊢
  by_cases h : b ∈ Z
  · rw [if_pos h] at e; cases e
  · rw [if_neg h] at e ⊢; exact k _ _ h e
theorem awyZ_sub {Y Z : List Addr} {H : Hp} (k : ∀ a ∈ Y, a ∈ Z) : Same (awyZ Z H) (awyZ Y H) := fun b o e => by
  unfold awyZ at e ⊢
  by_cases h : b ∈ Z
  · rw [if_pos h] at e; cases e
  · rw [if_neg h] at e
    rw [if_neg (fun z => h (k _ z))]
    exact e
theorem ButZ.of {Z : List Addr} {H H' : Hp} (s : Same H H') : ButZ Z H H' := fun b o _ e => s b o e
theorem ButZ.trans {Z : List Addr} {H H1 H2 : Hp} (a : ButZ Z H H1) (b : ButZ Z H1 H2) : ButZ Z H H2 := fun c o n e => b c o n (a c o n e)
theorem But.z {p : Addr} {Z : List Addr} {H H' : Hp} (k : But p H H') (h : p ∈ Z) : ButZ Z H H' := fun b o n e => k b o (fun z => n (by rw [z]; exact h)) e
theorem But.z1 {p : Addr} {H H' : Hp} (k : But p H H') : ButZ [p] H H' := k.z (List.mem_singleton.mpr rfl)
theorem Pot.z1 {H : Hp} {p : Addr} {k : Int} (h : Pot H p k) : ∀ z ∈ [p], ∃ o, H z = Option.some o := fun z hz => by
  rw [List.mem_singleton.mp hz]
  exact h.some
theorem Pot.nz {H : Hp} {p a : Addr} {k : Int} (h : Pot H p k) (e : H a = none) : a ∉ [p] := fun z => h.ne e (List.mem_singleton.mp z)
theorem awy_z {p : Addr} {H : Hp} : Same (awy p H) (awyZ [p] H) := fun b o e => by
  unfold awy at e
  unfold awyZ
  by_cases h : b = p
  · rw [if_pos h] at e; cases e
  · rw [if_neg h] at e
    rw [if_neg (fun z => h (List.mem_singleton.mp z))]
    exact e
section
variable {K : Frag} {Z : List Addr} {M S n : Nat} {σ : St} {H0 : Hp} {te tf : TE} {ta : TA}
def Da (K : Frag) (Z : List Addr) (M S n : Nat) (H : Hp) (v : V) : Prop := ∃ d, Dw K (awyZ Z H) v d ∧ OkI M S n d
def DaT (K : Frag) (Z : List Addr) (M S n : Nat) (H : Hp) (v : V) : Prop := ∃ d, isTupD d = true ∧ Dw K (awyZ Z H) v d ∧ OkI M S n d
theorem awyZ_same {H H' : Hp} (s : Same H H') : Same (awyZ Z H) (awyZ Z H') := awyZ_but (ButZ.of s)
theorem awyZ_at {H : Hp} {a : Addr} (h : a ∉ Z) : awyZ Z H a = H a := if_neg h
theorem Da.but {H H' : Hp} {v : V} (h : Da K Z M S n H v) (k : ButZ Z H H') : Da K Z M S n H' v := by
  obtain ⟨d, a, b⟩ := h
  exact ⟨d, Dw_keep (awyZ_but k) a, b⟩
theorem DaT.but {H H' : Hp} {v : V} (h : DaT K Z M S n H v) (k : ButZ Z H H') : DaT K Z M S n H' v := by
  obtain ⟨d, t, a, b⟩ := h
  exact ⟨d, t, Dw_keep (awyZ_but k) a, b⟩
theorem Da.same {H H' : Hp} {v : V} (h : Da K Z M S n H v) (s : Same H H') : Da K Z M S n H' v := h.but (ButZ.of s)
theorem DaT.same {H H' : Hp} {v : V} (h : DaT K Z M S n H v) (s : Same H H') : DaT K Z M S n H' v := h.but (ButZ.of s)
theorem DaT.da {H : Hp} {v : V} (h : DaT K Z M S n H v) : Da K Z M S n H v := by
  obtain ⟨d, _, a, b⟩ := h
  exact ⟨d, a, b⟩
theorem Da.up {M' S' n' : Nat} {H : Hp} {v : V} (h : Da K Z M S n H v) (h1 : M ≤ M') (h2 : S ≤ S') (h3 : n ≤ n') : Da K Z M' S' n' H v := by
  obtain ⟨d, a, b⟩ := h
  exact ⟨d, a, (b.up h1 h2).mono h3⟩
theorem DaT.up {M' S' n' : Nat} {H : Hp} {v : V} (h : DaT K Z M S n H v) (h1 : M ≤ M') (h2 : S ≤ S') (h3 : n ≤ n') : DaT K Z M' S' n' H v := by
  obtain ⟨d, t, a, b⟩ := h
  exact ⟨d, t, a, (b.up h1 h2).mono h3⟩
theorem da_all {H : Hp} : ∀ {xs : List V}, (∀ v ∈ xs, Da K Z M S n H v) → ∃ ds, DwAll K (awyZ Z H) xs ds ∧ (∀ d ∈ ds, OkI M S n d) ∧ ds.length = xs.length
  | [], _ => ⟨[], .nil, fun _ h => (by cases h), rfl⟩
  | x :: xs, h => by
    obtain ⟨ds, a, b, l⟩ := da_all fun v hv => h v (List.mem_cons_of_mem _ hv)
    obtain ⟨d, a1, b1⟩ := h x (List.mem_cons_self ..)
    refine ⟨d :: ds, .cons a1 a, fun e he => ?_, by rw [List.length_cons, List.length_cons, l]⟩
    rcases List.mem_cons.mp he with rfl | he
    · exact b1
    · exact b e he
theorem mk_tup {H : Hp} {r : Addr} {xs : List V} (hr : r ∉ Z) (hp : PlT H r xs) (h : ∀ v ∈ xs, Da K Z M S n H v) (l : xs.length ≤ M) : DaT K Z M S (n + 1) H (.ref r) := by
  obtain ⟨ds, a, b, e⟩ := da_all h
  have hp2 : PlT (awyZ Z H) r xs := by
    obtain ⟨o, e, z⟩ := hp
    exact ⟨o, (awyZ_at hr).trans e, z⟩
  exact ⟨.tuple ds, rfl, .tup hp2.sq (fun _ => hp2) a, oki_tup b (by rw [e]; exact l)⟩
theorem mk_lst {H : Hp} {r : Addr} {xs : List V} (hr : r ∉ Z) (hp : H r = some (.lst xs)) (h : ∀ v ∈ xs, Da K Z M S n H v) (l : xs.length ≤ M) : Da K Z M S (n + 1) H (.ref r) := by
  obtain ⟨ds, a, b, e⟩ := da_all h
  exact ⟨.list ds, .lst (SqL.of ((awyZ_at hr).trans hp)) a, oki_lst b (by rw [e]; exact l)⟩
theorem dwAll_mem {H : Hp} {v : V} : ∀ {xs : List V} {ds : List PyData}, DwAll K H xs ds → v ∈ xs → ∃ d, d ∈ ds ∧ Dw K H v d
  | _, _, .nil, h => by cases h
  | _, _, .cons a t, h => by
    rcases List.mem_cons.mp h with rfl | h
    · exact ⟨_, by simp, a⟩
    · obtain ⟨d, h1, h2⟩ := dwAll_mem t h
      exact ⟨d, List.mem_cons_of_mem _ h1, h2⟩
theorem get_tup {H : Hp} {v : V} (h : DaT K Z M S (n + 1) H v) : ∃ (a : Addr) (xs : List V), v = .ref a ∧ SqT K H a xs ∧ xs.length ≤ M ∧ ∀ x ∈ xs, Da K Z M S n H x := by
  obtain ⟨d, ht, hd, hok⟩ := h
  obtain ⟨a, xs, ds, rfl, rfl, hx, hall, _⟩ := dw_tup hd ht
  refine ⟨a, xs, rfl, sqt_same awyZ_le hx, by rw [hall.len]; exact hok.ok.tup.2, fun x hx => ?_⟩
  obtain ⟨d, hd, hw⟩ := dwAll_mem hall hx
  exact ⟨d, hw, oki_tup1 hok d hd⟩
/-- .. makes such data -/
def GX (K : Frag) (Z : List Addr) (M S n : Nat) (σ : St) (H0 : Hp) (te : TE) : Prop := ∀ (H : Hp) (Q : VK), Same H0 H → (∀ v H', Same H H' → Da K Z M S n H' v → Q v H') → te σ H Q
def GXT (K : Frag) (Z : List Addr) (M S n : Nat) (σ : St) (H0 : Hp) (te : TE) : Prop := ∀ (H : Hp) (Q : VK), Same H0 H → (∀ v H', Same H H' → DaT K Z M S n H' v → Q v H') → te σ H Q
def GXA (K : Frag) (Z : List Addr) (M S n : Nat) (σ : St) (H0 : Hp) (m : Nat) (ta : TA) : Prop := ∀ (H : Hp) (Q : List V → Hp → Prop), Same H0 H → (∀ vs H', Same H H' → vs.length = m → (∀ v ∈ vs, Da K Z M S n H' v) → Q vs H') → ta σ H Q
theorem GXT.gx (h : GXT K Z M S n σ H0 te) : GX K Z M S n σ H0 te := fun H Q s q => h H Q s fun v H' s1 d => q v H' s1 d.da
theorem GX.up {M' S' n' : Nat} (h : GX K Z M S n σ H0 te) (h1 : M ≤ M') (h2 : S ≤ S') (h3 : n ≤ n') : GX K Z M' S' n' σ H0 te := fun H Q s q => h H Q s fun v H' s1 d => q v H' s1 (d.up h1 h2 h3)
theorem GXT.up {M' S' n' : Nat} (h : GXT K Z M S n σ H0 te) (h1 : M ≤ M') (h2 : S ≤ S') (h3 : n ≤ n') : GXT K Z M' S' n' σ H0 te := fun H Q s q => h H Q s fun v H' s1 d => q v H' s1 (d.up h1 h2 h3)
theorem gx_var {i : Nat} {v : V} (e : σ[i]? = some (some v)) (h : Da K Z M S n H0 v) : GX K Z M S n σ H0 (tVar i) := fun H Q s q => ⟨v, e, q v H (Same.refl H) (h.same s)⟩
theorem gxt_var {i : Nat} {v : V} (e : σ[i]? = some (some v)) (h : DaT K Z M S n H0 v) : GXT K Z M S n σ H0 (tVar i) := fun H Q s q => ⟨v, e, q v H (Same.refl H) (h.same s)⟩
theorem gx_non : GX K Z M S n σ H0 (tC .non) := fun H Q s q => q _ H (Same.refl H) ⟨.none, .non, oki_non n⟩
theorem gx_bl (b : Bool) : GX K Z M S n σ H0 (tC (.bl b)) := fun H Q s q => q _ H (Same.refl H) ⟨.bool b, .bl b, oki_bl n b⟩
theorem gx_int (i : Int) (hi : i.natAbs ≤ 1000000000) : GX K Z M S n σ H0 (tC (.int i)) := fun H Q s q => q _ H (Same.refl H) ⟨.int i, .int i, oki_int n i hi⟩
theorem da_int {H : Hp} (i : Int) (hi : i.natAbs ≤ 1000000000) : Da K Z M S n H (.int i) := ⟨.int i, .int i, oki_int n i hi⟩
theorem da_str {H : Hp} {x : Str} (h : PyData.strOk x = true) (l : x.length ≤ S) : Da K Z M S n H (.str x) := ⟨.str x, .str x, oki_str n h l⟩
theorem gx_str {x : Str} (h : PyData.strOk x = true) (l : x.length ≤ S) : GX K Z M S n σ H0 (tC (.str x)) := fun H Q s q => q _ H (Same.refl H) (da_str h l)
theorem gx_neg (i : Int) (hi : (-i).natAbs ≤ 1000000000) : GX K Z M S n σ H0 (tUn (rU fun i => .int (-i)) (tC (.int i))) := fun H Q s q => ⟨i, rfl, q _ H (Same.refl H) (da_int _ hi)⟩
theorem gx_nil : GXA K Z M S n σ H0 0 tNil := fun H Q s q => q [] H (Same.refl H) rfl fun v h => by cases h
theorem gx_cons {m : Nat} (h : GX K Z M S n σ H0 te) (t : GXA K Z M S n σ H0 m ta) : GXA K Z M S n σ H0 (m + 1) (tCons te ta) := fun H Q s q =>
  h H _ s fun v H1 s1 d => t H1 _ (s.trans s1) fun vs H2 s2 l a => q (v :: vs) H2 (s1.trans s2) (by rw [List.length_cons, l]) fun u hu => by
    rcases List.mem_cons.mp hu with rfl | hu
    · exact d.same s2
    · exact a u hu
theorem gx_tup {m : Nat} (hp : ∀ z ∈ Z, ∃ o, H0 z = some o) (h : GXA K Z M S n σ H0 m ta) (l : m ≤ M) (l2 : m ≤ 1000) : GXT K Z M S (n + 1) σ H0 (tTupF ta) := fun H Q s q => h H _ s fun vs H1 s1 e a => by
  refine ⟨Nat.le_trans (by rw [e]; exact l2) (by decide), fun r H' hr s2 pl => q (.ref r) H' (s1.trans s2) (mk_tup (fun z => ?_) pl (fun v hv => (a v hv).same s2) (by rw [e]; exact l))⟩
  obtain ⟨o, eo⟩ := hp _ z
  rw [(s.trans s1) _ _ eo] at hr
  cases hr
theorem gx_lst {m : Nat} (hp : ∀ z ∈ Z, ∃ o, H0 z = some o) (h : GXA K Z M S n σ H0 m ta) (l : m ≤ M) (l2 : m ≤ 1000) : GX K Z M S (n + 1) σ H0 (tLst ta) := fun H Q s q => h H _ s fun vs H1 s1 e a => by
  refine ⟨Nat.le_trans (by rw [e]; exact l2) (by decide), fun r hr => q (.ref r) _ (s1.trans (same_new hr)) (mk_lst (fun z => ?_) upd_same (fun v hv => (a v hv).same (same_new hr)) (by rw [e]; exact l))⟩
  obtain ⟨o, eo⟩ := hp _ z
  rw [(s.trans s1) _ _ eo] at hr
  cases hr
/-- a part of a slice -/
def PX (σ : St) (tl : TO) (o : Option Int) : Prop := ∀ (H : Hp) (Q : Option Int → Hp → Prop), Q o H → tl σ H Q
theorem px_none : PX σ tNoPart none := fun _ _ q => q
theorem px_int (i : Int) : PX σ (tPart (tC (.int i))) (some i) := fun _ _ q => ⟨i, rfl, q⟩
theorem px_neg (i : Int) : PX σ (tPart (tUn (rU fun i => .int (-i)) (tC (.int i)))) (some (-i)) := fun _ _ q => ⟨i, rfl, -i, rfl, q⟩
theorem px_var {i : Nat} {j : Int} (e : σ[i]? = some (some (.int j))) : PX σ (tPart (tVar i)) (some j) := fun _ _ q => ⟨_, e, j, rfl, q⟩
theorem px_add {i : Nat} {j k : Int} (e : σ[i]? = some (some (.int j))) : PX σ (tPart (tOp (rI0 fun i j => .int (i + j)) (tVar i) (tC (.int k)))) (some (j + k)) := fun _ _ q => ⟨_, e, j, k, rfl, rfl, j + k, rfl, q⟩
theorem mem_cutV {xs : List V} {lo hi : Option Int} {v : V} (h : v ∈ cutV xs lo hi) : v ∈ xs := List.mem_of_mem_drop (List.mem_of_mem_take h)
theorem gx_slice {tl th : TO} {lo hi : Option Int} (hp : ∀ z ∈ Z, ∃ o, H0 z = some o) (h : GXT K Z M S (n + 1) σ H0 te) (hl : PX σ tl lo) (hh : PX σ th hi) : GXT K Z M S (n + 1) σ H0 (tSl (rSlF K) te tl th) := fun H Q s q => h H _ s fun v H1 s1 d => hl _ _ (hh _ _ (by
  obtain ⟨a, xs, rfl, hx, l, hm⟩ := get_tup d
  refine ⟨a, xs, rfl, hx, fun _ => q (.ref a) H1 s1 d, fun r H' hr s2 pl => q (.ref r) H' (s1.trans s2) (mk_tup (fun z => ?_) pl (fun v hv => (hm v (mem_cutV hv)).same s2) (Nat.le_trans (cutV_length _ _ _) l))⟩
  obtain ⟨o, eo⟩ := hp _ z
  rw [(s.trans s1) _ _ eo] at hr
  cases hr))
theorem gx_rev (hp : ∀ z ∈ Z, ∃ o, H0 z = some o) (h : GXT K Z M S (n + 1) σ H0 te) : GXT K Z M S (n + 1) σ H0 (tRevF K te) := fun H Q s q => h H _ s fun v H1 s1 d => by
  obtain ⟨a, xs, rfl, hx, l, hm⟩ := get_tup d
  refine ⟨a, xs, rfl, hx, fun r H' hr s2 pl => q (.ref r) H' (s1.trans s2) (mk_tup (fun z => ?_) pl (fun v hv => (hm v (List.mem_reverse.mp hv)).same s2) (by rw [List.length_reverse]; exact l))⟩
  obtain ⟨o, eo⟩ := hp _ z
  rw [(s.trans s1) _ _ eo] at hr
  cases hr
theorem gx_cat {M2 : Nat} (hp : ∀ z ∈ Z, ∃ o, H0 z = some o) (h : GXT K Z M S (n + 1) σ H0 te) (g : GXT K Z M2 S (n + 1) σ H0 tf) (hM : M + M2 ≤ 8000000) : GXT K Z (M + M2) S (n + 1) σ H0 (tOp (rCatF K) te tf) := fun H Q s q => h H _ s fun v H1 s1 d => g H1 _ (s.trans s1) fun u H2 s2 e => by
  have d2 := d.same s2
  obtain ⟨a, xs, rfl, hx, l, hm⟩ := get_tup d2
  obtain ⟨b, ys, rfl, hy, l2, hm2⟩ := get_tup e
  refine ⟨a, b, xs, ys, rfl, rfl, hx, hy, Nat.le_trans (by omega : _ ≤ 8000000) (by decide), fun _ => q _ H2 (s1.trans s2) (e.up (Nat.le_add_left _ _) (Nat.le_refl _) (Nat.le_refl _)), fun _ _ => q _ H2 (s1.trans s2) (d2.up (Nat.le_add_right _ _) (Nat.le_refl _) (Nat.le_refl _)), fun _ _ r H' hr s3 pl => q (.ref r) H' ((s1.trans s2).trans s3) (mk_tup (fun z => ?_) pl (fun v hv => ?_) (by rw [List.length_append]; omega))⟩
  · obtain ⟨o, eo⟩ := hp _ z
    rw [((s.trans s1).trans s2) _ _ eo] at hr
    cases hr
  · rcases List.mem_append.mp hv with hv | hv
    · exact ((hm v hv).same s3).up (Nat.le_add_right _ _) (Nat.le_refl _) (Nat.le_refl _)
    · exact ((hm2 v hv).same s3).up (Nat.le_add_left _ _) (Nat.le_refl _) (Nat.le_refl _)
/-- list(t) -/
theorem gx_list {r : List V → Hp → VK → Prop} (hr : ∀ (xs : List V) (H : Hp) (Q : VK), (∃ p ys, xs = [V.ref p] ∧ (SqL K H p ys ∨ SqT K H p ys) ∧ ∀ l, H l = none → Q (.ref l) (upd H l (.lst ys))) → r xs H Q) (hp : ∀ z ∈ Z, ∃ o, H0 z = some o) (h : GXT K Z M S (n + 1) σ H0 te) : GX K Z M S (n + 1) σ H0 (tCB r (tCons te tNil)) := fun H Q s q => h H _ s fun v H1 s1 d => by
  obtain ⟨a, xs, rfl, hx, l, hm⟩ := get_tup d
  refine hr _ _ _ ⟨a, xs, rfl, .inr hx, fun t ht => q (.ref t) _ (s1.trans (same_new ht)) (mk_lst (fun z => ?_) upd_same (fun v hv => (hm v hv).same (same_new ht)) l)⟩
  obtain ⟨o, eo⟩ := hp _ z
  rw [(s.trans s1) _ _ eo] at ht
  cases ht
/-- one of a list of such data, by a call of _law_of -/
theorem strOk_app {x y : Str} (h : PyData.strOk x = true) (k : PyData.strOk y = true) : PyData.strOk (x ++ y) = true := by
  unfold PyData.strOk at h k ⊢
  show (x.cps ++ y.cps).all _ = true
  rw [Array.all_append, h, k]
  rfl
theorem strOk_cut {x : Str} {lo hi : Option Int} (h : PyData.strOk x = true) : PyData.strOk (cutS x lo hi) = true := by
  unfold PyData.strOk at h ⊢
  unfold cutS
  rw [← Array.all_toList] at h ⊢
  rw [List.all_eq_true] at h ⊢
  exact fun c hc => h c (List.mem_of_mem_drop (List.mem_of_mem_take (by simpa using hc)))
theorem str_app_len (x y : Str) : (x ++ y).length = x.length + y.length := Array.size_append ..
end
end L2.K04

set_option Elab.async false
set_option linter.all false
set_option maxRecDepth 100000
set_option maxHeartbeats 4000000
namespace L2.K04
open PySem PySem.Spec PyProof.Rows L2.Vx
open PySem.W (Frag)
/-! ### bent data -/
theorem log2_small {n : Nat} (h : n ≤ 1000000000) : n.log2 < 1920 := by
  by_cases h0 : n = 0
  · rw [h0]; decide +kernel
  · exact (Nat.log2_lt h0).mpr (Nat.lt_of_le_of_lt h (by decide +kernel))
theorem strOk_of (s : String) : PyData.strOk (Str.ofString s) = true := by
  rw [PySem.Str.ofString_eq_toList]
  unfold PyData.strOk
  rw [← Array.all_toList, List.all_eq_true]
  intro c hc
  obtain ⟨a, _, rfl⟩ := List.mem_map.mp (show c ∈ s.toList.map Char.toNat by simpa using hc)
  refine decide_eq_true ?_
  have h := a.valid
  have e : a.toNat = a.val.toNat := rfl
  rw [e]
  rcases h with h | ⟨_, h⟩
  · exact Nat.lt_trans h (by decide)
  · exact h
theorem int_strOk (i : Int) : PyData.strOk (Str.ofString (toString i)) = true := strOk_of _
theorem int_len {i : Int} (h : i.natAbs ≤ 1000000000) : (Str.ofString (toString i)).length ≤ 12 := by
  have e : (Str.ofString (toString i)).length = (toString i).length := PySem.ofString_length _
  rw [e]
  exact Nat.le_trans (int_text_length_le10 (k := 10) (by decide) (Nat.lt_of_le_of_lt h (by decide))) (by decide)

mutual
def plnD : PyData → Bool
  | .str _ => true
  | .int i => decide (i.natAbs ≤ 999999999)
  | .tuple ds => plnA ds
  | _ => false
def plnA : List PyData → Bool
  | [] => true
  | d :: ds => plnD d && plnA ds
end
theorem plnA_mem : ∀ {ds : List PyData}, plnA ds = true → ∀ d ∈ ds, plnD d = true
  | [], _, d, h => by cases h
  | e :: ds, h, d, hd => by
    have h2 := Bool.and_eq_true_iff.mp (show (plnD e && plnA ds) = true from h)
    rcases List.mem_cons.mp hd with rfl | hd
    · exact h2.1
    · exact plnA_mem h2.2 d hd
theorem plnA_of : ∀ {ds : List PyData}, (∀ d ∈ ds, plnD d = true) → plnA ds = true
  | [], _ => rfl
  | e :: ds, h => by
    show (plnD e && plnA ds) = true
    rw [h e (List.mem_cons_self ..), plnA_of fun d hd => h d (List.mem_cons_of_mem _ hd)]
    rfl
section
variable {P : Program} {w : World} {K : Frag} {mg : Str → Option Value} {bs : Heap}
variable {Z : List Addr} {p : Addr} {M S n : Nat} {σ : St} {H0 : Hp} {te tf : TE} {ta : TA}
theorem gx_adds {i : Nat} {x y : Str} (e : σ[i]? = some (some (.str x))) (hx : PyData.strOk x = true) (hy : PyData.strOk y = true) (l : x.length + y.length ≤ S) (hS : S ≤ 1000) : GX K Z M S n σ H0 (tOp (fun x y H Q => ∃ i j, x = .str i ∧ y = .str j ∧ i.length + j.length ≤ sizeLine ∧ Q (.str (i ++ j)) H) (tVar i) (tC (.str y))) := fun H Q s q =>
  ⟨_, e, x, y, rfl, rfl, Nat.le_trans (by omega : _ ≤ 1000) (by decide), q _ H (Same.refl H) (da_str (strOk_app hx hy) (by rw [str_app_len]; exact l))⟩
theorem gx_cuts {i : Nat} {x : Str} {tl th : TO} {lo hi : Option Int} (e : σ[i]? = some (some (.str x))) (hx : PyData.strOk x = true) (l : x.length ≤ S) (hS : S ≤ 1000) (hl : PX σ tl lo) (hh : PX σ th hi) : GX K Z M S n σ H0 (tSl rSlS (tVar i) tl th) := fun H Q s q =>
  ⟨_, e, hl _ _ (hh _ _ ⟨x, rfl, Nat.le_trans (by omega : _ ≤ 1000) (by decide), q _ H (Same.refl H) (da_str (strOk_cut hx) (Nat.le_trans (cutS_length _ _ _) l))⟩)⟩
theorem gx_addi {i : Nat} {a b : Int} {g : Int → Int → Int} (e : σ[i]? = some (some (.int a))) (hi : (g a b).natAbs ≤ 1000000000) : GX K Z M S n σ H0 (tOp (rI0 fun i j => .int (g i j)) (tVar i) (tC (.int b))) := fun H Q s q => ⟨_, e, a, b, rfl, rfl, q _ H (Same.refl H) (da_int _ hi)⟩
theorem gx_eqi {i : Nat} {a b : Int} (e : σ[i]? = some (some (.int a))) : GX K Z M S n σ H0 (tOp rEq (tVar i) (tC (.int b))) := fun H Q s q => ⟨_, e, rfl, q _ H (Same.refl H) ⟨.bool _, .bl _, oki_bl n _⟩⟩
theorem gx_stri {i : Nat} {a : Int} {r : List V → Hp → VK → Prop} (hr : ∀ (H : Hp) (Q : VK), Q (.str (toString a)) H → r [.int a] H Q) (e : σ[i]? = some (some (.int a))) (h : a.natAbs ≤ 1000000000) (hS : 12 ≤ S) : GX K Z M S n σ H0 (tCB r (tCons (tVar i) tNil)) := fun H Q s q => ⟨_, e, hr _ _ (q _ H (Same.refl H) (da_str (int_strOk a) (Nat.le_trans (int_len h) hS)))⟩
theorem gx_negi {i : Nat} {a : Int} (e : σ[i]? = some (some (.int a))) (hi : (-a).natAbs ≤ 1000000000) : GX K Z M S n σ H0 (tUn (rU fun i => .int (-i)) (tVar i)) := fun H Q s q => ⟨_, e, a, rfl, q _ H (Same.refl H) (da_int _ hi)⟩
/-- one of a written list -/
theorem of_list {m i : Nat} {k : Int} {E : XK} {Q : VK} (hpZ : p ∈ Z) (h : GXA K Z M S n σ H0 m ta) (m0 : 0 < m) (m1 : m ≤ 1000) (hP : Pot H0 p k) (hk : k < 1000000) (e : σ[i]? = some (some (.ref p))) (q : ∀ H' u, But p H0 H' → Pot H' p (k + 1) → Da K Z M S n H' u → Q u H') :
    tCall (spOf K) [] E (tCons (tVar i) (tCons (tLst ta) tNil)) σ H0 Q := by
  refine ⟨_, e, h H0 _ (Same.refl H0) fun vs H1 s1 l a => ⟨Nat.le_trans (by rw [l]; exact m1) (by decide), fun r hr => ?_⟩⟩
  have s2 := same_new (o := .lst vs) hr
  have hP2 := hP.same (s1.trans s2)
  refine ⟨p, r, vs, k, rfl, (hP.same s1).ne hr, SqL.of upd_same, by omega, by omega, hk, hP2, fun H' v k3 hP3 hv => q H' v ((But.of (s1.trans s2)).trans k3) hP3 (((a v hv).same s2).but (k3.z hpZ))⟩
theorem pot_sq {H : Hp} {a : Addr} {xs : List V} {k : Int} (hP : Pot H p k) (h : PlT H a xs) : a ≠ p := by
  obtain ⟨_, _, _, ep, _⟩ := hP
  obtain ⟨o, e, _⟩ := h
  exact fun z => by rw [z, ep] at e; cases e
theorem cat_z {Q : VK} {H : Hp} {a b : Addr} {xs ys : List V} (hZ : ∀ z ∈ Z, ∃ o, H z = some o) (ha : SqT K H a xs) (hb : SqT K H b ys) (hz : xs.length + ys.length ≤ sizeLine) (pa : ys = [] → PlT H a xs ∧ a ∉ Z) (pb : xs = [] → PlT H b ys ∧ b ∉ Z)
    (q : ∀ r H', r ∉ Z → Same H H' → PlT H' r (xs ++ ys) → Q (.ref r) H') : rCatF K (.ref a) (.ref b) H Q := by
  refine ⟨a, b, xs, ys, rfl, rfl, ha, hb, hz, fun h => ?_, fun _ h => ?_, fun _ _ r H' hr s1 h1 => q r H' (fun z => ?_) s1 h1⟩
  · subst h
    exact q b H (pb rfl).2 (Same.refl H) (pb rfl).1
  · subst h
    exact q a H (pa rfl).2 (Same.refl H) (by rw [List.append_nil]; exact (pa rfl).1)
  · obtain ⟨o, eo⟩ := hZ r z
    rw [eo] at hr
    cases hr
theorem sl_sq {Q : VK} {H : Hp} {a : Addr} {xs : List V} {lo hi : Option Int} (hx : SqT K H a xs) (q : ∀ r H', Same H H' → SqT K H' r (cutV xs lo hi) → Q (.ref r) H') : rSlF K (.ref a) lo hi H Q :=
  ⟨a, xs, rfl, hx, fun h => q a H (Same.refl H) (by rw [cut_whole h]; exact hx), fun r H' _ s1 h1 => q r H' s1 h1.sq⟩
abbrev btN : List Str := ["pot", "value", "at", "some"]
theorem scBent : FnScope btN ["pot", "value"] (defScope sBent) := ⟨rfl, rfl, rfl, by decide +kernel, rfl, by decide +kernel, by decide +kernel⟩
structure FxBt (mg : Str → Option Value) : Prop where
  isi : mg "isinstance" = none
  tup : mg "tuple" = none
  str : mg "str" = none
  int : mg "int" = none
  bool : mg "bool" = none
  list : mg "list" = none
  len : mg "len" = none
theorem seq_mid {t u : TS} {D : Ends} {σ : St} {H : Hp} (C : Hp → Prop) (rest : ∀ Hc, C Hc → u D σ Hc) (here : ∀ N : St → Hp → Prop, (∀ Hc, C Hc → N σ Hc) → t { D with nx := N } σ H) : tSeq t u D σ H := here (u D) fun Hc h => rest Hc h
theorem bent_tail {f fO : Addr} {fdO : FuncData} {cdv : Value} {A : Around} {outer : List Env} {s : Shared} {H : Hp} {E : XK} (F : FxBt mg) (hr : Room 2 (A.deeper (envOfC "_law_bent" (defScope sBent) s.heap.objs.size f cdv)))
    (GO : FnOk P w K mg bs CX0 2 fO fdO ["pot", "some"] (spOf K)) (kO : PySem.W.keepIn K (.ref fO) = true) (gO : mg "_law_of" = some (.ref fO)) (bO : Binds K fdO ["pot", "some"] []) :
    ∃ t, PSs (cxOf CX0 P w K mg bs btN "_law_bent" (defScope sBent) f cdv A outer s H E).nox ((defBody sBent).drop 2) t ∧
      ∀ (D : Ends) (Z : List Addr) (p : Addr) (v : V) (d : PyData) (M S n : Nat) (k : Int) (Hn : Hp), p ∈ Z → (∀ z ∈ Z, ∃ o, Hn z = some o) → plnD d = true → isTupD d = false → Dw K (awyZ Z Hn) v d → OkI M S n d → 1 ≤ M → 12 ≤ S → S ≤ 900 → Pot Hn p k → k < 1000000 →
        (∀ H' u, But p Hn H' → Pot H' p (k + 1) → Da K Z (2 * M + 1) (S + 1) (n + 1) H' u → D.rt u H') → t D [some (.ref p), some v, none, none] Hn := by
  have sc := scBent
  refine ⟨_, pss_cons (ps_if (pt_val (pe_callB call_isi (by rfl) F.isi boot_isinstance (pa_cons (pv 1) (pa_cons (pe_bltn (v := .ty "str") (by rfl) F.str boot_str rfl) pa_nil)))) (pss_one (ps_ret (pe_call GO hr (by rfl) gO kO bO .nil pass0 (pa_cons (pv 0) (pa_cons (pe_lst (pa_cons (pe_op op_add_str (pv 1) pe_str) (pa_cons (pe_slice sl_str (pv 1) po_none (po_some (pe_un un_neg pe_int))) (pa_cons (pe_op op_add_str (pv 1) pe_str) (pa_cons (pe_lst (pa_cons (pv 1) pa_nil)) (pa_cons pe_str (pa_cons pe_str (pa_cons pe_str (pa_cons pe_str (pa_cons pe_str (pa_cons pe_non (pa_cons pe_int pa_nil)))))))))))) pa_nil))))) pss_nil)
      (pss_cons (ps_if (pt_val (pe_callB call_isi (by rfl) F.isi boot_isinstance (pa_cons (pv 1) (pa_cons (pe_bltn (v := .ty "bool") (by rfl) F.bool boot_bool rfl) pa_nil)))) pss_dead pss_nil)
      (pss_cons (ps_if (pt_val (pe_callB call_isi (by rfl) F.isi boot_isinstance (pa_cons (pv 1) (pa_cons (pe_bltn (v := .ty "int") (by rfl) F.int boot_int rfl) pa_nil)))) (pss_one (ps_ret (pe_call GO hr (by rfl) gO kO bO .nil pass0 (pa_cons (pv 0) (pa_cons (pe_lst (pa_cons (pe_op op_add (pv 1) pe_int) (pa_cons (pe_op op_sub (pv 1) pe_int) (pa_cons (pe_cmpR op_eq (pv 1) pe_int (nomark _)) (pa_cons (pe_callTy call_str_int (by rfl) F.str boot_str (pa_cons (pv 1) pa_nil)) (pa_cons (pe_un un_neg pe_int) (pa_cons pe_int (pa_cons pe_int (pa_cons (pe_un un_neg (pv 1)) (pa_cons pe_non (pa_cons (pe_tupF (pa_cons (pv 1) pa_nil)) pa_nil))))))))))) pa_nil))))) pss_nil)
      (pss_one ps_dead))), ?_⟩
  intro D Z p v d M S n k Hn hpZ hp hpl hnt hd hok m1 s10 s900 hP hk q
  have hS : S + 1 ≤ 1000 := by omega
  cases d with
  | str x =>
    obtain ⟨x', rfl, ex⟩ := dw_str hd rfl
    obtain rfl := PyData.str.inj ex
    have hx : PyData.strOk x = true := by simpa [PyData.canLay0] using hok.ok.lay
    have lx : x.length ≤ S := by simpa [szD] using hok.ok.sz
    refine rd_seq (rd_if ?_)
    refine ⟨_, rfl, .str x, .ty "str", .type "str", _, true, rfl, .ty "str", .base (.str _), kit_ty (by decide +kernel), _, rfl, ?_⟩
    refine Eq.mpr (if_pos rfl) ?_
    refine rd_ret ?_
    refine of_list (i := 0) (k := k) hpZ (gx_cons (gx_adds rfl hx (by decide +kernel) (by show x.length + 1 ≤ _; omega) hS) (gx_cons (gx_cuts rfl hx (by omega) hS px_none (px_neg 1)) (gx_cons (gx_adds rfl hx (by decide +kernel) (by show x.length + 1 ≤ _; omega) hS)
      (gx_cons (gx_lst hp (gx_cons (gx_var rfl (da_str hx (by omega))) gx_nil) (by omega) (by decide)) (gx_cons (gx_str (by decide +kernel) (by show 1 ≤ _; omega)) (gx_cons (gx_str (by decide +kernel) (by show 5 ≤ _; omega)) (gx_cons (gx_str (by decide +kernel) (by show 1 ≤ _; omega))
      (gx_cons (gx_str (by decide +kernel) (by show 1 ≤ _; omega)) (gx_cons (gx_str (by decide +kernel) (by show 1 ≤ _; omega)) (gx_cons gx_non (gx_cons (gx_int _ (by decide)) gx_nil))))))))))) (by decide) (by decide) hP hk rfl q
  | int i =>
    have ev : v = .int i := by cases hd; rfl
    subst ev
    refine rd_seq (rd_if ?_)
    refine ⟨_, rfl, .int i, .ty "str", .type "int", _, false, rfl, .ty "str", .base (.int _), kit_ty (by decide +kernel), _, rfl, ?_⟩
    refine Eq.mpr (if_neg (by decide)) ?_
    dsimp only [tNext]
    refine rd_seq (rd_if ?_)
    refine ⟨_, rfl, .int i, .ty "bool", .type "int", _, false, rfl, .ty "bool", .base (.int _), kit_ty (by decide +kernel), _, rfl, ?_⟩
    refine Eq.mpr (if_neg (by decide)) ?_
    dsimp only [tNext]
    refine rd_seq (rd_if ?_)
    refine ⟨_, rfl, .int i, .ty "int", .type "int", _, true, rfl, .ty "int", .base (.int _), kit_ty (by decide +kernel), _, rfl, ?_⟩
    refine Eq.mpr (if_pos rfl) ?_
    refine rd_ret ?_
    have hi : decide (i.natAbs ≤ 999999999) = true := hpl
    rw [decide_eq_true_eq] at hi
    refine of_list (i := 0) (k := k) hpZ (gx_cons (gx_addi (g := fun i j => i + j) rfl (by show (i + 1).natAbs ≤ _; omega)) (gx_cons (gx_addi (g := fun i j => i - j) rfl (by show (i - 1).natAbs ≤ _; omega)) (gx_cons (gx_eqi rfl) (gx_cons (gx_stri (fun H Q h => ⟨i, rfl, log2_small (by omega), h⟩) rfl (by omega) (by omega))
      (gx_cons (gx_neg 1 (by decide)) (gx_cons (gx_int _ (by decide)) (gx_cons (gx_int _ (by decide)) (gx_cons (gx_negi rfl (by omega)) (gx_cons gx_non (gx_cons (gx_tup hp (gx_cons (gx_var rfl (da_int i (by omega))) gx_nil) (by omega) (by decide)).gx gx_nil)))))))))) (by decide) (by decide) hP hk rfl q
  | tuple ds => cases hnt
  | _ => cases hpl
def spBent (K : Frag) (n : Nat) : Sp := fun vs H Q _ => ∃ (p : Addr) (v : V) (d : PyData) (M S : Nat) (k : Int) (Z : List Addr), vs = [.ref p, v] ∧ p ∈ Z ∧ (∀ z ∈ Z, ∃ o, H z = some o) ∧ n ≤ 40 ∧ plnD d = true ∧ Dw K (awyZ Z H) v d ∧ OkI M S n d ∧ 1 ≤ M ∧ M ≤ 200000 ∧ 12 ≤ S ∧ S ≤ 900 ∧ Pot H p k ∧ k + 3 * (n + 1) < 1000000 ∧
  ∀ H' u, But p H H' → Pot H' p (k + 3 * (n + 1)) → Da K Z (2 * M + 1) (S + 1) (n + 1) H' u → Q u H'
theorem tup_depth {ds : List PyData} : ¬ OkI M S 0 (.tuple ds) := fun h => by
  have := h.ok.dep
  simp only [PyData.depth] at this
  omega
theorem tupD_of {d : PyData} (h : isTupD d = true) : ∃ ds, d = .tuple ds := by
  cases d <;> first | exact ⟨_, rfl⟩ | cases h
variable {f fO fT : Addr} {fd fdO fdT : FuncData}
theorem ok_bent (FP : FD K "_law_bent" sBent f fd) (F : FxBt mg) (gB : mg "_law_bent" = some (.ref f)) (bB : Binds K fd ["pot", "value"] [])
    (GO : FnOk P w K mg bs CX0 2 fO fdO ["pot", "some"] (spOf K)) (kO : PySem.W.keepIn K (.ref fO) = true) (gO : mg "_law_of" = some (.ref fO)) (bO : Binds K fdO ["pot", "some"] [])
    (GT : FnOk P w K mg bs CX0 1 fT fdT ["pot", "upto"] spTake) (kT : PySem.W.keepIn K (.ref fT) = true) (gT : mg "_law_take" = some (.ref fT)) (bT : Binds K fdT ["pot", "upto"] []) : ∀ n : Nat, FnOk P w K mg bs CX0 (n + 3) f fd ["pot", "value"] (spBent K n)
  | 0 => by
    have sc := scBent
    refine FP.ok scBent (fun vs H Q E h => ?_) (fun cdv A outer s H vs Q E hr h => ?_)
    · obtain ⟨p, v, d, M, S, k, Z, rfl, _⟩ := h
      rfl
    · obtain ⟨p, v, d, M, S, k, Z, rfl, hpZ, hZ, hn40, hpl, hd, hok, m1, m2, s10, s900, hP, hk, q⟩ := h
      obtain ⟨tt, pt, qt⟩ := bent_tail (f := f) (cdv := cdv) (outer := outer) (s := s) (H := H) (E := E) F hr GO kO gO bO
      have hnt : isTupD d = false := by
        cases h : isTupD d with
        | false => rfl
        | true =>
          obtain ⟨ds, rfl⟩ := tupD_of h
          exact absurd hok tup_depth
      have hd2 := Dw_keep awyZ_le hd
      refine ⟨_, pss_cons (ps_if (PW.pt (pw_and (pt_val (pe_callB call_isi (by rfl) F.isi boot_isinstance (pa_cons (pv 1) (pa_cons (pe_bltn (v := .ty "tuple") (by rfl) F.tup boot_tuple rfl) pa_nil)))) (pw_and (pt_cmpR (op_neD hr.units) (pv 1) (pe_tup pa_nil) (nomark _)) (pw_and1 (pt_cmpR op_gt (pe_call GT (hr.mono (by decide)) (by rfl) gT kT bT .nil pass0 (pa_cons (pv 0) (pa_cons pe_int pa_nil))) pe_int (nomark _)))))) pss_dead pss_nil)
      (pss_cons (ps_if (pt_val (pe_callB call_isi (by rfl) F.isi boot_isinstance (pa_cons (pv 1) (pa_cons (pe_bltn (v := .ty "tuple") (by rfl) F.tup boot_tuple rfl) pa_nil)))) pss_dead pss_nil) pt), ?_⟩
      refine rd_seq (rd_if ?_)
      refine ⟨_, rfl, v, .ty "tuple", _, _, isTupD d, rfl, .ty "tuple", hd2.ty, kit_ty (kit_tup d), _, rfl, ?_⟩
      rw [hnt]
      refine Eq.mpr (if_neg (by decide)) ?_
      dsimp only [tNext]
      refine rd_seq (rd_if ?_)
      refine ⟨_, rfl, v, .ty "tuple", _, _, isTupD d, rfl, .ty "tuple", hd2.ty, kit_ty (kit_tup d), _, rfl, ?_⟩
      rw [hnt]
      refine Eq.mpr (if_neg (by decide)) ?_
      dsimp only [tNext]
      exact qt _ Z p v d M S 0 k H hpZ hZ hpl hnt hd hok m1 s10 s900 hP (by omega) fun H' u k1 hP1 hu => q H' u k1 (hP1.mono (by omega)) hu
  | n + 1 => by
    have sc := scBent
    have GS := ok_bent FP F gB bB GO kO gO bO GT kT gT bT n
    have kS := FP.kp
    have gS := gB
    have bS := bB
    refine FP.ok scBent (fun vs H Q E h => ?_) (fun cdv A outer s H vs Q E hr h => ?_)
    · obtain ⟨p, v, d, M, S, k, Z, rfl, _⟩ := h
      rfl
    · obtain ⟨p, v, d, M, S, k, Z, rfl, hpZ, hZ, hn40, hpl, hd, hok, m1, m2, s10, s900, hP, hk, q⟩ := h
      have hr1 : Room 1 (A.deeper (envOfC "_law_bent" (defScope sBent) s.heap.objs.size f cdv)) := hr.mono (by omega)
      have hr2 : Room 2 (A.deeper (envOfC "_law_bent" (defScope sBent) s.heap.objs.size f cdv)) := hr.mono (by omega)
      obtain ⟨tt, pt, qt⟩ := bent_tail (f := f) (cdv := cdv) (outer := outer) (s := s) (H := H) (E := E) F hr2 GO kO gO bO
      have hd2 := Dw_keep awyZ_le hd
      refine ⟨_, pss_cons (ps_if (PW.pt (pw_and (pt_val (pe_callB call_isi (by rfl) F.isi boot_isinstance (pa_cons (pv 1) (pa_cons (pe_bltn (v := .ty "tuple") (by rfl) F.tup boot_tuple rfl) pa_nil)))) (pw_and (pt_cmpR (op_neD hr.units) (pv 1) (pe_tupF pa_nil) (nomark _)) (pw_and1 (pt_cmpR op_gt (pe_call GT hr1 (by rfl) gT kT bT .nil pass0 (pa_cons (pv 0) (pa_cons pe_int pa_nil))) pe_int (nomark _)))))) (pss_cons (ps_set (i := 2) sc.nd rfl (Or.inl rfl) (pe_call GT hr1 (by rfl) gT kT bT .nil pass0 (pa_cons (pv 0) (pa_cons (pe_callB call_len_seq (by rfl) F.len boot_len (pa_cons (pv 1) pa_nil)) pa_nil))))
        (pss_one (ps_ret (pe_op op_catF (pe_op op_catF (pe_slice sl_tupF (pv 1) po_none (po_some (pv 2))) (pe_tupF (pa_cons (pe_call GS hr (by rfl) gS kS bS .nil pass0 (pa_cons (pv 0) (pa_cons (pe_ix ix_tup (pv 1) (pv 2) (fun _ _ => rfl)) pa_nil))) pa_nil))) (pe_slice sl_tupF (pv 1) (po_some (pe_op op_add (pv 2) pe_int)) po_none))))) pss_nil)
      (pss_cons (ps_if (pt_val (pe_callB call_isi (by rfl) F.isi boot_isinstance (pa_cons (pv 1) (pa_cons (pe_bltn (v := .ty "tuple") (by rfl) F.tup boot_tuple rfl) pa_nil)))) (pss_cons (ps_set (i := 3) sc.nd rfl (Or.inl rfl) (pe_lst (pa_cons (pe_callTy call_list_of (by rfl) F.list boot_list (pa_cons (pv 1) pa_nil)) (pa_cons (pe_slice sl_tupF (pv 1) (po_some pe_int) po_none) (pa_cons (pe_slice sl_tupF (pv 1) po_none (po_some (pe_un un_neg pe_int))) (pa_cons (pe_op op_catF (pv 1) (pe_slice sl_tupF (pv 1) (po_some (pe_un un_neg pe_int)) po_none)) (pa_cons (pe_revF (pv 1)) (pa_cons (pe_tupF pa_nil) (pa_cons (pe_op op_catF (pv 1) (pe_tupF (pa_cons pe_int pa_nil))) (pa_cons pe_non pa_nil))))))))))
        (pss_one (ps_ret (pe_call GO hr2 (by rfl) gO kO bO .nil pass0 (pa_cons (pv 0) (pa_cons (pv 3) pa_nil)))))) pss_nil) pt), ?_⟩
      by_cases ht : isTupD d = true
      rotate_left
      · have hnt : isTupD d = false := by simpa using ht
        refine rd_seq (rd_if ?_)
        refine ⟨_, rfl, v, .ty "tuple", _, _, isTupD d, rfl, .ty "tuple", hd2.ty, kit_ty (kit_tup d), _, rfl, ?_⟩
        rw [hnt]
        refine Eq.mpr (if_neg (by decide)) ?_
        dsimp only [tNext]
        refine rd_seq (rd_if ?_)
        refine ⟨_, rfl, v, .ty "tuple", _, _, isTupD d, rfl, .ty "tuple", hd2.ty, kit_ty (kit_tup d), _, rfl, ?_⟩
        rw [hnt]
        refine Eq.mpr (if_neg (by decide)) ?_
        dsimp only [tNext]
        exact qt _ Z p v d M S (n + 1) k H hpZ hZ hpl hnt hd hok m1 s10 s900 hP (by omega) fun H' u k1 hP1 hu => q H' u k1 (hP1.mono (by omega)) hu
      obtain ⟨a, xs, ds, rfl, rfl, hx0, hall, _⟩ := dw_tup hd ht
      have hx : SqT K H a xs := sqt_same awyZ_le hx0
      have hlen := hall.len
      have hm : ∀ d ∈ ds, OkI M S n d := oki_tup1 hok
      have hlM : xs.length ≤ M := by rw [hlen]; exact hok.ok.tup.2
      have hDT : DaT K Z M S (n + 1) H (.ref a) := ⟨_, rfl, hd, hok⟩
      have hxs : ∀ x ∈ xs, Da K Z M S n H x := fun x hx => by
        obtain ⟨e, he, hw⟩ := dwAll_mem hall hx
        exact ⟨e, hw, hm e he⟩
      have zin : ∀ {G : Hp} {j : Int}, But p H G → Pot G p j → ∀ z ∈ Z, ∃ o, G z = some o := fun {G j} kG hG z hz => by
        by_cases e : z = p
        · rw [e]; exact hG.some
        · obtain ⟨o, eo⟩ := hZ z hz
          exact ⟨o, kG _ _ e eo⟩
      refine seq_mid (C := fun H' => But p H H' ∧ Pot H' p (k + 1)) ?_ ?_
      · rintro H1 ⟨k1, hP1⟩
        have hp1 : ∀ z ∈ Z, ∃ o, H1 z = some o := fun z hz => by
          by_cases e : z = p
          · rw [e]; exact hP1.some
          · obtain ⟨o, eo⟩ := hZ z hz
            exact ⟨o, k1 _ _ e eo⟩
        have hx1 : SqT K H1 a xs := sqt_but hP k1 hx
        have hD1 := hDT.but (k1.z hpZ)
        refine rd_seq (rd_if ?_)
        refine ⟨_, rfl, .ref a, .ty "tuple", .type "tuple", _, true, rfl, .ty "tuple", tyX_tup hx1, kit_ty (by decide +kernel), _, rfl, ?_⟩
        refine Eq.mpr (if_pos rfl) ?_
        refine rd_seq (rd_set ?_)
        have hv : GXT K Z M S (n + 1) [some (.ref p), some (.ref a), none, none] H1 (tVar 1) := gxt_var rfl hD1
        refine (gx_cons ((gx_list (fun _ _ _ h => h) hp1 hv).up (by omega) (by omega) (by omega)) (gx_cons ((gx_slice hp1 hv (px_int 1) px_none).gx.up (by omega) (by omega) (by omega)) (gx_cons ((gx_slice hp1 hv px_none (px_neg 1)).gx.up (by omega) (by omega) (by omega))
          (gx_cons ((gx_cat hp1 hv (gx_slice hp1 hv (px_neg 1) px_none) (by omega)).gx.up (by omega) (by omega) (by omega)) (gx_cons ((gx_rev hp1 hv).gx.up (by omega) (by omega) (by omega)) (gx_cons ((gx_tup hp1 gx_nil (Nat.zero_le _) (by decide) : GXT K Z M S (n + 1) _ H1 _).gx.up (by omega) (by omega) (by omega))
          (gx_cons ((gx_cat hp1 hv (gx_tup hp1 (gx_cons (gx_int 0 (by decide)) gx_nil) (Nat.le_refl 1) (by decide) : GXT K Z 1 S (n + 1) _ H1 _) (by omega)).gx.up (by omega) (by omega) (by omega)) (gx_cons gx_non gx_nil)))))))
          : GXA K Z (2 * M + 1) (S + 1) (n + 1 + 1) _ H1 8 _) H1 _ (Same.refl _) fun vs H2 s2 l a2 => ⟨Nat.le_trans (by rw [l]; exact Nat.le_refl 8) (by decide), fun r hr => ?_⟩
        have s3 := same_new (o := .lst vs) hr
        have f3 : upd H2 r (.lst vs) r = some (.lst vs) := upd_same
        have hP3 := hP1.same (s2.trans s3)
        have nr : r ≠ p := (hP1.same s2).ne hr
        have a3 : ∀ v ∈ vs, Da K Z (2 * M + 1) (S + 1) (n + 1 + 1) (upd H2 r (.lst vs)) v := fun v hv => (a2 v hv).same s3
        have s13 := s2.trans s3
        generalize upd H2 r (.lst vs) = H3 at s3 f3 hP3 a3 s13 ⊢
        dsimp only
        refine rd_ret ?_
        refine ⟨_, rfl, _, rfl, p, r, vs, k + 1, rfl, nr, SqL.of f3, by omega, by omega, by omega, hP3, fun H' u k4 hP4 hu => ?_⟩
        exact q H' u ((k1.trans (But.of s13)).trans k4) (hP4.mono (by omega)) ((a3 u hu).but (k4.z hpZ))
      · intro N hN
        refine rd_if ?_
        refine ⟨_, rfl, .ref a, .ty "tuple", .type "tuple", _, true, rfl, .ty "tuple", tyX_tup hx, kit_ty (by decide +kernel), _, rfl, ?_⟩
        refine Eq.mpr (if_pos rfl) ?_
        refine ⟨_, rfl, Nat.zero_le _, fun e H1 he s1 ple => ?_⟩
        have hd3 := Dw_keep (awyZ_le (Z := Z)) (Dw_keep (awyZ_same s1) hd)
        refine ⟨.tuple ds, .tuple [], hd3.dp, .tup ple.sq .nil, hok.ok.shaped (by omega), rfl, _, rfl, ?_⟩
        have ene : PyData.eqv (.tuple ds) (.tuple []) = ds.isEmpty := by cases ds <;> rfl
        rw [ene]
        have hP1 := hP.same s1
        cases hne : ds.isEmpty with
        | true =>
          refine Eq.mpr (if_neg (by decide)) ?_
          refine Eq.mpr (if_neg (by decide)) ?_
          exact hN H1 ⟨But.of s1, hP1.mono (by omega)⟩
        | false =>
          refine Eq.mpr (if_pos (by decide)) ?_
          refine ⟨_, rfl, p, 6, k, rfl, by decide, by decide, by omega, hP1, fun H2 i k2 hP2 i0 i6 => ⟨_, _, rfl, rfl, _, rfl, ?_⟩⟩
          have k12 := (But.of (p := p) s1).trans k2
          by_cases hi : i > 0
          rotate_left
          · refine Eq.mpr (if_neg (by rw [decide_eq_false hi]; exact Bool.false_ne_true)) ?_
            exact hN H2 ⟨k12, hP2⟩
          refine Eq.mpr (if_pos (decide_eq_true hi)) ?_
          have hx2 : SqT K H2 a xs := sqt_but hP k12 hx
          have hl0 : xs.length ≠ 0 := fun z => by
            rw [hlen, List.length_eq_zero_iff] at z
            rw [z] at hne
            cases hne
          refine rd_seq (rd_set ?_)
          refine ⟨_, rfl, _, rfl, a, xs, rfl, .inr hx2, p, (xs.length : Int), k + 1, rfl, by omega, by omega, by omega, hP2, fun H3 j k3 hP3 j0 jl => ?_⟩
          dsimp only
          refine rd_ret ?_
          obtain ⟨jn, rfl⟩ : ∃ jn : Nat, j = (jn : Int) := ⟨j.toNat, by omega⟩
          have jl2 : jn < xs.length := by omega
          have k13 := k12.trans k3
          have hx3 : SqT K H3 a xs := sqt_but hP k13 hx
          refine ⟨_, rfl, _, rfl, (jn : Int), rfl, sl_sq hx3 fun r1 H4 s4 h1 => ?_⟩
          obtain ⟨e1, he1, hw1⟩ := hall.get (List.getElem?_eq_getElem jl2)
          have hx4 := sqt_same s4 hx3
          have k14 := k13.trans (But.of s4)
          have hP4 := hP3.same s4
          refine ⟨_, rfl, _, rfl, _, rfl, a, xs, (jn : Int), xs[jn], rfl, rfl, hx4, atI_nat (List.getElem?_eq_getElem jl2), p, xs[jn], e1, M, S, k + 2, Z, rfl, hpZ, zin k14 hP4, by omega, plnA_mem hpl e1 (List.mem_of_getElem? he1), Dw_keep (awyZ_but (k14.z hpZ)) hw1, hm e1 (List.mem_of_getElem? he1), m1, m2, s10, s900, hP4.mono (by omega), by omega, fun H5 u k5 hP5 hu => ?_⟩
          refine ⟨(by exact (by decide : 1 ≤ sizeLine)), fun r2 H6 hr2 s6 pl2 => ?_⟩
          have hP6 := hP5.same s6
          have h16 : SqT K H6 r1 (cutV xs none (some (jn : Int))) := sqt_same s6 (sqt_but hP4 k5 h1)
          have lc : (cutV xs none (some (jn : Int))).length ≤ M := Nat.le_trans (cutV_length _ _ _) hlM
          have z5 := zin (k14.trans k5) hP5
          have nr2 : r2 ∉ Z := fun z => by
            obtain ⟨o, eo⟩ := z5 _ z
            rw [eo] at hr2
            cases hr2
          refine cat_z (zin ((k14.trans k5).trans (But.of s6)) hP6) h16 pl2.sq (Nat.le_trans (show _ + 1 ≤ 300000 by omega) (by decide)) (fun z => by cases z) (fun _ => ⟨pl2, nr2⟩) fun r3 H7 nr3 s7 pl3 => ?_
          have k17 := (k14.trans k5).trans (But.of (p := p) (s6.trans s7))
          have hx7 : SqT K H7 a xs := sqt_but hP k17 hx
          refine ⟨_, rfl, _, rfl, (jn : Int), 1, rfl, rfl, _, rfl, ?_⟩
          refine (px_none (σ := [some (.ref p), some (.ref a), some (.int (jn : Int)), none])) H7 _ ?_
          refine sl_sq hx7 fun r4 H8 s8 h4 => ?_
          have lc2 : (cutV xs (some ((jn : Int) + 1)) none).length ≤ M := Nat.le_trans (cutV_length _ _ _) hlM
          have lc3 : (cutV xs none (some (jn : Int)) ++ [u]).length ≤ M + 1 := by rw [List.length_append]; exact Nat.add_le_add_right lc 1
          refine cat_z (zin (k17.trans (But.of s8)) (hP6.same (s7.trans s8))) (sqt_same s8 pl3.sq) h4 (Nat.le_trans (by omega : _ ≤ 600000) (by decide)) (fun _ => ⟨pl3.same s8, nr3⟩) (fun z => absurd z (by simp)) fun r5 H9 nr5 s9 pl5 => ?_
          have s69 : Same H5 H9 := ((s6.trans s7).trans s8).trans s9
          have k19 : But p H H9 := (k14.trans k5).trans (But.of s69)
          have hP9 := hP5.same s69
          refine q H9 (.ref r5) k19 (hP9.mono (by omega)) (mk_tup nr5 pl5 (fun x hx => ?_) ?_).da
          · rcases List.mem_append.mp hx with hx | hx
            · rcases List.mem_append.mp hx with hx | hx
              · exact ((hxs x (mem_cutV hx)).but (k19.z hpZ)).up (by omega) (by omega) (by omega)
              · rw [List.mem_singleton.mp hx]
                exact hu.same s69
            · exact ((hxs x (mem_cutV hx)).but (k19.z hpZ)).up (by omega) (by omega) (by omega)
          · rw [List.length_append]
            omega
end
end L2.K04

set_option Elab.async false
set_option linter.all false
set_option maxRecDepth 100000
set_option maxHeartbeats 4000000
namespace L2.K04
open PySem PySem.Spec PyProof.Rows L2.Vx
open PySem.W (Frag)
/-! ### a value of any kind, away from some objects -/
section
variable {P : Program} {w : World} {K : Frag} {mg : Str → Option Value} {bs : Heap}
theorem nw_awyZ {Z : List Addr} {H H' : Hp} (h : ∀ z ∈ Z, ∃ o, H z = some o) : Same (nw H H') (awyZ Z H') := fun b u e => by
  have n : b ∉ Z := fun z => by
    obtain ⟨o, eo⟩ := h b z
    rw [nw_old eo] at e
    cases e
  unfold awyZ
  rw [if_neg n]
  exact nw_le _ _ e
def spOddZ (K : Frag) : Sp := fun vs H Q _ => ∃ (p : Addr) (k : Int) (Z : List Addr), vs = [.ref p] ∧ k < 1000000 ∧ Pot H p k ∧ p ∈ Z ∧ (∀ z ∈ Z, ∃ o, H z = some o) ∧ ∀ H' v d, But p H H' → Pot H' p (k + 1) → d ∈ odd1 ++ odd2 → Dd K (awyZ Z H') v d → Q v H'
theorem ok_oddZ {f fT fO : Addr} {fd fdT fdO : FuncData} (FP : FD K "_law_odd" sOdd f fd) (F : Dx mg) (FT : FD K "_law_take" sTake fT fdT) (gT : mg "_law_take" = some (.ref fT)) (bT : Binds K fdT ["pot", "upto"] [])
    (FO : FD K "_law_of" sOf fO fdO) (gO : mg "_law_of" = some (.ref fO)) (bO : Binds K fdO ["pot", "some"] []) : FnOk P w K mg bs CX0 3 f fd ["pot"] (spOddZ K) := by
  have sc := scOdd
  have GO : FnOk P w K mg bs CX0 2 fO fdO ["pot", "some"] (spOf K) := ok_of FO F FT gT bT
  refine FP.ok scOdd (fun vs H Q E h => ?_) (fun cdv A outer s H vs Q E hr h => ?_)
  · obtain ⟨p, k, Z, rfl, _⟩ := h
    rfl
  · obtain ⟨p, t, Z, rfl, ht, hP, hpZ, hZ, k⟩ := h
    refine ⟨_, pss_cons (ps_set (i := 1) sc.nd rfl (Or.inl rfl) (pe_lst (pa_cons pe_non (pa_cons pe_bl (pa_cons pe_bl (pa_cons pe_int (pa_cons pe_int (pa_cons (pe_un un_neg pe_int) (pa_cons (pe_op op_pow pe_int pe_int)
          (pa_cons pe_str (pa_cons pe_str (pa_cons pe_str (pa_cons pe_str (pa_cons (pe_tup pa_nil) (pa_cons (pe_lst pa_nil) (pa_cons pe_dnewK (pa_cons (pe_tup (pa_cons pe_int pa_nil)) (pa_cons (pe_tup (pa_cons (pe_tup pa_nil) pa_nil))
          (pa_cons (pe_lst (pa_cons pe_int pa_nil)) (pa_cons (pe_tup (pa_cons pe_int (pa_cons pe_int pa_nil))) pa_nil))))))))))))))))))))
      (pss_cons (ps_set (i := 1) sc.nd rfl (Or.inl rfl) (pe_op op_cat (pv 1) (pe_lst (pa_cons (pe_tup (pa_cons (pe_tup (pa_cons pe_int (pa_cons pe_int pa_nil))) pa_nil)) (pa_cons (pe_tup (pa_cons pe_str (pa_cons pe_str pa_nil)))
          (pa_cons (pe_tup (pa_cons pe_str (pa_cons pe_str (pa_cons pe_str pa_nil)))) (pa_cons (pe_tup (pa_cons (pe_tup (pa_cons pe_int (pa_cons pe_bl pa_nil))) pa_nil)) (pa_cons (pe_tup (pa_cons pe_str pa_nil)) (pa_cons (pe_tup (pa_cons (pe_tup (pa_cons pe_str pa_nil)) pa_nil))
          (pa_cons pe_str (pa_cons pe_str pa_nil)))))))))))
      (pss_one (ps_ret (pe_call GO hr (by rfl) gO FO.kp bO .nil pass0 (pa_cons (pv 0) (pa_cons (pv 1) pa_nil)))))), ?_⟩
    refine rd_seq (rd_set (rd_lst ?_))
    refine (ga_cons (gd_const fun _ => .non) (ga_cons (gd_const fun _ => .bl _) (ga_cons (gd_const fun _ => .bl _) (ga_cons (gd_const fun _ => .int _) (ga_cons (gd_const fun _ => .int _) (ga_cons gd_neg1
      (ga_cons (gd_op fun H Q q => ⟨_, _, rfl, rfl, ⟨by decide, by decide, by decide⟩, q⟩) (ga_cons (gd_const fun _ => .str _) (ga_cons (gd_const fun _ => .str _) (ga_cons (gd_const fun _ => .str _) (ga_cons (gd_const fun _ => .str _)
      (ga_cons (gd_tup ga_nil (by decide)) (ga_cons (gd_lst ga_nil (by decide)) (ga_cons gd_dnew (ga_cons (gd_tup (ga_cons (gd_const fun _ => .int _) ga_nil) (by decide)) (ga_cons (gd_tup (ga_cons (gd_tup ga_nil (by decide)) ga_nil) (by decide))
      (ga_cons (gd_lst (ga_cons (gd_const fun _ => .int _) ga_nil) (by decide)) (ga_cons (gd_tup (ga_cons (gd_const fun _ => .int _) (ga_cons (gd_const fun _ => .int _) ga_nil)) (by decide)) ga_nil)))))))))))))))))
      : GA K _ odd1) _ _ _ fun vs H1 s1 g1 => ?_
    have l1 : vs.length = 18 := ddAll_len g1
    refine ⟨Nat.le_trans (Nat.le_of_eq l1) (by decide), fun a ha => ?_⟩
    have s2 : Same H1 (upd H1 a (.lst vs)) := same_new ha
    have f2 : upd H1 a (.lst vs) a = some (.lst vs) := upd_same
    have g2 := ddAll_keep (nw_up s2) g1
    have sH2 := s1.trans s2
    have ha0 := s1.free ha
    generalize upd H1 a (.lst vs) = H2 at s2 f2 g2 sH2 ⊢
    dsimp only
    refine rd_seq (rd_set ?_)
    refine ⟨_, rfl, rd_lst ?_⟩
    refine (ga_cons (gd_tup (ga_cons (gd_tup (ga_cons (gd_const fun _ => .int _) (ga_cons (gd_const fun _ => .int _) ga_nil)) (by decide)) ga_nil) (by decide))
      (ga_cons (gd_tup (ga_cons (gd_const fun _ => .str _) (ga_cons (gd_const fun _ => .str _) ga_nil)) (by decide))
      (ga_cons (gd_tup (ga_cons (gd_const fun _ => .str _) (ga_cons (gd_const fun _ => .str _) (ga_cons (gd_const fun _ => .str _) ga_nil))) (by decide))
      (ga_cons (gd_tup (ga_cons (gd_tup (ga_cons (gd_const fun _ => .int _) (ga_cons (gd_const fun _ => .bl _) ga_nil)) (by decide)) ga_nil) (by decide))
      (ga_cons (gd_tup (ga_cons (gd_const fun _ => .str _) ga_nil) (by decide))
      (ga_cons (gd_tup (ga_cons (gd_tup (ga_cons (gd_const fun _ => .str _) ga_nil) (by decide)) ga_nil) (by decide))
      (ga_cons (gd_const fun _ => .str _) (ga_cons (gd_const fun _ => .str _) ga_nil))))))) : GA K _ odd2) _ _ _ fun ws H3 s3 g3 => ?_
    have l3 : ws.length = 8 := ddAll_len g3
    refine ⟨Nat.le_trans (Nat.le_of_eq l3) (by decide), fun b hb => ?_⟩
    have s4 : Same H3 (upd H3 b (.lst ws)) := same_new hb
    have f4 : upd H3 b (.lst ws) b = some (.lst ws) := upd_same
    have f5 := s4 _ _ (s3 _ _ f2)
    have g4 := ddAll_keep (nw_up s4) (ddAll_keep (nw_in sH2) g3)
    have g5 := ddAll_keep (nw_up s4) (ddAll_keep (nw_up s3) g2)
    have sH4 := (sH2.trans s3).trans s4
    generalize upd H3 b (.lst ws) = H4 at s4 f4 f5 g4 g5 sH4 ⊢
    refine ⟨a, b, vs, ws, rfl, rfl, f5, f4, by rw [l1, l3]; exact (by decide), fun c hc => ?_⟩
    have s6 : Same H4 (upd H4 c (.lst (vs ++ ws))) := same_new hc
    have f6 : upd H4 c (.lst (vs ++ ws)) c = some (.lst (vs ++ ws)) := upd_same
    have g6 := ddAll_keep (nw_up s6) (ddAll_app g5 g4)
    have sH6 := sH4.trans s6
    have hc0 := sH4.free hc
    generalize upd H4 c (.lst (vs ++ ws)) = H6 at s6 f6 g6 sH6 ⊢
    dsimp only
    obtain ⟨o, hpo⟩ := hP.some
    have nc : c ≠ p := hP.ne hc0
    refine ⟨_, rfl, _, rfl, p, c, _, t, rfl, nc, SqL.of f6, by rw [List.length_append]; omega, by rw [List.length_append]; omega, ht, hP.same sH6, fun H7 v k7 hP7 hv => ?_⟩
    obtain ⟨d, hd, hdv⟩ := ddAll_mem (ddAll_keep (nw_awyZ hZ) g6) hv
    exact k H7 v d ((But.of sH6).trans k7) hP7 hd (Dd_keep (awyZ_but (k7.z hpZ)) hdv)
end
end L2.K04

set_option Elab.async false
set_option linter.all false
set_option maxRecDepth 100000
namespace L2.Vx
open PySem PySem.Spec PyProof.Rows L2
open PySem.W (Frag)
open LamX (CodeO Tabs TabS TabB ExtN LamS lamEnv lamCx)
/-! ### a lambda as a value, with what it does -/
section
variable {X : Cx}
def tLamA (X : Cx) (T : List (Addr × Str)) (k : Nat) (t : XK → TE) : TE := fun _ H Q => Tabs T H ∧ ∀ (f : Addr) (H1 : Hp), ExtN H H1 → Tabs T H1 → H f = none → LamAt X k f t H1 → Q (.ref f) H1
theorem pe_lamA {T : List (Addr × Str)} {c P : Addr} {k : Nat} {t : XK → TE} {params : Arguments} {body : Expr} {scope : Scope} {pos : Pos} (TB : TabB X.base X.mg c P) (hcode : X.env.code = .ref c)
    (hm : (P, lamQ X) ∈ T) (hu : ∀ p ∈ T, p.1 = P → p.2 = lamQ X) (L : LamS X.env.scope scope) (hdef : defaultsOf params X.env = ([], []))
    (hbind : ∀ (q : Str) (cl : List (Str × Addr)) (pm cv ctv : Value), bindArgs (PySem.W.kla_fn "<lambda>" q params body scope cl pm cv ctv) ⟨[], []⟩ = pure [])
    (hbody : ∀ (A : Around) (outer : List Env) (s : Shared) (H : Hp) (E : XK) (f c' : Addr), Room k (A.deeper (lamEnv X scope s.heap.objs.size f c')) → PE (lamCx X A outer s H E scope f c') body (t E)) : PE X (.Lambda params body scope pos) (tLamA X T k t) := by
  refine ⟨fun pins s σ H Q I h => (pe_lamK (pos := pos) TB hcode hm hu hdef L).run pins s σ H Q I ⟨h.1, fun f c' pm ctv H1 eN T1 nF hf hc => ?_⟩⟩
  exact h.2 f H1 eN T1 nF ⟨params, body, scope, pm, c', ctv, hf, hc, L, hbind, hbody⟩
end
end L2.Vx

set_option Elab.async false
set_option linter.all false
set_option maxRecDepth 100000
set_option maxHeartbeats 4000000
namespace L2.K04
open PySem PySem.Spec PyProof.Rows L2.Vx
open PySem.W (Frag)
open LamX (CodeO Tabs TabS TabB ExtN LamS lamEnv lamCx lamS_by)
/-! ### what stays where the tables grow -/
def ExtB (p : Addr) (H H' : Hp) : Prop := ∀ b o, b ≠ p → H b = some o → (∀ ps : Array Value, o ≠ .tbl ps) → H' b = some o
theorem ExtB.of {p : Addr} {H H' : Hp} (b : But p H H') : ExtB p H H' := fun a o n e _ => b a o n e
theorem ExtB.ofN {p : Addr} {H H' : Hp} (b : ExtN H H') : ExtB p H H' := fun a o _ e n => b a o e n
theorem ExtB.trans {p : Addr} {A B C : Hp} (x : ExtB p A B) (y : ExtB p B C) : ExtB p A C := fun a o n e t => y a o n (x a o n e t) t
theorem ExtB.refl {p : Addr} {A : Hp} : ExtB p A A := fun _ _ _ e _ => e
theorem ExtN.tr {A B C : Hp} (x : ExtN A B) (y : ExtN B C) : ExtN A C := fun a o e t => y a o (x a o e t) t
theorem tabs_but {T : List (Addr × Str)} {p : Addr} {H H' : Hp} {k : Int} (t : Tabs T H) (hP : Pot H p k) (b : But p H H') : Tabs T H' := fun x hx => by
  obtain ⟨ps, h1, h2, h3⟩ := t x hx
  obtain ⟨o, c, d, ep, _⟩ := hP
  refine ⟨ps, b _ _ (fun z => by rw [z, ep] at h1; cases h1) h1, h2, fun pos cv hc => ?_⟩
  obtain ⟨q, e1, e2⟩ := h3 pos cv hc
  exact ⟨q, e1, b _ _ (fun z => by rw [z, ep] at e2; cases e2) e2⟩
theorem Pot.ext {p : Addr} {H H' : Hp} {k : Int} (h : Pot H p k) (e : ExtN H H') : Pot H' p k := by
  obtain ⟨o, b, c, ep, r⟩ := h
  exact ⟨o, b, c, e _ _ ep (fun _ z => by cases z), r⟩
section
variable {K : Frag}
theorem sql_ext {H H' : Hp} {a : Addr} {xs : List V} (e : ExtN H H') (h : SqL K H a xs) : SqL K H' a xs := by
  rcases h with (h | ⟨o, h⟩) | h
  · exact .inl (.inl (e _ _ h (fun _ z => by cases z)))
  · exact .inl (.inr ⟨o, e _ _ h (fun _ z => by cases z)⟩)
  · exact .inr h
theorem sqt_ext {H H' : Hp} {a : Addr} {xs : List V} (e : ExtN H H') (h : SqT K H a xs) : SqT K H' a xs := by
  rcases h with (h | ⟨o, h⟩) | h
  · exact .inl (.inl (e _ _ h (fun _ z => by cases z)))
  · exact .inl (.inr ⟨o, e _ _ h (fun _ z => by cases z)⟩)
  · exact .inr h
theorem pl_ext {H H' : Hp} {a : Addr} {xs : List V} (e : ExtN H H') (h : PlT H a xs) : PlT H' a xs := by
  obtain ⟨o, h, r⟩ := h
  exact ⟨o, e _ _ h (fun _ z => by cases z), r⟩
mutual
theorem dw_ext {H H' : Hp} (e : ExtN H H') : ∀ {v : V} {d : PyData}, Dw K H v d → Dw K H' v d
  | _, _, .non => .non
  | _, _, .bl b => .bl b
  | _, _, .int i => .int i
  | _, _, .str x => .str x
  | _, _, .lst h a => .lst (sql_ext e h) (dwAll_ext e a)
  | _, _, .tup h p a => .tup (sqt_ext e h) (fun z => pl_ext e (p z)) (dwAll_ext e a)
theorem dwAll_ext {H H' : Hp} (e : ExtN H H') : ∀ {v : List V} {d : List PyData}, DwAll K H v d → DwAll K H' v d
  | _, _, .nil => .nil
  | _, _, .cons a t => .cons (dw_ext e a) (dwAll_ext e t)
end
mutual
theorem dw_dd {H : Hp} : ∀ {v : V} {d : PyData}, Dw K H v d → Dd K H v d
  | _, _, .non => .non
  | _, _, .bl b => .bl b
  | _, _, .int i => .int i
  | _, _, .str x => .str x
  | _, _, .lst h a => .lst h (dwAll_dd a)
  | _, _, .tup h _ a => .tup h (dwAll_dd a)
theorem dwAll_dd {H : Hp} : ∀ {v : List V} {d : List PyData}, DwAll K H v d → DdAll K H v d
  | _, _, .nil => .nil
  | _, _, .cons a t => .cons (dw_dd a) (dwAll_dd t)
end
/-! ### how such data are shown -/
theorem str_big {x : Str} (h : PyData.strOk x = true) : ∀ c ∈ x.cps.toList, c < 16 ^ 8 := fun c hc => by
  unfold PyData.strOk at h
  rw [← Array.all_toList, List.all_eq_true] at h
  exact Nat.lt_trans (of_decide_eq_true (h c hc)) (by decide)
mutual
theorem sOk_of {M S n : Nat} : ∀ {d : PyData}, OkI M S n d → sOk d = true
  | .none, _ => rfl
  | .bool b, _ => rfl
  | .int i, h => sOk_int (Nat.lt_of_le_of_lt (of_decide_eq_true (show decide (i.natAbs ≤ 1000000000) = true from h.ib)) (by decide +kernel))
  | .str x, h => sOk_str (str_big (by have := h.ok.lay; simpa only [PyData.canLay0] using this))
  | .list ds, h => sOk_list (sOkA_of (ds := ds) (M := M) (S := S) (n := n) (by
      obtain ⟨⟨h1, h2, h3⟩, hi⟩ := h
      simp only [PyData.canLay0] at h1
      simp only [PyData.depth] at h2
      simp only [szD, Bool.and_eq_true] at h3
      exact ⟨⟨h1, by omega, h3.2⟩, hi⟩))
  | .tuple ds, h => sOk_tuple (sOkA_of (ds := ds) (M := M) (S := S) (n := n) (by
      obtain ⟨⟨h1, h2, h3⟩, hi⟩ := h
      simp only [PyData.canLay0] at h1
      simp only [PyData.depth] at h2
      simp only [szD, Bool.and_eq_true] at h3
      exact ⟨⟨h1, by omega, h3.2⟩, hi⟩))
  | .dict _, h => by
    have := h.ok.sz
    simp only [szD] at this
    cases this
theorem sOkA_of {M S n : Nat} : ∀ {ds : List PyData}, (OkAll M S n ds ∧ iA ds = true) → sOkAll ds = true
  | [], _ => rfl
  | d :: ds, ⟨h, hi⟩ => by
    obtain ⟨h1, h2⟩ := okAll_inv h
    obtain ⟨i1, i2⟩ := Bool.and_eq_true_iff.mp (show (iB d && iA ds) = true from hi)
    exact sOk_cons (sOk_of ⟨h1, i1⟩) (sOkA_of ⟨h2, i2⟩)
end
theorem bulkA_le {B : Nat} : ∀ {ds : List PyData}, (∀ d ∈ ds, d.bulk ≤ B) → PyData.bulkAll ds ≤ (B + 1) * ds.length
  | [], _ => Nat.zero_le _
  | d :: ds, h => by
    have h1 := h d (List.mem_cons_self ..)
    have h2 := bulkA_le fun e he => h e (List.mem_cons_of_mem _ he)
    unfold PyData.bulkAll
    rw [List.length_cons, Nat.mul_succ]
    omega
def bulkB : Nat → Nat | 0 => 13 | n + 1 => (bulkB n + 1) * 9
theorem bulkB_13 : ∀ n : Nat, 13 ≤ bulkB n
  | 0 => Nat.le_refl _
  | n + 1 => by
    have := bulkB_13 n
    show 13 ≤ (bulkB n + 1) * 9
    omega
theorem bulk_of : ∀ (n : Nat) {d : PyData}, OkM 9 13 n d → d.bulk ≤ bulkB n
  | n, .none, _ => Nat.zero_le _
  | n, .bool _, _ => Nat.zero_le _
  | n, .int _, _ => Nat.zero_le _
  | n, .str x, h => Nat.le_trans (show x.length ≤ 13 by have := h.sz; simpa only [szD, decide_eq_true_eq] using this) (bulkB_13 n)
  | 0, .list ds, h => by have := h.dep; simp only [PyData.depth] at this; omega
  | 0, .tuple ds, h => by have := h.dep; simp only [PyData.depth] at this; omega
  | n + 1, .list ds, h => by
    obtain ⟨h1, h2, h3⟩ := h
    simp only [PyData.canLay0] at h1
    simp only [PyData.depth] at h2
    simp only [szD, Bool.and_eq_true, decide_eq_true_eq] at h3
    have hm := okAll_mem (M := 9) (S := 13) (n := n) (ds := ds) ⟨h1, by omega, h3.2⟩
    exact Nat.le_trans (bulkA_le fun d hd => bulk_of n (hm d hd)) (Nat.mul_le_mul_left _ h3.1)
  | n + 1, .tuple ds, h => by
    obtain ⟨h1, h2, h3⟩ := h
    simp only [PyData.canLay0] at h1
    simp only [PyData.depth] at h2
    simp only [szD, Bool.and_eq_true, decide_eq_true_eq] at h3
    have hm := okAll_mem (M := 9) (S := 13) (n := n) (ds := ds) ⟨h1, by omega, h3.2⟩
    exact Nat.le_trans (bulkA_le fun d hd => bulk_of n (hm d hd)) (Nat.mul_le_mul_left _ h3.1)
  | n, .dict _, h => by
    have := h.sz
    simp only [szD] at this
    cases this
theorem show_b {d : PyData} (h : OkI 9 13 3 d) : showR d := by
  have h1 := sOk_of h
  unfold sOk at h1
  obtain ⟨a, h2⟩ := Bool.and_eq_true_iff.mp h1
  obtain ⟨b, c⟩ := Bool.and_eq_true_iff.mp h2
  refine ⟨?_, Nat.le_trans h.ok.dep (by decide), ?_⟩
  · unfold shOk
    rw [a, b]
    rfl
  · have hb : d.bulk ≤ 20000 := Nat.le_trans (bulk_of 3 h.ok) (by decide +kernel)
    exact Nat.le_trans (PyData.shown_le_bulk 92 (by decide) _ c) (Nat.le_trans (by omega : (92 + 2) * d.bulk + 92 ≤ 2000000) (by decide))
/-! ### a value that is looked at -/
def B4 (K : Frag) (H : Hp) (v : V) (d : PyData) : Prop := (Dw K H v d ∧ OkI 9 13 3 d) ∨ (d = .dict [] ∧ ∃ a, v = .ref a ∧ H a = some (.dK []))
theorem B4.ext {H H' : Hp} {v : V} {d : PyData} (h : B4 K H v d) (e : ExtN H H') : B4 K H' v d := by
  rcases h with ⟨h1, h2⟩ | ⟨h1, a, h2, h3⟩
  · exact .inl ⟨dw_ext e h1, h2⟩
  · exact .inr ⟨h1, a, h2, e _ _ h3 (fun _ z => by cases z)⟩
theorem B4.same {H H' : Hp} {v : V} {d : PyData} (h : B4 K H v d) (e : Same H H') : B4 K H' v d := h.ext (ExtN.of e)
theorem B4.dd {H : Hp} {v : V} {d : PyData} (h : B4 K H v d) : Dd K H v d := by
  rcases h with ⟨h1, h2⟩ | ⟨rfl, a, rfl, h3⟩
  · exact dw_dd h1
  · exact .dct (kvs := []) h3 .nil
theorem B4.show {H : Hp} {v : V} {d : PyData} (h : B4 K H v d) : showR d := by
  rcases h with ⟨h1, h2⟩ | ⟨rfl, _⟩
  · exact show_b h2
  · exact ⟨by decide +kernel, by decide +kernel, by decide +kernel⟩
theorem B4.vi {H : Hp} {v : V} {d : PyData} (h : B4 K H v d) : VI K H v d := by
  rcases h with ⟨h1, h2⟩ | ⟨rfl, a, rfl, h3⟩
  · refine .inl ⟨h1, (h2.ok.up (by decide) (by decide)).mono (by decide), fun ds e => ?_⟩
    subst e
    have := h2.ok.sz
    simp only [szD, Bool.and_eq_true, decide_eq_true_eq] at this
    omega
  · exact .inr ⟨rfl, fun H' s => .base (.dK (s _ _ h3))⟩
theorem B4.ti {H : Hp} {v : V} {d : PyData} (h : B4 K H v d) : TI K H v (strO d) := by
  rcases h with ⟨h1, h2⟩ | ⟨rfl, a, rfl, h3⟩
  · exact ti_of h1 ((h2.ok.up (by decide) (by decide)).mono (by decide) : OkD 40 d)
  · exact .inl ⟨fun H' s => ⟨_, .base (.dK (s _ _ h3)), by decide +kernel⟩, rfl⟩
/-- .. away from the pot -/
def It4 (K : Frag) (p : Addr) (H : Hp) (v : V) : Prop := ∃ d, B4 K (awyZ [p] H) v d
theorem It4.but {p : Addr} {H H' : Hp} {v : V} (h : It4 K p H v) (k : But p H H') : It4 K p H' v := by
  obtain ⟨d, h⟩ := h
  exact ⟨d, h.same (awyZ_but k.z1)⟩
theorem It4.same {p : Addr} {H H' : Hp} {v : V} (h : It4 K p H v) (s : Same H H') : It4 K p H' v := h.but (But.of s)
theorem It4.b4 {p : Addr} {H : Hp} {v : V} (h : It4 K p H v) : ∃ d, B4 K H v d := by
  obtain ⟨d, h⟩ := h
  exact ⟨d, h.same awyZ_le⟩
theorem it_da {p : Addr} {M S n : Nat} {H : Hp} {v : V} (h : Da K [p] M S n H v) (h1 : M ≤ 9) (h2 : S ≤ 13) (h3 : n ≤ 3) : It4 K p H v := by
  obtain ⟨d, a, b⟩ := h
  exact ⟨d, .inl ⟨a, (b.up h1 h2).mono h3⟩⟩
mutual
def nodD : PyData → Bool
  | .dict _ => false
  | .list ds => nodA ds
  | .tuple ds => !wAll ds && nodA ds
  | _ => true
def nodA : List PyData → Bool
  | [] => true
  | d :: ds => nodD d && nodA ds
end
def okB4 (d : PyData) : Bool := nodD d && (d.canLay0 && (decide (d.depth ≤ 3) && (szD 9 13 d && iB d)))
def isDic : PyData → Bool | .dict [] => true | _ => false
theorem odd_ok : ((odd1 ++ odd2).all fun d => isDic d || okB4 d) = true := by decide +kernel
mutual
theorem dd_dw {H : Hp} : ∀ {v : V} {d : PyData}, Dd K H v d → nodD d = true → Dw K H v d
  | _, _, .non, _ => .non
  | _, _, .bl b, _ => .bl b
  | _, _, .int i, _ => .int i
  | _, _, .str x, _ => .str x
  | _, _, .lst h t, q => .lst h (dd_dwA t (by unfold nodD at q; exact q))
  | _, _, .tup h t, q => by
    unfold nodD at q
    obtain ⟨q1, q2⟩ := Bool.and_eq_true_iff.mp q
    exact .tup h (fun z => by rw [z] at q1; cases q1) (dd_dwA t q2)
  | _, _, .dct h t, q => by
    unfold nodD at q
    cases q
theorem dd_dwA {H : Hp} : ∀ {xs : List V} {ds : List PyData}, DdAll K H xs ds → nodA ds = true → DwAll K H xs ds
  | _, _, .nil, _ => .nil
  | _, _, .cons a t, q => by
    unfold nodA at q
    obtain ⟨q1, q2⟩ := Bool.and_eq_true_iff.mp q
    exact .cons (dd_dw a q1) (dd_dwA t q2)
end
theorem it_odd {p : Addr} {H : Hp} {v : V} {d : PyData} (h : Dd K (awyZ [p] H) v d) (hd : d ∈ odd1 ++ odd2) : It4 K p H v := by
  have q := List.all_eq_true.mp odd_ok d hd
  rcases Bool.or_eq_true_iff.mp q with q | q
  · have e : d = .dict [] := by
      unfold isDic at q
      split at q
      · rfl
      · cases q
    subst e
    generalize e : PyData.dict [] = d at h
    cases h with
    | @dct a kvs ds h1 h2 =>
      have e2 := PyData.dict.inj e
      have hl := h2.len
      rw [List.length_map] at hl
      have : kvs = [] := by
        cases kvs with
        | nil => rfl
        | cons p r =>
          cases ds with
          | nil => simp at hl
          | cons d ds => cases e2
      subst this
      exact ⟨.dict [], .inr ⟨rfl, a, rfl, h1⟩⟩
    | _ => cases e
  · obtain ⟨q1, q⟩ := Bool.and_eq_true_iff.mp q
    obtain ⟨q2, q⟩ := Bool.and_eq_true_iff.mp q
    obtain ⟨q3, q⟩ := Bool.and_eq_true_iff.mp q
    obtain ⟨q4, q5⟩ := Bool.and_eq_true_iff.mp q
    exact ⟨d, .inl ⟨dd_dw h q1, ⟨q2, of_decide_eq_true q3, q4⟩, q5⟩⟩
end
end L2.K04

set_option Elab.async false
set_option linter.all false
set_option maxRecDepth 100000
set_option maxHeartbeats 4000000
namespace L2.K04
open PySem PySem.Spec PyProof.Rows L2.Vx
open PySem.W (Frag)
open LamX (CodeO Tabs TabS TabB ExtN LamS lamEnv lamCx lamS_by)
/-! ### lists of values, with draws between -/
theorem terms_ok : ∀ x ∈ termL, PyData.strOk x = true ∧ x.length ≤ 12 := by decide +kernel
theorem some_terms {ys rest : List V} (h : (ys ++ rest).Perm (termL.map V.str)) : ∃ T : List Str, ys = T.map V.str ∧ T.Nodup ∧ ∀ x ∈ T, x ∈ termL := by
  have key : ∀ l : List V, (∀ v ∈ l, v ∈ termL.map V.str) → ∃ T : List Str, l = T.map V.str ∧ ∀ x ∈ T, x ∈ termL := by
    intro l
    induction l with
    | nil => exact fun _ => ⟨[], rfl, fun x hx => by cases hx⟩
    | cons v l ih =>
      intro hv
      obtain ⟨T, rfl, h2⟩ := ih fun u hu => hv u (List.mem_cons_of_mem _ hu)
      obtain ⟨x, hx, rfl⟩ := List.mem_map.mp (hv v (List.mem_cons_self ..))
      refine ⟨x :: T, rfl, fun z hz => ?_⟩
      rcases List.mem_cons.mp hz with rfl | hz
      · exact hx
      · exact h2 z hz
  obtain ⟨T, e, hT⟩ := key ys fun v hv => h.subset (List.mem_append_left _ hv)
  refine ⟨T, e, ?_, hT⟩
  have nd : (termL.map V.str).Nodup := List.Pairwise.map V.str (fun _ _ h e => h (V.str.inj e)) okTerms_all.1
  have nd2 := h.nodup_iff.mpr nd
  have nd3 : ys.Nodup := nd2.sublist (List.sublist_append_left ys rest)
  rw [e] at nd3
  exact List.Pairwise.of_map V.str (fun a b h e => h (by rw [e])) nd3
def numsL : List Int := [0, 1, 2, 5, -1, 999999998]
theorem nums_small : ∀ n ∈ numsL, n.natAbs ≤ 999999999 := by decide
section
variable {P : Program} {w : World} {K : Frag} {mg : Str → Option Value} {bs : Heap}
theorem sqt_awy {H : Hp} {p a : Addr} {xs : List V} {k : Int} (hP : Pot H p k) (h : SqT K H a xs) : SqT K (awyZ [p] H) a xs := by
  obtain ⟨_, _, _, ep, _⟩ := hP
  have n : ∀ {o : HO}, H a = some o → (∀ l, o ≠ .lst l) → awyZ [p] H a = some o := fun {o} e hn => (awyZ_at (fun z => by
    rw [List.mem_singleton.mp z, ep] at e
    exact hn _ (Option.some.inj e).symm)).trans e
  rcases h with (h | ⟨o, h⟩) | h
  · exact .inl (.inl (n h fun l z => by cases z))
  · exact .inl (.inr ⟨o, n h fun l z => by cases z⟩)
  · exact .inr h
theorem dw_rowsB {H : Hp} {ps : List Addr} {cs : List Bd} (h : RowsAt K H ps cs) : DwAll K H (ps.map V.ref) (cs.map rowD) := by
  induction h with
  | nil => exact .nil
  | cons h t ih => exact .cons (.tup h (fun z => by cases z) (.cons (.str _) (.cons (.str _) (.cons (.int _) .nil)))) ih
theorem wAll_rows (cs : List Bd) : wAll (cs.map rowD) = false := by
  unfold wAll
  cases cs <;> rfl
theorem awy_rows {H : Hp} {p : Addr} {k : Int} {ps : List Addr} {cs : List Bd} (hP : Pot H p k) (h : RowsAt K H ps cs) : RowsAt K (awyZ [p] H) ps cs := L2.Paired.mapP h fun _ _ z => sqt_awy hP z
structure okRow (c : Bd) : Prop where
  s1 : PyData.strOk c.1 = true ∧ c.1.length ≤ 12
  s2 : PyData.strOk c.2.1 = true ∧ c.2.1.length ≤ 12
  n : c.2.2.natAbs ≤ 999999999
theorem oki_rows {cs : List Bd} (h : ∀ c ∈ cs, okRow c) (l : cs.length ≤ 4) : OkI 4 12 2 (.tuple (cs.map rowD)) := by
  refine oki_tup (n := 1) (fun d hd => ?_) (by rw [List.length_map]; exact l)
  obtain ⟨c, hc, rfl⟩ := List.mem_map.mp hd
  obtain ⟨h1, h2, h3⟩ := h c hc
  refine oki_tup (n := 0) (fun d hd => ?_) (by show 3 ≤ 4; decide)
  rcases List.mem_cons.mp hd with rfl | hd
  · exact oki_str 0 h1.1 h1.2
  rcases List.mem_cons.mp hd with rfl | hd
  · exact oki_str 0 h2.1 h2.2
  · rw [List.mem_singleton.mp hd]
    exact oki_int 0 _ (by omega)
theorem pln_rows {cs : List Bd} (h : ∀ c ∈ cs, okRow c) : plnD (.tuple (cs.map rowD)) = true := plnA_of fun d hd => by
  obtain ⟨c, hc, rfl⟩ := List.mem_map.mp hd
  show (plnD (.str c.1) && (plnD (.str c.2.1) && (plnD (.int c.2.2) && true))) = true
  show (true && (true && (decide (c.2.2.natAbs ≤ 999999999) && true))) = true
  rw [decide_eq_true (h c hc).n]
  rfl
variable {p : Addr} {σ : St} {te : TE} {ta : TA}
def GXI (K : Frag) (p : Addr) (σ : St) (H : Hp) (k : Int) (m : Nat) (c : Int) (ta : TA) : Prop := ∀ Q : List V → Hp → Prop, (∀ vs H', But p H H' → Pot H' p (k + c) → vs.length = m → (∀ v ∈ vs, It4 K p H' v) → Q vs H') → ta σ H Q
theorem gxi_nil {H : Hp} {k : Int} (hP : Pot H p k) : GXI K p σ H k 0 0 tNil := fun Q q => q [] H (But.refl _ _) (by rw [Int.add_zero]; exact hP) rfl fun v hv => by cases hv
theorem gxi_pure {H : Hp} {k c : Int} {m : Nat} {M S n : Nat} (h : GX K [p] M S n σ H te) (h1 : M ≤ 9) (h2 : S ≤ 13) (h3 : n ≤ 3) (t : ∀ H1, Same H H1 → GXI K p σ H1 k m c ta) : GXI K p σ H k (m + 1) c (tCons te ta) := fun Q q =>
  h H _ (Same.refl H) fun v H1 s1 d => t H1 s1 _ fun vs H2 k2 hP2 l a => q (v :: vs) H2 ((But.of s1).trans k2) hP2 (by rw [List.length_cons, l]) fun u hu => by
    rcases List.mem_cons.mp hu with rfl | hu
    · exact (it_da d h1 h2 h3).but k2
    · exact a u hu
theorem gxi_call {H : Hp} {k c c2 : Int} {m : Nat} (h : ∀ Q : VK, (∀ v H', But p H H' → Pot H' p (k + c) → It4 K p H' v → Q v H') → te σ H Q) (t : ∀ H1, But p H H1 → Pot H1 p (k + c) → GXI K p σ H1 (k + c) m c2 ta) : GXI K p σ H k (m + 1) (c + c2) (tCons te ta) := fun Q q =>
  h _ fun v H1 k1 hP1 d => t H1 k1 hP1 _ fun vs H2 k2 hP2 l a => q (v :: vs) H2 (k1.trans k2) (by rw [← Int.add_assoc]; exact hP2) (by rw [List.length_cons, l]) fun u hu => by
    rcases List.mem_cons.mp hu with rfl | hu
    · exact d.but k2
    · exact a u hu
theorem gxi_all {H : Hp} {k : Int} {m M S n : Nat} (h : GXA K [p] M S n σ H m ta) (h1 : M ≤ 9) (h2 : S ≤ 13) (h3 : n ≤ 3) (hP : Pot H p k) : GXI K p σ H k m 0 ta := fun Q q =>
  h H Q (Same.refl H) fun vs H' s l a => q vs H' (But.of s) (by rw [Int.add_zero]; exact hP.same s) l fun v hv => it_da (a v hv) h1 h2 h3
theorem call_odd {H : Hp} {k : Int} {E : XK} {i : Nat} (e : σ[i]? = some (some (.ref p))) (hP : Pot H p k) (hk : k < 1000000) {Q : VK} (q : ∀ v H', But p H H' → Pot H' p (k + 1) → It4 K p H' v → Q v H') : tCall (spOddZ K) [] E (tCons (tVar i) tNil) σ H Q :=
  ⟨_, e, p, k, [p], rfl, hk, hP, by simp, hP.z1, fun H' v d k1 hP1 hd hv => q v H' k1 hP1 (it_odd hv hd)⟩
/-- a list at r -/
def LsAt (K : Frag) (p : Addr) (r : Addr) (n : Nat) (H : Hp) : Prop := r ≠ p ∧ ∃ xs, H r = some (.lst xs) ∧ xs.length = n ∧ ∀ v ∈ xs, It4 K p H v
theorem LsAt.but {r : Addr} {n : Nat} {H H' : Hp} (h : LsAt K p r n H) (k : But p H H') : LsAt K p r n H' := by
  obtain ⟨nr, xs, a, b, c⟩ := h
  exact ⟨nr, xs, k _ _ nr a, b, fun v hv => (c v hv).but k⟩
theorem list_it {H : Hp} {k c : Int} {m : Nat} {Q : VK} (h : GXI K p σ H k m c ta) (hm : m ≤ 1000) (q : ∀ r H', But p H H' → Pot H' p (k + c) → LsAt K p r m H' → Q (.ref r) H') : tLst ta σ H Q := h _ fun vs H1 k1 hP1 l a => by
  refine ⟨Nat.le_trans (by rw [l]; exact hm) (by decide), fun r hr => ?_⟩
  have s2 := same_new (o := .lst vs) hr
  exact q r _ (k1.trans (But.of s2)) (hP1.same s2) ⟨hP1.ne hr, vs, upd_same, l, fun v hv => (a v hv).same s2⟩
theorem cat_it {H : Hp} {k c : Int} {i m n : Nat} {L : Addr} {Q : VK} (e : σ[i]? = some (some (.ref L))) (hL : LsAt K p L n H) (h : GXI K p σ H k m c ta) (hm : m ≤ 1000) (hn : n ≤ 1000) (q : ∀ r H', But p H H' → Pot H' p (k + c) → LsAt K p r (n + m) H' → Q (.ref r) H') : tOp rCat (tVar i) (tLst ta) σ H Q := by
  refine ⟨_, e, list_it h hm fun b H1 k1 hP1 hB => ?_⟩
  obtain ⟨_, xs, f1, l1, a1⟩ := hL.but k1
  obtain ⟨_, ys, f2, l2, a2⟩ := hB
  refine ⟨L, b, xs, ys, rfl, rfl, f1, f2, Nat.le_trans (by omega : _ ≤ 2000) (by decide), fun r hr => ?_⟩
  have s2 := same_new (o := .lst (xs ++ ys)) hr
  refine q r _ (k1.trans (But.of s2)) (hP1.same s2) ⟨hP1.ne hr, xs ++ ys, upd_same, by rw [List.length_append]; omega, fun v hv => ?_⟩
  rcases List.mem_append.mp hv with hv | hv
  · exact (a1 v hv).same s2
  · exact (a2 v hv).same s2
theorem of_it {H : Hp} {k : Int} {n : Nat} {L : Addr} {E : XK} {Q : VK} (hL : LsAt K p L n H) (n0 : 0 < n) (n1 : n ≤ 1000) (hP : Pot H p k) (hk : k < 1000000) (q : ∀ v H', But p H H' → Pot H' p (k + 1) → It4 K p H' v → Q v H') : spOf K ([.ref p, .ref L] ++ []) H Q E := by
  obtain ⟨nr, xs, f1, l1, a1⟩ := hL
  exact ⟨p, L, xs, k, rfl, nr, SqL.of f1, by omega, by omega, hk, hP, fun H' v k1 hP1 hv => q v H' k1 hP1 ((a1 v hv).but k1)⟩
theorem gx_row {a : Addr} {x y : Str} {i : Int} {H : Hp} (e : σ[1]? = some (some (.ref a))) (h : DaT K [p] 4 12 2 H (.ref a)) (hz : ∀ z ∈ [p], ∃ o, H z = Option.some o) (hx : PyData.strOk x = true) (lx : x.length ≤ 12) (hy : PyData.strOk y = true) (ly : y.length ≤ 12) (hi : i.natAbs ≤ 1000000000) :
    GX K [p] 7 12 2 σ H (tOp (rCatF K) (tVar 1) (tTupF (tCons (tTupF (tCons (tC (.str x)) (tCons (tC (.str y)) (tCons (tC (.int i)) tNil)))) tNil))) :=
  (gx_cat (M := 4) (M2 := 3) hz (gxt_var e h) (gx_tup (n := 1) hz (gx_cons (gx_tup (n := 0) hz (gx_cons (gx_str hx lx) (gx_cons (gx_str hy ly) (gx_cons (gx_int i hi) gx_nil))) (by decide) (by decide)).gx gx_nil) (by decide) (by decide)) (by decide)).gx
/-! ### what lambdas come to, and lists that grow beside them -/
theorem lst_but {H : Hp} {l b : Addr} {xs : List V} {o o' : HO} (e : H l = some (.lst xs)) (eb : H b = some o') (hn : ∀ ys, o' ≠ .lst ys) : upd H l o b = some o' := by
  rw [upd_ne (fun z => by rw [z, e] at eb; exact hn _ (Option.some.inj eb).symm)]
  exact eb
theorem tabs_lst {T : List (Addr × Str)} {H : Hp} {l : Addr} {xs : List V} {o : HO} (t : Tabs T H) (e : H l = some (.lst xs)) : Tabs T (upd H l o) := fun x hx => by
  obtain ⟨ps, h1, h2, h3⟩ := t x hx
  exact ⟨ps, lst_but e h1 (fun _ z => by cases z), h2, fun pos cv hc => by
    obtain ⟨q, e1, e2⟩ := h3 pos cv hc
    exact ⟨q, e1, lst_but e e2 (fun _ z => by unfold CodeO at z; cases z)⟩⟩
theorem lamAt_lst {X : Cx} {k : Nat} {f l : Addr} {t : XK → TE} {H : Hp} {xs : List V} {o : HO} (h : LamAt X k f t H) (e : H l = some (.lst xs)) : LamAt X k f t (upd H l o) := by
  obtain ⟨pa, b, sc, pm, c', ctv, h1, h2, r⟩ := h
  exact ⟨pa, b, sc, pm, c', ctv, lst_but e h1 (fun _ z => by unfold LamO at z; cases z), lst_but e h2 (fun _ z => by unfold CodeO at z; cases z), r⟩
def Cg (C : Addr) (v : V) (b : Bool) (H : Hp) (y : V) : Prop := (b = true ∧ y = .non) ∨ (b = false ∧ ∃ a1 d1 : Addr, y = .ref a1 ∧ H a1 = some (EX a1 (.ref C) (some d1)) ∧ H d1 = some (xv v))
theorem Cg.ext {C : Addr} {v y : V} {b : Bool} {H H' : Hp} (h : Cg C v b H y) (e : ExtN H H') : Cg C v b H' y := by
  rcases h with h | ⟨hb, a1, d1, rfl, h1, h2⟩
  · exact .inl h
  · exact .inr ⟨hb, a1, d1, rfl, e _ _ h1 (fun _ z => by unfold EX at z; cases z), e _ _ h2 (fun _ z => by unfold xv at z; cases z)⟩
theorem Cg.lst {C l : Addr} {v y : V} {b : Bool} {H : Hp} {xs : List V} {o : HO} (h : Cg C v b H y) (e : H l = some (.lst xs)) : Cg C v b (upd H l o) y := by
  rcases h with h | ⟨hb, a1, d1, rfl, h1, h2⟩
  · exact .inl h
  · exact .inr ⟨hb, a1, d1, rfl, lst_but e h1 (fun _ z => by unfold EX at z; cases z), lst_but e h2 (fun _ z => by unfold xv at z; cases z)⟩
theorem told_cg {tl : XK → Hp → VK → Prop} {H : Hp} {Q : VK} {D C : Addr} {v : V} {b : Bool} (hx : PySem.W.exmOne K (.ref C) (.ref D) = some true)
    (h : ∀ (E : XK) (H1 : Hp) (Q1 : VK), Same H H1 → (b = true → ∀ H2 u, Same H1 H2 → Q1 u H2) → (b = false → ∀ H2 e, Same H1 H2 → H2 e = some (xv v) → E (.ref C) (some e) H2) → tl E H1 Q1)
    (q : ∀ (p : Addr) (H2 : Hp) (y u : V), Same H H2 → SqT K H2 p [y, u] → Cg C v b H2 y → Q (.ref p) H2) : TTold K D tl H Q := fun t ht =>
  h _ _ _ (same_new ht) (fun hb H2 u s2 p hp => q p _ .non u ((same_new ht).trans (s2.trans (same_new hp))) (SqT.of upd_same) (.inl ⟨hb, rfl⟩)) fun hb H2 e s2 he => ⟨hx, fun a ha p hp =>
    q p _ (.ref a) .non ((same_new ht).trans (s2.trans ((same_new ha).trans (same_new hp)))) (SqT.of upd_same) (.inr ⟨hb, a, e, rfl, same_new hp _ _ upd_same, same_new hp _ _ (same_new ha _ _ he)⟩)⟩
theorem fin_err {C fE : Addr} {v y : V} {d : PyData} {i : Nat} {H : Hp} {Q : VK} (T : ErrT K C fE) (hk : PySem.W.kitOne K (.ref C) (.ref C) = some true) (hc : Cg C v false H y) (hd : B4 K H v d) (e9 : σ[9]? = some (some y)) (ei : σ[i]? = some (some v)) (q : Q (.bl true) H) :
    tAndV (tCB (rIsX K) (tCons (tVar 9) (tCons (tC (.ref C)) tNil))) (tOp rEq (tCB (rRepr K) (tCons (tVal K (tVar 9)) tNil)) (tCB (rRepr K) (tCons (tVar i) tNil))) σ H Q := by
  rcases hc with ⟨h, _⟩ | ⟨_, a1, x1, rfl, fa, fv⟩
  · cases h
  · obtain ⟨o1, o2, o3⟩ := hd.show
    refine ⟨_, e9, a1, .ref C, .ref C, .ref C, true, rfl, .inl ⟨C, x1, fE, v, rfl, fa, fv, T⟩, fun u r => r, hk, _, rfl, ?_⟩
    refine Eq.mpr (if_pos rfl) ?_
    refine ⟨_, e9, a1, C, x1, fE, v, rfl, fa, T, fv, v, d, rfl, hd.dd, o1, o2, o3, _, ei, v, d, rfl, hd.dd, o1, o2, o3, rfl, ?_⟩
    rw [decide_eq_true rfl]
    exact q
theorem rowD_inj : ∀ {a b : List Bd}, a.map rowD = b.map rowD → a = b
  | [], [], _ => rfl
  | [], _ :: _, h => by cases h
  | _ :: _, [], h => by cases h
  | (x, y, i) :: a, (x', y', i') :: b, h => by
    have h2 := List.cons.inj h
    have h3 : ([.str x, .str y, .int i] : List PyData) = [.str x', .str y', .int i'] := PyData.tuple.inj h2.1
    cases h3
    rw [rowD_inj h2.2]
theorem ti_str {H : Hp} {v : V} {t : Option Str} (h : TI K H v t) (k : termO t = true) : ∃ z : Str, v = .str z ∧ t = some z := by
  rcases h with ⟨_, rfl⟩ | ⟨z, rfl, _, rfl⟩
  · cases k
  · exact ⟨z, rfl, rfl⟩
end
end L2.K04

set_option Elab.async false
set_option linter.all false
set_option maxRecDepth 100000
set_option maxHeartbeats 8000000
namespace L2.K04
open PySem PySem.Spec PyProof.Rows L2.Vx
open PySem.W (Frag)
open LamX (CodeO Tabs TabS TabB ExtN LamS lamEnv lamCx lamS_by)
/-! ### bounds of all kinds, and what is said of them -/
theorem passN {P : Program} {w : World} {X : Cx} : Passes (L2.CX P w) X (fun _ _ _ => False) := fun _ _ _ _ _ _ _ h => by
  obtain ⟨_, _, _, _, _, _, _, _, _, _, _, _, f⟩ := h
  exact f.elim
def qR : Str := ("_law_right" ++ ".<locals>." : Str) ++ "<lambda>"
structure FxRt (K : Frag) (mg : Str → Option Value) (CB CT CC D fE : Addr) : Prop where
  err : FxErr K mg CB CT CC fE
  gDraw : mg "DrawError" = some (.ref D)
  exB : PySem.W.exmOne K (.ref CB) (.ref D) = some true
  exT : PySem.W.exmOne K (.ref CT) (.ref D) = some true
  exC : PySem.W.exmOne K (.ref CC) (.ref D) = some true
  kB : PySem.W.kitOne K (.ref CB) (.ref CB) = some true
  kT : PySem.W.kitOne K (.ref CT) (.ref CT) = some true
  kC : PySem.W.kitOne K (.ref CC) (.ref CC) = some true
  rep : mg "repr" = none
  isi : mg "isinstance" = none
  tup : mg "tuple" = none
  list : mg "list" = none
  all : mg "all" = none
section
variable {P : Program} {w : World} {K : Frag} {mg : Str → Option Value} {bs : Heap}
def spRight (K : Frag) (PT : Addr) : Sp := fun vs H Q _ => ∃ (p : Addr) (k : Int), vs = [.ref p] ∧ 0 ≤ k ∧ k < 800000 ∧ Pot H p k ∧ Tabs [(PT, qR)] H ∧
  ∀ H', ExtB p H H' → Pot H' p (k + 200) → Tabs [(PT, qR)] H' → Q (.bl true) H'
abbrev rtN : List Str := ["pot", "bounds", "more", "value", "some", "one", "other", "are_right", "looks", "caught", "row", "look"]
theorem scRight : FnScope rtN ["pot"] (defScope sRight) := ⟨rfl, rfl, rfl, by decide +kernel, rfl, by decide +kernel, by decide +kernel⟩
theorem ok_right {f c PT fTo fS fLT fLB fBt fOd fO fSe fSh fLw fLb fLt fLR CB CT CC D fE : Addr} {fd fdTo fdS fdLT fdLB fdBt fdOd fdO fdSe fdSh fdLw fdLb fdLt fdLR : FuncData} (FP : FD K "_law_right" sRight f fd) (hc : fd.code = .ref c) (TB : TabB bs mg c PT) (F : FxRt K mg CB CT CC D fE)
    (FTo : FD K "_law_told" sTold fTo fdTo) (gTo : mg "_law_told" = some (.ref fTo)) (bTo : Binds K fdTo ["look"] [])
    (GS : FnOk P w K mg bs CX0 2 fS fdS ["pot", "pool", "many"] (spSome K)) (kS : PySem.W.keepIn K (.ref fS) = true) (gS : mg "_law_some" = some (.ref fS)) (bS : Binds K fdS ["pot", "pool", "many"] [])
    (GLT : FnOk P w K mg bs CX0 1 fLT fdLT [] spLTerms) (kLT : PySem.W.keepIn K (.ref fLT) = true) (gLT : mg "_law_terms" = some (.ref fLT)) (bLT : Binds K fdLT [] [])
    (GLB : FnOk P w K mg bs CX0 3 fLB fdLB ["pot", "terms", "many", "numbers"] (spLBds K)) (kLB : PySem.W.keepIn K (.ref fLB) = true) (gLB : mg "_law_bounds" = some (.ref fLB)) (bLB : Binds K fdLB ["pot", "terms", "many", "numbers"] [])
    (GBt : FnOk P w K mg bs CX0 5 fBt fdBt ["pot", "value"] (spBent K 2)) (kBt : PySem.W.keepIn K (.ref fBt) = true) (gBt : mg "_law_bent" = some (.ref fBt)) (bBt : Binds K fdBt ["pot", "value"] [])
    (GOd : FnOk P w K mg bs CX0 3 fOd fdOd ["pot"] (spOddZ K)) (kOd : PySem.W.keepIn K (.ref fOd) = true) (gOd : mg "_law_odd" = some (.ref fOd)) (bOd : Binds K fdOd ["pot"] [])
    (GO : FnOk P w K mg bs CX0 2 fO fdO ["pot", "some"] (spOf K)) (kO : PySem.W.keepIn K (.ref fO) = true) (gO : mg "_law_of" = some (.ref fO)) (bO : Binds K fdO ["pot", "some"] [])
    (GSe : FnOk P w K mg bs (L2.CX P w) 6 fSe fdSe ["bounds"] (spSetG K CB)) (kSe : PySem.W.keepIn K (.ref fSe) = true) (gSe : mg "settled" = some (.ref fSe)) (bSe : Binds K fdSe ["bounds"] [])
    (GSh : FnOk P w K mg bs (L2.CX P w) 6 fSh fdSh ["bounds", "value"] (spShowsN K CB)) (kSh : PySem.W.keepIn K (.ref fSh) = true) (gSh : mg "shows_settled" = some (.ref fSh)) (bSh : Binds K fdSh ["bounds", "value"] [])
    (GLw : FnOk P w K mg bs (L2.CX P w) 6 fLw fdLw ["bounds", "one", "other"] (spLeastG K CB CT CC)) (kLw : PySem.W.keepIn K (.ref fLw) = true) (gLw : mg "least_way" = some (.ref fLw)) (bLw : Binds K fdLw ["bounds", "one", "other"] [])
    (GLb : FnOk P w K mg bs CX0 2 fLb fdLb ["value"] (spLBd K)) (kLb : PySem.W.keepIn K (.ref fLb) = true) (gLb : mg "_law_is_bound" = some (.ref fLb)) (bLb : Binds K fdLb ["value"] [])
    (GLt : FnOk P w K mg bs CX0 1 fLt fdLt ["value"] (spLTerm K)) (kLt : PySem.W.keepIn K (.ref fLt) = true) (gLt : mg "_law_is_term" = some (.ref fLt)) (bLt : Binds K fdLt ["value"] [])
    (GLR : FnOk P w K mg bs CX0 3 fLR fdLR ["bounds"] (spLRing K)) (kLR : PySem.W.keepIn K (.ref fLR) = true) (gLR : mg "_law_has_ring" = some (.ref fLR)) (bLR : Binds K fdLR ["bounds"] []) :
    FnG P w K mg bs CX0 9 f fd ["pot"] (spRight K PT) := by
  have sc := scRight
  obtain ⟨oc, od, kV, doc, pm, an, cdv, ct, osl, rfl, lk, hcd⟩ := FTo.ex
  refine okGC FP hc scRight (fun vs H Q E h => ?_) (fun A outer s H vs Q E gd hr h => ?_)
  · obtain ⟨p, k, rfl, _⟩ := h
    rfl
  · obtain ⟨p, k0, rfl, k00, k9, hP, hT, k⟩ := h
    have hr1 : Room 1 (A.deeper (envOfC "_law_right" (defScope sRight) s.heap.objs.size f (.ref c))) := hr.mono (by decide)
    have hr2 : Room 2 (A.deeper (envOfC "_law_right" (defScope sRight) s.heap.objs.size f (.ref c))) := hr.mono (by decide)
    have hr3 : Room 3 (A.deeper (envOfC "_law_right" (defScope sRight) s.heap.objs.size f (.ref c))) := hr.mono (by decide)
    have hr5 : Room 5 (A.deeper (envOfC "_law_right" (defScope sRight) s.heap.objs.size f (.ref c))) := hr.mono (by decide)
    have hpt : ∀ (q : Addr × Str), q ∈ [(PT, qR)] → q.1 = PT → q.2 = qR := fun q hq _ => by rw [List.mem_singleton.mp hq]
    refine ⟨_, pss_cons (ps_set (i := 1) sc.nd rfl (Or.inl rfl) (pe_call GLB hr3 (by rfl) gLB kLB bLB .nil pass0 (pa_cons (pv 0) (pa_cons (pe_call GS hr2 (by rfl) gS kS bS .nil pass0 (pa_cons (pv 0) (pa_cons (pe_call0 GLT hr1 (by rfl) gLT kLT bLT .nil pass0) (pa_cons pe_int pa_nil)))) (pa_cons pe_int (pa_cons (pe_lst (pa_cons pe_int (pa_cons pe_int (pa_cons pe_int (pa_cons pe_int (pa_cons (pe_un un_neg pe_int) (pa_cons (pe_op op_sub (pe_op op_pow pe_int pe_int) pe_int) pa_nil))))))) pa_nil))))))
      (pss_cons (ps_set (i := 2) sc.nd rfl (Or.inl rfl) (pe_lst (pa_cons (pv 1) (pa_cons (pv 1) (pa_cons (pv 1) (pa_cons (pe_call GBt hr5 (by rfl) gBt kBt bBt .nil pass0 (pa_cons (pv 0) (pa_cons (pv 1) pa_nil))) (pa_cons (pe_call GBt hr5 (by rfl) gBt kBt bBt .nil pass0 (pa_cons (pv 0) (pa_cons (pv 1) pa_nil))) (pa_cons (pe_callTy call_list_of (by rfl) F.list boot_list (pa_cons (pv 1) pa_nil)) (pa_cons (pe_call GOd hr3 (by rfl) gOd kOd bOd .nil pass0 (pa_cons (pv 0) pa_nil)) pa_nil)))))))))
      (pss_cons (ps_set (i := 2) sc.nd rfl (Or.inl rfl) (pe_op op_cat (pv 2) (pe_lst (pa_cons (pe_op op_catF (pv 1) (pe_tupF (pa_cons (pe_tupF (pa_cons pe_str (pa_cons pe_str (pa_cons pe_int pa_nil)))) pa_nil))) (pa_cons (pe_op op_catF (pv 1) (pe_tupF (pa_cons (pe_tupF (pa_cons pe_str (pa_cons pe_str (pa_cons pe_int pa_nil)))) pa_nil))) (pa_cons (pe_op op_catF (pv 1) (pe_tupF (pa_cons (pe_tupF (pa_cons pe_str (pa_cons pe_str (pa_cons pe_int pa_nil)))) pa_nil))) pa_nil))))))
      (pss_cons (ps_set (i := 2) sc.nd rfl (Or.inl rfl) (pe_op op_cat (pv 2) (pe_lst (pa_cons (pe_op op_catF (pv 1) (pe_tupF (pa_cons (pe_tupF (pa_cons pe_str (pa_cons pe_str (pa_cons pe_int pa_nil)))) pa_nil))) (pa_cons (pe_op op_catF (pv 1) (pe_tupF (pa_cons (pe_tupF (pa_cons pe_str (pa_cons pe_str (pa_cons pe_int pa_nil)))) pa_nil))) pa_nil)))))
      (pss_cons (ps_set (i := 3) sc.nd rfl (Or.inr rfl) (pe_call GO hr2 (by rfl) gO kO bO .nil pass0 (pa_cons (pv 0) (pa_cons (pe_op op_cat (pv 2) (pe_lst (pa_cons (pe_op op_catF (pv 1) (pe_tupF (pa_cons (pe_tupF (pa_cons pe_str (pa_cons pe_str (pa_cons pe_int pa_nil)))) pa_nil))) pa_nil))) pa_nil))))
      (pss_cons (ps_set (i := 4) sc.nd rfl (Or.inl rfl) (pe_lst (pa_cons pe_str (pa_cons pe_str (pa_cons pe_str (pa_cons pe_str (pa_cons pe_str (pa_cons pe_str (pa_cons pe_str (pa_cons pe_str (pa_cons pe_str (pa_cons pe_str (pa_cons pe_str (pa_cons pe_non (pa_cons pe_int (pa_cons (pe_tupF (pa_cons pe_str pa_nil)) (pa_cons (pe_lst (pa_cons pe_str pa_nil)) pa_nil)))))))))))))))))
      (pss_cons (ps_asg (pe_tupF (pa_cons (pe_call GO hr2 (by rfl) gO kO bO .nil pass0 (pa_cons (pv 0) (pa_cons (pe_op op_cat (pv 4) (pe_lst (pa_cons (pe_call GOd hr3 (by rfl) gOd kOd bOd .nil pass0 (pa_cons (pv 0) pa_nil)) pa_nil))) pa_nil))) (pa_cons (pe_call GO hr2 (by rfl) gO kO bO .nil pass0 (pa_cons (pv 0) (pa_cons (pe_op op_cat (pv 4) (pe_lst (pa_cons (pe_call GOd hr3 (by rfl) gOd kOd bOd .nil pass0 (pa_cons (pv 0) pa_nil)) pa_nil))) pa_nil))) pa_nil))) (pg_tup rfl (pgs_cons (pg_name (i := 5) sc.nd rfl (Or.inr rfl)) (pgs_cons (pg_name (i := 6) sc.nd rfl (Or.inr rfl)) pgs_nil))))
      (pss_cons (ps_set (i := 7) sc.nd rfl (Or.inl rfl) (pe_and (pe_callB call_isi (by rfl) F.isi boot_isinstance (pa_cons (pv 3) (pa_cons (pe_bltn (v := .ty "tuple") (by rfl) F.tup boot_tuple rfl) pa_nil))) (pe_one (pe_callB (cr_all rfl) (by rfl) F.all boot_all (pa_cons (pe_lc (own := [("row", 10)]) (g := gName 10) (by rfl) sc.nd (pi_tup (pv 3)) (blkOk_by (N := ["pot", "bounds", "more", "value", "some", "one", "other", "are_right", "looks", "caught", "row", "look"]) (sc := defScope sRight) (by decide +kernel)) (fun _ _ _ _ _ => (pg_name (i := 10) sc.nd rfl (Or.inl rfl))) (fun _ _ _ _ _ => pts_nil) (fun _ _ _ _ _ => (pe_call GLb hr2 (by rfl) gLb kLb bLb .nil pass0 (pa_cons (pv 10) pa_nil)))) pa_nil)))))
      (pss_cons (ps_set (i := 8) sc.nd rfl (Or.inl rfl) (pe_lst (pa_cons (pe_lamA (T := [(PT, qR)]) (k := 6) (t := fun E => tCall (spSetG K CB) [] E (tCons (tVar 3) tNil)) TB rfl (List.mem_singleton.mpr rfl) hpt (show LamS (defScope sRight) _ from lamS_by (by decide +kernel)) rfl (fun _ _ _ _ _ => rfl) (fun A outer s H E f c' hr => pe_call GSe hr (by rfl) gSe kSe bSe .nil (fun pins σ H s e s' I z => (takes_of rfl rfl rfl rfl) e s' (XE.of_call I (fun _ _ _ h => h) z)) (pa_cons (pv 3) pa_nil))) pa_nil)))
      (pss_cons (ps_expr (pe_bm PySem.F.plainAttrs_list PySem.F.slot_list_append PySem.F.type_list_append mt_append (pv 8) (pa_cons (pe_lamA (T := [(PT, qR)]) (k := 6) (t := fun E => tCall (spShowsN K CB) [] E (tCons (tVar 3) (tCons (tC .non) tNil))) TB rfl (List.mem_singleton.mpr rfl) hpt (show LamS (defScope sRight) _ from lamS_by (by decide +kernel)) rfl (fun _ _ _ _ _ => rfl) (fun A outer s H E f c' hr => pe_call GSh hr (by rfl) gSh kSh bSh .nil (fun pins σ H s e s' I z => (takes_of rfl rfl rfl rfl) e s' (XE.of_call I (fun _ _ _ h => h) z)) (pa_cons (pv 3) (pa_cons pe_non pa_nil)))) pa_nil)))
      (pss_cons (ps_for (passes_of rfl) rfl (pi_list (pe_lcI (own := [("look", 11)]) (g := gName 11) (by rfl) sc.nd (pi_list (pv 8)) (blkOk_by (N := rtN) (sc := defScope sRight) (by decide +kernel)) (fun _ _ _ _ _ => pg_name (i := 11) sc.nd rfl (Or.inl rfl)) (fun pins σ s H C cl fp I hfp => pe_ix (r := rIxT K) ix_tup (pe_toldK (k := 6) (j := 11) (Ng := toldN) (TT := TTold K D) I hfp (by rfl) gTo FTo.kp lk hcd bTo ⟨rfl, rfl, rfl, by decide +kernel, rfl, by decide +kernel, by decide +kernel⟩ rfl (.inl rfl) (told_gives2 F.gDraw (fun _ => rfl)) hr (pv 11)) pe_int (fun _ _ => rfl)))) (pg_name (i := 9) sc.nd rfl (Or.inl rfl))
        (pss_cons (ps_if (pt_cmpR op_ne (pv 7) (pe_cmpR op_isN (pv 9) pe_non (nomark _)) (nomark _)) (pss_one (ps_ret pe_bl)) pss_nil)
        (pss_one (ps_if (PW.pt (pw_and (pt_not (pt_val (pv 7))) (pw_and1 (PW.pt (pw_or (pt_not (pt_val (pe_callB call_isX (by rfl) F.isi boot_isinstance (pa_cons (pv 9) (pa_cons (pe_ref F.err.gB) pa_nil))))) (pw_or1 (pt_cmpR op_ne (pe_callB (call_repr gd hr.units) (by rfl) F.rep boot_repr (pa_cons (pe_val (pv 9)) pa_nil)) (pe_callB (call_repr gd hr.units) (by rfl) F.rep boot_repr (pa_cons (pv 3) pa_nil)) (nomark _)))))))) (pss_one (ps_ret pe_bl)) pss_nil))))
      (pss_cons (ps_set (i := 9) sc.nd rfl (Or.inl rfl) (pe_ix ix_tup (pe_lam2 (T := [(PT, qR)]) (TT := TTold K D) (Ng := toldN) (k := 6) (t := fun E => tCall (spLeastG K CB CT CC) [] E (tCons (tVar 3) (tCons (tVar 5) (tCons (tVar 6) tNil)))) (by rfl) gTo FTo.kp lk hcd bTo ⟨rfl, rfl, rfl, by decide +kernel, rfl, by decide +kernel, by decide +kernel⟩ rfl (.inl rfl) (told_gives2 F.gDraw (fun _ => rfl)) TB rfl (List.mem_singleton.mpr rfl) hpt hr (show LamS (defScope sRight) _ from lamS_by (by decide +kernel)) rfl (fun _ _ _ _ _ => rfl) (fun A outer s H E f c' hr => pe_call GLw hr (by rfl) gLw kLw bLw .nil (fun pins σ H s e s' I z => (takes_of rfl rfl rfl rfl) e s' (XE.of_call I (fun _ _ _ h => h) z)) (pa_cons (pv 3) (pa_cons (pv 5) (pa_cons (pv 6) pa_nil))))) pe_int (fun _ _ => rfl)))
      (pss_cons (ps_if (pt_not (pt_val (pv 7))) (pss_one (ps_ret (pe_and (pe_callB call_isX (by rfl) F.isi boot_isinstance (pa_cons (pv 9) (pa_cons (pe_ref F.err.gB) pa_nil))) (pe_one (pe_cmpR op_eq (pe_callB (call_repr gd hr.units) (by rfl) F.rep boot_repr (pa_cons (pe_val (pv 9)) pa_nil)) (pe_callB (call_repr gd hr.units) (by rfl) F.rep boot_repr (pa_cons (pv 3) pa_nil)) (nomark _)))))) pss_nil)
      (pss_cons (ps_if (pt_not (pt_val (pe_call GLt hr1 (by rfl) gLt kLt bLt .nil pass0 (pa_cons (pv 5) pa_nil)))) (pss_one (ps_ret (pe_and (pe_callB call_isX (by rfl) F.isi boot_isinstance (pa_cons (pv 9) (pa_cons (pe_ref F.err.gT) pa_nil))) (pe_one (pe_cmpR op_eq (pe_callB (call_repr gd hr.units) (by rfl) F.rep boot_repr (pa_cons (pe_val (pv 9)) pa_nil)) (pe_callB (call_repr gd hr.units) (by rfl) F.rep boot_repr (pa_cons (pv 5) pa_nil)) (nomark _)))))) pss_nil)
      (pss_cons (ps_if (PW.pt (pw_or (pt_not (pt_val (pe_call GLt hr1 (by rfl) gLt kLt bLt .nil pass0 (pa_cons (pv 6) pa_nil)))) (pw_or1 (pt_cmpR op_eq (pv 6) (pv 5) (nomark _))))) (pss_one (ps_ret (pe_and (pe_callB call_isX (by rfl) F.isi boot_isinstance (pa_cons (pv 9) (pa_cons (pe_ref F.err.gT) pa_nil))) (pe_one (pe_cmpR op_eq (pe_callB (call_repr gd hr.units) (by rfl) F.rep boot_repr (pa_cons (pe_val (pv 9)) pa_nil)) (pe_callB (call_repr gd hr.units) (by rfl) F.rep boot_repr (pa_cons (pv 6) pa_nil)) (nomark _)))))) pss_nil)
      (pss_cons (ps_if (pt_val (pe_call GLR hr3 (by rfl) gLR kLR bLR .nil pass0 (pa_cons (pv 3) pa_nil))) (pss_one (ps_ret (pe_and (pe_callB call_isX (by rfl) F.isi boot_isinstance (pa_cons (pv 9) (pa_cons (pe_ref F.err.gC) pa_nil))) (pe_one (pe_cmpR op_eq (pe_callB (call_repr gd hr.units) (by rfl) F.rep boot_repr (pa_cons (pe_val (pv 9)) pa_nil)) (pe_callB (call_repr gd hr.units) (by rfl) F.rep boot_repr (pa_cons (pv 3) pa_nil)) (nomark _)))))) pss_nil)
      (pss_one (ps_ret (pe_cmpR op_isN (pv 9) pe_non (nomark _))))))))))))))))))), ?_⟩
    refine rd_seq (rd_set ?_)
    refine ⟨_, rfl, _, rfl, rfl, fun H1 q1 s1 hq10 hq1 => ?_⟩
    have n1p : q1 ≠ p := hP.ne hq10
    have lt6 : termL.length = 6 := rfl
    refine ⟨p, q1, termL.map V.str, 3, k0, rfl, n1p, SqL.of hq1, by rw [List.length_map, lt6]; decide, by rw [List.length_map, lt6]; decide, by omega, by omega, hP.same s1, fun H3 l ys rest k3 hl0 hl hpm hy hP3 => ?_⟩
    obtain ⟨T0, rfl, hnd, hTm⟩ := some_terms hpm
    have lT : T0.length = 3 := by rw [← hy, List.length_map]
    have nlp : l ≠ p := (hP.same s1).ne hl0
    have k03 := (But.of (p := p) s1).trans k3
    have okT : okTerms T0 := ⟨hnd, fun x hx => okTerms_all.2 x (hTm x hx)⟩
    dsimp only
    refine ⟨1, rfl, 10, 9, rfl, rfl, ⟨by decide, by decide, by decide⟩, _, 2, rfl, rfl, (by exact (by decide : 6 ≤ sizeLine)), fun nl hnl0 => ?_⟩
    dsimp only [tNil]
    have e9 : ((10 : Int) ^ Int.toNat 9 - 2) = 999999998 := by decide +kernel
    rw [e9]
    have s4 : Same H3 (upd H3 nl (.lst (numsL.map V.int))) := same_new hnl0
    have f4 : upd H3 nl (.lst (numsL.map V.int)) nl = some (.lst (numsL.map V.int)) := upd_same
    have nnp : nl ≠ p := hP3.ne hnl0
    have hP4 := hP3.same s4
    have hl4 := s4 _ _ hl
    have e4 : upd H3 nl (.lst [.int 0, .int 1, .int 2, .int 5, .int (-1), .int 999999998]) = upd H3 nl (.lst (numsL.map V.int)) := rfl
    rw [e4]
    generalize upd H3 nl (.lst (numsL.map V.int)) = H4 at s4 f4 hP4 hl4 ⊢
    refine ⟨p, l, nl, T0, numsL, 4, k0 + 3, rfl, nlp, nnp, SqL.of hl4, okT, by omega, by omega, SqL.of f4, by decide, by decide, by decide, by omega, by omega, hP4, fun H5 a ps bds k5 ha0 hB hbl hbm hP5 => ?_⟩
    have k05 := (k03.trans (But.of s4)).trans k5
    have nap : a ≠ p := hP4.ne ha0
    have hok : ∀ b ∈ bds, okRow b := fun b hb => by
      obtain ⟨h1, h2, h3⟩ := hbm b hb
      exact ⟨terms_ok _ (hTm _ h1), terms_ok _ (hTm _ h2), nums_small _ h3⟩
    have hbT : DaT K [p] 4 12 2 H5 (.ref a) := ⟨.tuple (bds.map rowD), rfl, .tup (sqt_awy hP5 hB.1) (fun z => by rw [wAll_rows] at z; cases z) (dw_rowsB (awy_rows hP5 hB.rows)), oki_rows hok hbl⟩
    have hbW : Dw K (awyZ [p] H5) (.ref a) (.tuple (bds.map rowD)) := .tup (sqt_awy hP5 hB.1) (fun z => by rw [wAll_rows] at z; cases z) (dw_rowsB (awy_rows hP5 hB.rows))
    have hbO := oki_rows hok hbl
    have hbP := pln_rows hok
    clear hbm hTm hnd hpm hy hl4 f4 s4 k5 hP4 hl hP3 k3 k03 hok okT lT
    dsimp only
    have bent : ∀ (σ : St) (H1 : Hp) (k1 : Int), σ[0]? = some (some (.ref p)) → σ[1]? = some (some (.ref a)) → But p H5 H1 → Pot H1 p k1 → k1 < 900000 → ∀ Q : VK, (∀ v H', But p H1 H' → Pot H' p (k1 + 9) → It4 K p H' v → Q v H') → tCall (spBent K 2) [] E0 (tCons (tVar 0) (tCons (tVar 1) tNil)) σ H1 Q := fun σ H1 k1 e0 e1 kk hP1 hk Q q =>
      ⟨_, e0, _, e1, p, .ref a, .tuple (bds.map rowD), 4, 12, k1, [p], rfl, by simp, hP1.z1, by decide, hbP, Dw_keep (awyZ_but kk.z1) hbW, hbO, by decide, by decide, by decide, by decide, hP1, by omega, fun H' u k2 hP2 hu => q u H' k2 (hP2.mono (by omega)) (it_da hu (by decide) (by decide) (by decide))⟩
    refine rd_seq (rd_set ?_)
    refine list_it (p := p) (k := k0 + 3 + 100) (c := 9 + (9 + (1 + 0))) (m := 7) (gxi_pure (gxt_var rfl hbT).gx (by decide) (by decide) (by decide) fun J1 t1 => gxi_pure (gxt_var rfl (hbT.same t1)).gx (by decide) (by decide) (by decide) fun J2 t2 => gxi_pure (gxt_var rfl (hbT.same (t1.trans t2))).gx (by decide) (by decide) (by decide) fun J3 t3 =>
      gxi_call (c := 9) (c2 := 9 + (1 + 0)) (bent _ _ _ rfl rfl (But.of ((t1.trans t2).trans t3)) (hP5.same ((t1.trans t2).trans t3)) (by omega)) fun J4 b4 Q4 =>
      gxi_call (c := 9) (c2 := 1 + 0) (bent _ _ _ rfl rfl ((But.of ((t1.trans t2).trans t3)).trans b4) Q4 (by omega)) fun J5 b5 Q5 =>
      gxi_pure (gx_list (fun _ _ _ h => h) Q5.z1 (gxt_var rfl (hbT.but (((But.of ((t1.trans t2).trans t3)).trans b4).trans b5).z1))) (by decide) (by decide) (by decide) fun J6 t6 =>
      gxi_call (c := 1) (c2 := 0) (fun Q q => call_odd rfl (Q5.same t6) (by omega) q) fun J7 b7 Q7 => gxi_nil Q7) (by decide) (fun L1 H6 k6 hP6 hL1 => ?_)
    have hb6 := hbT.but k6.z1
    dsimp only
    refine rd_seq (rd_set ?_)
    refine cat_it (k := k0 + 3 + 100 + (9 + (9 + (1 + 0)))) (c := 0) (i := 2) (n := 7) (m := 3) rfl hL1 (gxi_pure (gx_row rfl hb6 hP6.z1 (by decide +kernel) (by decide +kernel) (by decide +kernel) (by decide +kernel) (by decide)) (by decide) (by decide) (by decide) fun J1 t1 =>
      gxi_pure (gx_row rfl (hb6.same t1) (hP6.same t1).z1 (by decide +kernel) (by decide +kernel) (by decide +kernel) (by decide +kernel) (by decide)) (by decide) (by decide) (by decide) fun J2 t2 =>
      gxi_pure (gx_row rfl (hb6.same (t1.trans t2)) (hP6.same (t1.trans t2)).z1 (by decide +kernel) (by decide +kernel) (by decide +kernel) (by decide +kernel) (by decide)) (by decide) (by decide) (by decide) fun J3 t3 =>
      gxi_nil (hP6.same ((t1.trans t2).trans t3))) (by decide) (by decide) (fun L2 H7 k7 hP7 hL2 => ?_)
    have hb7 := hb6.but k7.z1
    dsimp only
    refine rd_seq (rd_set ?_)
    refine cat_it (k := k0 + 3 + 100 + (9 + (9 + (1 + 0))) + 0) (c := 0) (i := 2) (n := 10) (m := 2) rfl hL2 (gxi_pure (gx_row rfl hb7 hP7.z1 (by decide +kernel) (by decide +kernel) (by decide +kernel) (by decide +kernel) (by decide)) (by decide) (by decide) (by decide) fun J1 t1 =>
      gxi_pure (gx_row rfl (hb7.same t1) (hP7.same t1).z1 (by decide +kernel) (by decide +kernel) (by decide +kernel) (by decide +kernel) (by decide)) (by decide) (by decide) (by decide) fun J2 t2 =>
      gxi_nil (hP7.same (t1.trans t2))) (by decide) (by decide) (fun L3 H8 k8 hP8 hL3 => ?_)
    have hb8 := hb7.but k8.z1
    dsimp only
    refine rd_seq (rd_set ?_)
    refine ⟨_, rfl, cat_it (k := k0 + 3 + 100 + (9 + (9 + (1 + 0))) + 0 + 0) (c := 0) (i := 2) (n := 12) (m := 1) rfl hL3 (gxi_pure (gx_row rfl hb8 hP8.z1 (by decide +kernel) (by decide +kernel) (by decide +kernel) (by decide +kernel) (by decide)) (by decide) (by decide) (by decide) fun J1 t1 =>
      gxi_nil (hP8.same t1)) (by decide) (by decide) (fun L4 H9 k9 hP9 hL4 => of_it (E := E0) hL4 (by decide) (by decide) hP9 (by omega) (fun value H10 k10 hP10 hv => ?_))⟩
    have k0a := ((((k05.trans k6).trans k7).trans k8).trans k9).trans k10
    have hPa : Pot H10 p (k0 + 130) := hP10.mono (by omega)
    clear bent hbT hbW hbO hbP hb6 hb7 hb8 hP5 hP6 hP7 hP8 hP9 hP10 hL1 hL2 hL4 k05 k6 k7 k8 k9 k10 e4 e9 hnl0 hl0 hbl hB ha0
    dsimp only
    refine rd_seq (rd_set ?_)
    refine list_it (K := K) (p := p) (k := k0 + 130) (c := 0) (m := 15) (gxi_all (M := 4) (S := 12) (n := 2) ((gx_cons (gx_str (by decide +kernel) (by decide +kernel)) (gx_cons (gx_str (by decide +kernel) (by decide +kernel)) (gx_cons (gx_str (by decide +kernel) (by decide +kernel)) (gx_cons (gx_str (by decide +kernel) (by decide +kernel)) (gx_cons (gx_str (by decide +kernel) (by decide +kernel)) (gx_cons (gx_str (by decide +kernel) (by decide +kernel)) (gx_cons (gx_str (by decide +kernel) (by decide +kernel)) (gx_cons (gx_str (by decide +kernel) (by decide +kernel)) (gx_cons (gx_str (by decide +kernel) (by decide +kernel)) (gx_cons (gx_str (by decide +kernel) (by decide +kernel)) (gx_cons (gx_str (by decide +kernel) (by decide +kernel)) (gx_cons gx_non (gx_cons (gx_int 0 (by decide)) (gx_cons (gx_tup (n := 1) hPa.z1 (gx_cons (gx_str (by decide +kernel) (by decide +kernel)) gx_nil) (by decide) (by decide)).gx (gx_cons (gx_lst (n := 1) hPa.z1 (gx_cons (gx_str (by decide +kernel) (by decide +kernel)) gx_nil) (by decide) (by decide)) gx_nil)))))))))))))))) (by decide) (by decide) (by decide) hPa) (by decide) (fun L5 H11 k11 hP11 hL5 => ?_)
    have k0b := k0a.trans k11
    have hv11 := hv.but k11
    have odds : ∀ (σ : St) (H1 : Hp) (k1 : Int), σ[0]? = some (some (.ref p)) → σ[4]? = some (some (.ref L5)) → But p H11 H1 → Pot H1 p k1 → k1 < 900000 → ∀ Q : VK, (∀ v H', But p H1 H' → Pot H' p (k1 + 2) → It4 K p H' v → Q v H') → tCall (spOf K) [] E0 (tCons (tVar 0) (tCons (tOp rCat (tVar 4) (tLst (tCons (tCall (spOddZ K) [] E0 (tCons (tVar 0) tNil)) tNil))) tNil)) σ H1 Q := fun σ H1 k1 e0 e4 kk hP1 hk Q q =>
      ⟨_, e0, cat_it (k := k1) (c := 1 + 0) (i := 4) (n := 15) (m := 1) e4 (hL5.but kk) (gxi_call (c := 1) (c2 := 0) (fun Q q => call_odd e0 hP1 (by omega) q) fun J7 b7 Q7 => gxi_nil Q7) (by decide) (by decide) (fun L6 H12 k12 hP12 hL6 => of_it (E := E0) hL6 (by decide) (by decide) hP12 (by omega) (fun v H13 k13 hP13 hv => q v H13 (k12.trans k13) (hP13.mono (by omega)) hv))⟩
    dsimp only
    refine rd_seq ?_
    refine odds _ _ _ rfl rfl (But.refl _ _) hP11 (by omega) _ fun one H12 k12 hP12 ho => odds _ _ _ rfl rfl k12 hP12 (by omega) _ fun other H13 k13 hP13 ht => ?_
    have k0c := (k0b.trans k12).trans k13
    have hv13 := (hv11.but k12).but k13
    have ho13 := ho.but k13
    have hPc : Pot H13 p (k0 + 140) := hP13.mono (by omega)
    clear odds hL5 hPa hP11 hP12 hP13 k0a k0b k11 k12 k13 hv hv11 ho hL3
    dsimp only
    refine ⟨(by exact (by decide : 2 ≤ sizeLine)), fun t14 H14 nt14 s14 ht14 => ?_⟩
    refine ⟨t14, _, rfl, ht14.sq, rfl, _, _, rfl, _, _, rfl, rfl, ?_⟩
    obtain ⟨dv, hdv⟩ := (hv13.same s14).b4
    obtain ⟨d1, hd1⟩ := (ho13.same s14).b4
    obtain ⟨d2, hd2⟩ := (ht.same s14).b4
    have k0d := k0c.trans (But.of s14)
    have hPd := hPc.same s14
    have hTd := tabs_but hT hP k0d
    clear hv13 ho13 ht k0c hPc ht14 nt14 s14
    refine rd_seq (rd_set ?_)
    refine te_to (fun v H' => v = .bl (rightB dv) ∧ Same H14 H') ?_ ?_
    rotate_left
    · intro Q' q'
      rcases hdv with ⟨hw, hok⟩ | ⟨rfl, a0, rfl, h0⟩
      · refine ⟨_, rfl, value, .ty "tuple", _, _, isTupD dv, rfl, .ty "tuple", hw.ty, kit_ty (kit_tup dv), _, rfl, ?_⟩
        cases hti : isTupD dv with
        | false =>
          refine Eq.mpr (if_neg (by decide)) ?_
          have hR : rightB dv = false := by cases dv <;> first | rfl | cases hti
          exact q' _ _ ⟨by rw [hR], Same.refl _⟩
        | true =>
          refine Eq.mpr (if_pos rfl) ?_
          obtain ⟨q, xs, ds, rfl, rfl, hx, hall, _⟩ := dw_tup hw hti
          have hmem := oki_tup1 hok
          have hl9 : ds.length ≤ 9 := hok.ok.tup.2
          have hlen := hall.len
          refine ⟨_, rfl, q, rfl, ⟨_, hx⟩, fun D hD => lc_it (walk_tup (K := K) (a := q) (xs := xs)) (fun j H' => Same H14 H' ∧ H' D = some (.lst (((ds.take j).map fun d => (bdD d).isSome).map V.bl))) ⟨same_new hD, by rw [upd_same]; rfl⟩ (fun _ _ _ u => sqt_same u.1 hx) ?_ ?_⟩
          · rintro j u H5 H6 hj ⟨s5, d5⟩ ⟨rfl, hv⟩
            obtain ⟨e, he, hde⟩ := hall.get hv
            have hoe := hmem e (List.mem_of_getElem? he)
            refine ⟨rfl, rd_yes rfl ?_⟩
            refine ⟨_, rfl, u, e, rfl, Dw_keep s5 hde, (hoe.ok.up (by decide) (by decide)).mono (by decide), hoe.ib, fun H7 s7 => ⟨_, s7 _ _ d5, ?_, (s5.trans s7).mut hD, ?_⟩⟩
            · rw [List.length_map, List.length_map, List.length_take]
              exact Nat.lt_of_le_of_lt (Nat.min_le_right _ _) (Nat.lt_of_le_of_lt hl9 (by decide))
            · rw [upd_same, List.take_succ, he, List.map_append, List.map_append]
              rfl
          · rintro H5 ⟨s5, d5⟩
            refine ⟨D, _, rfl, SqL.of d5, ?_⟩
            rw [hlen, List.take_length, List.all_map]
            exact q' _ _ ⟨rfl, s5⟩
      · refine ⟨_, rfl, .ref a0, .ty "tuple", _, _, false, rfl, .ty "tuple", .base (.dK h0), kit_ty (by decide +kernel), _, rfl, ?_⟩
        refine Eq.mpr (if_neg (by decide)) ?_
        exact q' _ _ ⟨rfl, Same.refl _⟩
    rintro _ H15 ⟨rfl, s15⟩
    replace hdv := hdv.same s15
    replace hd1 := hd1.same s15
    replace hd2 := hd2.same s15
    replace k0d := k0d.trans (But.of s15)
    replace hPd := hPd.same s15
    replace hTd := hTd.ext s15
    clear s15
    generalize hright : rightB dv = right
    dsimp only
    refine rd_seq (rd_set ?_)
    refine ⟨hTd, fun f1 G1 e1 T1 nf1 L1 => ⟨by exact (by decide : 1 ≤ sizeLine), fun ll hll => ?_⟩⟩
    have hG1 : upd G1 ll (.lst [.ref f1]) ll = some (.lst [.ref f1]) := upd_same
    have sG1 : Same G1 (upd G1 ll (.lst [.ref f1])) := same_new hll
    have e1' := ExtN.tr e1 (ExtN.of sG1)
    have T1' := T1.ext sG1
    have L1' := L1.same sG1
    have nll : ∀ o, H15 ll = some o → (∀ ps : Array Value, o ≠ .tbl ps) → False := fun o e n => by
      have := e1 _ _ e n
      rw [hll] at this
      cases this
    generalize upd G1 ll (.lst [.ref f1]) = G2 at hG1 sG1 e1' T1' L1' ⊢
    dsimp only
    refine rd_seq ?_
    refine ⟨_, rfl, .inl ⟨rfl, _, SqL.of hG1⟩, T1', fun f2 G3 e2 T2 nf2 L2 => ⟨ll, [.ref f1], .ref f2, rfl, rfl, e2 _ _ hG1 (fun _ z => by cases z), by exact (by decide : 1 < sizeLine), ?_⟩⟩
    have hG3 := e2 _ _ hG1 (fun _ z => by cases z)
    have eA : ExtN H15 (upd G3 ll (.lst ([.ref f1] ++ [.ref f2]))) := fun b o e n => by
      rw [upd_ne (fun z => nll o (by rw [← z]; exact e) n)]
      exact e2 _ _ (e1' _ _ e n) n
    have TA := tabs_lst (o := .lst ([.ref f1] ++ [.ref f2])) T2 hG3
    have LA1 := lamAt_lst (o := .lst ([.ref f1] ++ [.ref f2])) (L1'.extN e2) hG3
    have LA2 := lamAt_lst (o := .lst ([.ref f1] ++ [.ref f2])) L2 hG3
    have hA : upd G3 ll (.lst ([.ref f1] ++ [.ref f2])) ll = some (.lst [.ref f1, .ref f2]) := upd_same
    clear L1 L1' L2 T1 T1' T2 e1 e1' e2 nf1 nf2 hG1 hG3 sG1 hll nll
    generalize upd G3 ll (.lst ([.ref f1] ++ [.ref f2])) = GA at eA TA LA1 LA2 hA ⊢
    have hdA := hdv.ext eA
    dsimp only
    refine rd_seq ?_
    refine ⟨_, rfl, ll, rfl, ⟨_, SqL.of hA⟩, fun C hC => lc_it (walk_list (K := K) (a := ll) (xs := [.ref f1, .ref f2])) (fun j H' => ExtN GA H' ∧ Tabs [(PT, qR)] H' ∧ ∃ ys, H' C = some (.lst ys) ∧ ys.length = j ∧ ∀ y ∈ ys, Cg CB value right H' y) ⟨ExtN.of (same_new hC), TA.ext (same_new hC), [], upd_same, rfl, fun y hy => by cases hy⟩ (fun _ _ _ u => SqL.of (u.1 _ _ hA (fun _ z => by cases z))) ?_ ?_⟩
    · rintro j u B1 B2 hj ⟨eB, TB1, ys, dC, lC, aC⟩ ⟨rfl, hu⟩
      have hdB := hdA.ext eB
      have pick : ∃ (fx : Addr) (t : XK → TE), u = .ref fx ∧ LamAt (cxOf CX0 P w K mg bs rtN "_law_right" (defScope sRight) f (.ref c) A outer s H E) 6 fx t GA ∧ ∀ (σ : St) (E : XK) (H1 : Hp) (Q1 : VK), σ[3]? = some (some value) → VI K H1 value dv → (right = true → ∀ H2 u, Same H1 H2 → Q1 u H2) →
          (right = false → ∀ H2 e, Same H1 H2 → H2 e = some (xv value) → E (.ref CB) (some e) H2) → t E σ H1 Q1 := by
        match j, hj, hu with
        | 0, _, hu =>
          cases hu
          exact ⟨f1, _, rfl, LA1, fun σ E H1 Q1 e hv a b => ⟨_, e, value, dv, rfl, hv, fun hR H2 u s2 => a (hright.symm.trans hR) H2 u s2, fun hR H2 x s2 hx => b (hright.symm.trans hR) H2 x s2 hx⟩⟩
        | 1, _, hu =>
          cases hu
          exact ⟨f2, _, rfl, LA2, fun σ E H1 Q1 e hv a b => ⟨_, e, value, dv, rfl, hv, fun hR H2 u s2 => a (hright.symm.trans hR) H2 u s2, fun hR H2 x s2 hx => b (hright.symm.trans hR) H2 x s2 hx⟩⟩
        | n + 2, h, _ => exact absurd h (by simp)
      obtain ⟨fx, t, rfl, hL, ht⟩ := pick
      refine ⟨rfl, rd_yes rfl ?_⟩
      refine ⟨fx, t, rfl, hL.extN eB, told_cg (b := right) (v := value) F.exB (fun E1 H1 Q1 s1 a b => ⟨(hL.extN eB).same s1, ht _ _ _ _ rfl (hdB.same s1).vi a b⟩) fun pp H2 y u s2 hq hy => ?_⟩
      have dC2 := s2 _ _ dC
      refine ⟨pp, _, 0, y, rfl, rfl, hq, rfl, ys, dC2, Nat.lt_of_le_of_lt (by simp at hj; omega : ys.length ≤ 2) (by decide), fun b o e n => ?_, tabs_lst (TB1.ext s2) dC2, ys ++ [y], upd_same, by rw [List.length_append, lC]; rfl, fun z hz => ?_⟩
      · rw [upd_ne (fun z => by rw [z, hC] at e; cases e)]
        exact s2 _ _ (eB _ _ e n)
      · rcases List.mem_append.mp hz with hz | hz
        · exact ((aC z hz).ext (ExtN.of s2)).lst dC2
        · rw [List.mem_singleton.mp hz]
          exact hy.lst dC2
    · rintro B1 ⟨eB, TB1, ys, dC, lC, aC⟩
      have eZ : ExtN H15 B1 := ExtN.tr eA eB
      have hd3 := hdv.ext eZ
      obtain ⟨o1, o2, o3⟩ := hdv.show
      refine ⟨C, rfl, ⟨_, SqL.of dC⟩, for_it (walk_list (K := K) (a := C) (xs := ys)) (fun i σ H' => ∃ v9 : Option V, σ = [some (.ref p), some (.ref a), some (.ref L3), some value, some (.ref L5), some one, some other, some (.bl right), some (.ref ll), v9, none, none] ∧ Same B1 H') ⟨none, rfl, Same.refl _⟩ (fun i σ H' _ u => ?_) ?_ ?_⟩
      · obtain ⟨_, _, u⟩ := u
        exact SqL.of (u _ _ dC)
      · rintro j y σ G1 G2 hj ⟨v9, rfl, sG⟩ ⟨rfl, hy⟩
        have hc := (aC y (List.mem_of_getElem? hy)).ext (ExtN.of sG)
        refine rd_seq (rd_if ?_)
        rcases hc with ⟨rfl, rfl⟩ | ⟨rfl, a1, x1, rfl, fa, fv⟩
        · refine ⟨_, rfl, _, rfl, rfl, rfl, _, rfl, ?_⟩
          refine Eq.mpr (if_neg (by decide)) ?_
          dsimp only [tNext]
          refine rd_if ?_
          refine ⟨_, rfl, true, rfl, ?_⟩
          refine Eq.mpr (if_neg (by decide)) ?_
          refine Eq.mpr (if_neg (by decide)) ?_
          exact ⟨_, rfl, sG⟩
        · have hdG := hd3.same sG
          refine ⟨_, rfl, _, rfl, rfl, rfl, _, rfl, ?_⟩
          refine Eq.mpr (if_neg (nt rfl)) ?_
          dsimp only [tNext]
          refine rd_if ?_
          refine ⟨_, rfl, false, rfl, ?_⟩
          refine Eq.mpr (if_pos rfl) ?_
          refine ⟨_, rfl, a1, .ref CB, .ref CB, .ref CB, true, rfl, .inl ⟨CB, x1, fE, value, rfl, fa, fv, F.err.bad⟩, fun u r => r, F.kB, _, rfl, ?_⟩
          refine Eq.mpr (if_neg (by decide)) ?_
          refine ⟨_, rfl, a1, CB, x1, fE, value, rfl, fa, F.err.bad, fv, value, dv, rfl, hdG.dd, o1, o2, o3, _, rfl, value, dv, rfl, hdG.dd, o1, o2, o3, rfl, _, rfl, ?_⟩
          refine Eq.mpr (if_neg (nt rfl)) ?_
          exact ⟨_, rfl, sG⟩
      · rintro σ G1 ⟨v9, rfl, sG⟩
        have hvG := hd3.same sG
        have h1G := (hd1.ext eZ).same sG
        have h2G := (hd2.ext eZ).same sG
        have TG := TB1.ext sG
        have eG : ExtN H15 G1 := ExtN.tr eZ (ExtN.of sG)
        have done : ∀ Z2, ExtN G1 Z2 → Tabs [(PT, qR)] Z2 → Q (.bl true) Z2 := fun Z2 e T => k Z2 ((ExtB.of k0d).trans (ExtB.ofN (ExtN.tr eG e))) ((hPd.ext (ExtN.tr eG e)).mono (by omega)) T
        clear o1 o2 o3 hd3 aC dC lC TB1 eB eA TA LA1 LA2 hA hC hdA eZ sG hd1 hd2 hdv
        dsimp only
        refine rd_seq (rd_set ?_)
        refine ⟨TG, fun Z eZ TZ => ?_⟩
        cases right with
        | false =>
          refine told_cg (C := CB) (v := value) (b := false) F.exB (fun E1 Z1 Q1 s1 a bb => ⟨_, rfl, _, rfl, _, rfl, value, _, one, other, strO d1, strO d2, rfl, ((hvG.ext eZ).same s1).vi, ((h1G.ext eZ).same s1).ti, ((h2G.ext eZ).same s1).ti, fun _ => bb rfl, (fun h => absurd (hright.symm.trans h) (by decide)), (fun h => absurd (hright.symm.trans h) (by decide)), (fun h => absurd (hright.symm.trans h) (by decide)), (fun h => absurd (hright.symm.trans h) (by decide))⟩) fun pp Z2 y u s2 hq hy => ⟨pp, _, 0, y, rfl, rfl, hq, rfl, ?_⟩
          dsimp only
          refine rd_seq (rd_if ?_)
          refine ⟨_, rfl, false, rfl, ?_⟩
          refine Eq.mpr (if_pos rfl) ?_
          exact fin_err (i := 3) F.err.bad F.kB hy ((hvG.ext eZ).same s2) rfl rfl (done Z2 (ExtN.tr eZ (ExtN.of s2)) (TZ.ext s2))
        | true =>
          cases ht1 : termO (strO d1) with
          | false =>
            refine told_cg (C := CT) (v := one) (b := false) F.exT (fun E1 Z1 Q1 s1 a bb => ⟨_, rfl, _, rfl, _, rfl, value, _, one, other, strO d1, strO d2, rfl, ((hvG.ext eZ).same s1).vi, ((h1G.ext eZ).same s1).ti, ((h2G.ext eZ).same s1).ti, fun h => absurd (hright.symm.trans h) (by decide), fun _ _ => bb rfl, (fun _ h => absurd (ht1.symm.trans h) (by decide)), (fun _ h => absurd (ht1.symm.trans h) (by decide)), (fun _ h => absurd (ht1.symm.trans h) (by decide))⟩) fun pp Z2 y u s2 hq hy => ⟨pp, _, 0, y, rfl, rfl, hq, rfl, ?_⟩
            dsimp only
            refine rd_seq (rd_if ?_)
            refine ⟨_, rfl, true, rfl, ?_⟩
            refine Eq.mpr (if_neg (by decide)) ?_
            dsimp only [tNext]
            refine rd_seq (rd_if ?_)
            refine ⟨_, rfl, one, strO d1, rfl, ((h1G.ext eZ).same s2).ti, fun Z3 s3 => ⟨_, rfl, ?_⟩⟩
            refine Eq.mpr (if_pos (by rw [ht1]; rfl)) ?_
            exact fin_err (i := 5) F.err.term F.kT (hy.ext (ExtN.of s3)) ((h1G.ext eZ).same (s2.trans s3)) rfl rfl (done Z3 (ExtN.tr eZ (ExtN.of (s2.trans s3))) (TZ.ext (s2.trans s3)))
          | true =>
            cases ht2 : termO (strO d2) with
            | false =>
              refine told_cg (C := CT) (v := other) (b := false) F.exT (fun E1 Z1 Q1 s1 a bb => ⟨_, rfl, _, rfl, _, rfl, value, _, one, other, strO d1, strO d2, rfl, ((hvG.ext eZ).same s1).vi, ((h1G.ext eZ).same s1).ti, ((h2G.ext eZ).same s1).ti, (fun h => absurd (hright.symm.trans h) (by decide)), (fun _ h => absurd (ht1.symm.trans h) (by decide)), (fun _ _ _ => bb rfl), (fun _ _ h => absurd (ht2.symm.trans h) (by decide)), (fun _ _ h => absurd (ht2.symm.trans h) (by decide))⟩) fun pp Z2 y u s2 hq hy => ⟨pp, _, 0, y, rfl, rfl, hq, rfl, ?_⟩
              dsimp only
              refine rd_seq (rd_if ?_)
              refine ⟨_, rfl, true, rfl, ?_⟩
              refine Eq.mpr (if_neg (by decide)) ?_
              dsimp only [tNext]
              refine rd_seq (rd_if ?_)
              refine ⟨_, rfl, _, strO d1, rfl, ((h1G.ext eZ).same s2).ti, fun Z3 s3 => ⟨_, rfl, ?_⟩⟩
              refine Eq.mpr (if_neg (by rw [ht1]; decide)) ?_
              dsimp only [tNext]
              refine rd_seq (rd_if ?_)
              refine ⟨_, rfl, _, strO d2, rfl, ((h2G.ext eZ).same (s2.trans s3)).ti, fun Z4 s4 => ⟨_, rfl, ?_⟩⟩
              refine Eq.mpr (if_pos (by rw [ht2]; rfl)) ?_
              refine Eq.mpr (if_pos rfl) ?_
              exact fin_err (i := 6) F.err.term F.kT ((hy.ext (ExtN.of s3)).ext (ExtN.of s4)) ((h2G.ext eZ).same ((s2.trans s3).trans s4)) rfl rfl (done Z4 (ExtN.tr eZ (ExtN.of ((s2.trans s3).trans s4))) (TZ.ext ((s2.trans s3).trans s4)))
            | true =>
              obtain ⟨x1, rfl, e1⟩ := ti_str h1G.ti ht1
              obtain ⟨x2, rfl, e2⟩ := ti_str h2G.ti ht2
              by_cases hx : x2 = x1
              · have h21 : strO d2 = strO d1 := by rw [e1, e2, hx]
                refine told_cg (C := CT) (v := .str x2) (b := false) F.exT (fun E1 Z1 Q1 s1 a bb => ⟨_, rfl, _, rfl, _, rfl, value, _, .str x1, .str x2, strO d1, strO d2, rfl, ((hvG.ext eZ).same s1).vi, ((h1G.ext eZ).same s1).ti, ((h2G.ext eZ).same s1).ti, (fun h => absurd (hright.symm.trans h) (by decide)), (fun _ h => absurd (ht1.symm.trans h) (by decide)), (fun _ _ _ => bb rfl), (fun _ _ _ n => absurd h21 n), (fun _ _ _ n => absurd h21 n)⟩) fun pp Z2 y u s2 hq hy => ⟨pp, _, 0, y, rfl, rfl, hq, rfl, ?_⟩
                dsimp only
                refine rd_seq (rd_if ?_)
                refine ⟨_, rfl, true, rfl, ?_⟩
                refine Eq.mpr (if_neg (by decide)) ?_
                dsimp only [tNext]
                refine rd_seq (rd_if ?_)
                refine ⟨_, rfl, _, strO d1, rfl, ((h1G.ext eZ).same s2).ti, fun Z3 s3 => ⟨_, rfl, ?_⟩⟩
                refine Eq.mpr (if_neg (by rw [ht1]; decide)) ?_
                dsimp only [tNext]
                refine rd_seq (rd_if ?_)
                refine ⟨_, rfl, _, strO d2, rfl, ((h2G.ext eZ).same (s2.trans s3)).ti, fun Z4 s4 => ⟨_, rfl, ?_⟩⟩
                refine Eq.mpr (if_neg (by rw [ht2]; decide)) ?_
                refine ⟨_, rfl, _, rfl, rfl, _, rfl, ?_⟩
                refine Eq.mpr (if_pos (by rw [hx]; exact decide_eq_true rfl)) ?_
                exact fin_err (i := 6) F.err.term F.kT ((hy.ext (ExtN.of s3)).ext (ExtN.of s4)) ((h2G.ext eZ).same ((s2.trans s3).trans s4)) rfl rfl (done Z4 (ExtN.tr eZ (ExtN.of ((s2.trans s3).trans s4))) (TZ.ext ((s2.trans s3).trans s4)))
              · have h21 : strO d2 ≠ strO d1 := fun z => by
                  rw [e1, e2] at z
                  exact hx (Option.some.inj z)
                have h3 : ¬ (termO (strO d2) = false ∨ strO d2 = strO d1) := fun z => z.elim (fun z => absurd (ht2.symm.trans z) (by decide)) h21
                obtain ⟨av, ps2, cs, rfl, rfl, _, hl30⟩ := vi_right hvG.vi hright
                by_cases hr : hasRing cs
                · refine told_cg (C := CC) (v := .ref av) (b := false) F.exC (fun E1 Z1 Q1 s1 a bb => ⟨_, rfl, _, rfl, _, rfl, .ref av, _, .str x1, .str x2, strO d1, strO d2, rfl, ((hvG.ext eZ).same s1).vi, ((h1G.ext eZ).same s1).ti, ((h2G.ext eZ).same s1).ti, (fun h => absurd (hright.symm.trans h) (by decide)), (fun _ h => absurd (ht1.symm.trans h) (by decide)), (fun _ _ h => absurd h h3), (fun _ _ _ _ _ _ _ => bb rfl), (fun _ _ _ _ bds e n => absurd (by rw [← rowD_inj (PyData.tuple.inj e)]; exact hr) n)⟩) fun pp Z2 y u s2 hq hy => ⟨pp, _, 0, y, rfl, rfl, hq, rfl, ?_⟩
                  dsimp only
                  refine rd_seq (rd_if ?_)
                  refine ⟨_, rfl, true, rfl, ?_⟩
                  refine Eq.mpr (if_neg (by decide)) ?_
                  dsimp only [tNext]
                  refine rd_seq (rd_if ?_)
                  refine ⟨_, rfl, _, strO d1, rfl, ((h1G.ext eZ).same s2).ti, fun Z3 s3 => ⟨_, rfl, ?_⟩⟩
                  refine Eq.mpr (if_neg (by rw [ht1]; decide)) ?_
                  dsimp only [tNext]
                  refine rd_seq (rd_if ?_)
                  refine ⟨_, rfl, _, strO d2, rfl, ((h2G.ext eZ).same (s2.trans s3)).ti, fun Z4 s4 => ⟨_, rfl, ?_⟩⟩
                  refine Eq.mpr (if_neg (by rw [ht2]; decide)) ?_
                  refine ⟨_, rfl, _, rfl, rfl, _, rfl, ?_⟩
                  refine Eq.mpr (if_neg (by rw [decide_eq_false (fun z => hx (V.str.inj z))]; decide)) ?_
                  dsimp only [tNext]
                  refine rd_seq (rd_if ?_)
                  obtain ⟨av2, ps3, cs2, ev, ed, hB2, hl2⟩ := vi_right ((hvG.ext eZ).same ((s2.trans s3).trans s4)).vi hright
                  cases ev
                  obtain rfl : cs = cs2 := rowD_inj (PyData.tuple.inj ed)
                  refine ⟨_, rfl, av, ps3, cs, rfl, hB2, hl30, fun Z5 b s5 hb => ⟨_, rfl, ?_⟩⟩
                  have hbt := hb.mpr hr
                  subst hbt
                  refine Eq.mpr (if_pos rfl) ?_
                  exact fin_err (i := 3) F.err.con F.kC (((hy.ext (ExtN.of s3)).ext (ExtN.of s4)).ext (ExtN.of s5)) ((hvG.ext eZ).same (((s2.trans s3).trans s4).trans s5)) rfl rfl (done Z5 (ExtN.tr eZ (ExtN.of (((s2.trans s3).trans s4).trans s5))) (TZ.ext (((s2.trans s3).trans s4).trans s5)))
                · refine told_cg (C := CB) (v := .ref av) (b := true) F.exB (fun E1 Z1 Q1 s1 a bb => ⟨_, rfl, _, rfl, _, rfl, .ref av, _, .str x1, .str x2, strO d1, strO d2, rfl, ((hvG.ext eZ).same s1).vi, ((h1G.ext eZ).same s1).ti, ((h2G.ext eZ).same s1).ti, (fun h => absurd (hright.symm.trans h) (by decide)), (fun _ h => absurd (ht1.symm.trans h) (by decide)), (fun _ _ h => absurd h h3), (fun _ _ _ _ bds e n => absurd (by rw [rowD_inj (PyData.tuple.inj e)]; exact n) hr), (fun _ _ _ _ _ _ _ H' u => a rfl H' u)⟩) fun pp Z2 y u s2 hq hy => ⟨pp, _, 0, y, rfl, rfl, hq, rfl, ?_⟩
                  dsimp only
                  refine rd_seq (rd_if ?_)
                  refine ⟨_, rfl, true, rfl, ?_⟩
                  refine Eq.mpr (if_neg (by decide)) ?_
                  dsimp only [tNext]
                  refine rd_seq (rd_if ?_)
                  refine ⟨_, rfl, _, strO d1, rfl, ((h1G.ext eZ).same s2).ti, fun Z3 s3 => ⟨_, rfl, ?_⟩⟩
                  refine Eq.mpr (if_neg (by rw [ht1]; decide)) ?_
                  dsimp only [tNext]
                  refine rd_seq (rd_if ?_)
                  refine ⟨_, rfl, _, strO d2, rfl, ((h2G.ext eZ).same (s2.trans s3)).ti, fun Z4 s4 => ⟨_, rfl, ?_⟩⟩
                  refine Eq.mpr (if_neg (by rw [ht2]; decide)) ?_
                  refine ⟨_, rfl, _, rfl, rfl, _, rfl, ?_⟩
                  refine Eq.mpr (if_neg (by rw [decide_eq_false (fun z => hx (V.str.inj z))]; decide)) ?_
                  dsimp only [tNext]
                  refine rd_seq (rd_if ?_)
                  obtain ⟨av2, ps3, cs2, ev, ed, hB2, hl2⟩ := vi_right ((hvG.ext eZ).same ((s2.trans s3).trans s4)).vi hright
                  cases ev
                  obtain rfl : cs = cs2 := rowD_inj (PyData.tuple.inj ed)
                  refine ⟨_, rfl, av, ps3, cs, rfl, hB2, hl30, fun Z5 b s5 hb => ⟨_, rfl, ?_⟩⟩
                  have hbf : b = false := by
                    cases b with
                    | false => rfl
                    | true => exact absurd (hb.mp rfl) hr
                  subst hbf
                  refine Eq.mpr (if_neg (by decide)) ?_
                  dsimp only [tNext]
                  rcases hy with ⟨_, rfl⟩ | ⟨z, _⟩
                  · refine rd_ret ?_
                    refine ⟨_, rfl, rfl, ?_⟩
                    exact done Z5 (ExtN.tr eZ (ExtN.of (((s2.trans s3).trans s4).trans s5))) (TZ.ext (((s2.trans s3).trans s4).trans s5))
                  · cases z
end
end L2.K04

set_option Elab.async false
set_option linter.all false
set_option maxRecDepth 100000
set_option maxHeartbeats 4000000
namespace L2.K04
open PySem PySem.Spec PyProof.Rows L2.Vx
open PySem.W (Frag)
open LamX (CodeO Tabs TabS TabB ExtN)
/-! ### the law -/
section
variable {P : Program} {w : World} {K : Frag} {mg : Str → Option Value} {bs : Heap}
def spLaw (K : Frag) (PT : Addr) : Sp := fun vs H Q _ => ∃ (a : Addr) (ns : List Int), vs = [.ref a] ∧ SqL K H a (ns.map V.int) ∧ ns.length ≤ 63 ∧ Tabs [(PT, qR)] H ∧ ∀ H', Q (.bl true) H'
theorem scLaw : FnScope ["script", "place", "pot", "lap"] ["script"] (defScope sLaw) := ⟨rfl, rfl, rfl, by decide +kernel, rfl, by decide +kernel, by decide +kernel⟩
theorem extB_new {p : Addr} {A B C : Hp} (s : Same A B) (h : A p = none) (k : ExtB p B C) : ExtN A C := fun b o e n => k b o (fun z => by rw [z, h] at e; cases e) (s _ _ e) n
theorem ok_law {f fRt fPo fCe PT : Addr} {fd fdRt fdPo fdCe : FuncData} (FP : FD K "law" sLaw f fd) (F : Dx mg)
    (GRt : FnG P w K mg bs CX0 9 fRt fdRt ["pot"] (spRight K PT)) (kRt : PySem.W.keepIn K (.ref fRt) = true) (gRt : mg "_law_right" = some (.ref fRt)) (bRt : Binds K fdRt ["pot"] [])
    (FPo : FD K "_law_pot" sPot fPo fdPo) (gPo : mg "_law_pot" = some (.ref fPo)) (bPo : Binds K fdPo ["script", "place"] [])
    (FCe : FD K "_law_cells" sCells fCe fdCe) (gCe : mg "_law_cells" = some (.ref fCe)) (bCe : Binds K fdCe ["script", "most"] []) : FnG P w K mg bs CX0 10 f fd ["script"] (spLaw K PT) := by
  have sc := scLaw
  have GPo : FnOk P w K mg bs CX0 1 fPo fdPo ["script", "place"] (spPot K) := ok_pot FPo F
  have GCe : FnOk P w K mg bs CX0 1 fCe fdCe ["script", "most"] (spCells K) := ok_cells FCe F
  refine okG0 FP scLaw (fun vs H Q E h => ?_) (fun cdv A outer s H vs Q E gd hr h => ?_)
  · obtain ⟨a, ns, rfl, _⟩ := h
    rfl
  · obtain ⟨a, ns, rfl, hS, hlen, hT, k⟩ := h
    have hr1 : Room 1 (A.deeper (envOfC "law" (defScope sLaw) s.heap.objs.size f cdv)) := hr.mono (by decide)
    refine ⟨_, pss_cons (ps_for PassesOwn.never rfl (pi_list (pe_call GCe hr1 (by rfl) gCe FCe.kp bCe .nil pass0 (pa_cons (pv 0) (pa_cons pe_int pa_nil)))) (pg_name (i := 1) sc.nd rfl (Or.inl rfl))
        (pss_cons (ps_set (i := 2) sc.nd rfl (Or.inl rfl) (pe_call GPo hr1 (by rfl) gPo FPo.kp bPo .nil pass0 (pa_cons (pv 0) (pa_cons (pv 1) pa_nil))))
        (pss_one (ps_for PassesOwn.never rfl (pi_range1 rfl F.range (pa_cons pe_int pa_nil)) (pg_name (i := 3) sc.nd rfl (Or.inl rfl))
          (pss_one (ps_if (pt_not (pt_val (pe_callG GRt gd hr (by rfl) gRt kRt bRt .nil pass0 (pa_cons (pv 2) pa_nil))))
            (pss_one (ps_ret pe_bl)) pss_nil))))))
      (pss_one (ps_ret pe_bl)), ?_⟩
    refine rd_seq ?_
    refine ⟨_, rfl, a, ns, 4, rfl, hS, hlen, by decide, fun H3 q n s3 hq0 hn hq => ⟨q, rfl, ⟨_, SqL.of hq⟩, for_it (walk_list (K := K) (a := q) (xs := (List.range n).map fun i : Nat => V.int (i : Int))) (fun i σ H' => ∃ v1 v2 v3 : Option V,
      σ = [some (.ref a), v1, v2, v3] ∧ ExtN H3 H' ∧ Tabs [(PT, qR)] H') ⟨none, none, none, rfl, ExtN.refl _, hT.ext s3⟩ (fun i σ H' _ u => ?_) ?_ ?_⟩⟩
    · obtain ⟨_, _, _, _, e, _⟩ := u
      exact sql_ext e (SqL.of hq)
    · rintro i x σ H4 H5 hi ⟨v1, v2, v3, rfl, eN, hT4⟩ ⟨rfl, hx⟩
      have hi' : i < n := by simpa using hi
      have hx2 : x = .int (i : Int) := by
        rw [List.getElem?_map, List.getElem?_range hi'] at hx
        exact (Option.some.inj hx).symm
      subst hx2
      have hS4 := sql_ext eN (s3.seq hS)
      refine rd_seq (rd_set ?_)
      refine ⟨_, rfl, _, rfl, a, ns, (i : Int), rfl, hS4, hlen, by omega, by omega, fun H5 p s5 hp0 hP => ?_⟩
      refine ⟨10, rfl, by decide, by decide, for_range (lo := 0) (n := Int.toNat 10) (fun j σ H' => ∃ v3 : Option V, σ = [some (.ref a), some (.int (i : Int)), some (.ref p), v3] ∧ ExtB p H5 H' ∧ Pot H' p (200 * j) ∧ Tabs [(PT, qR)] H') ⟨v3, rfl, ExtB.refl, hP.mono (by omega), hT4.ext s5⟩ ?_ ?_⟩
      · rintro j σ H6 hj ⟨v3, rfl, e6, hP6, hT6⟩
        have hj' : j < 10 := hj
        refine rd_if ?_
        refine ⟨_, rfl, p, 200 * j, rfl, by omega, by omega, hP6, hT6, fun H7 e7 hP7 hT7 => ⟨_, rfl, ?_⟩⟩
        refine Eq.mpr (if_neg (by decide)) ?_
        exact ⟨_, rfl, e6.trans e7, hP7.mono (by omega), hT7⟩
      · rintro σ H6 ⟨v3, rfl, e6, hP6, hT6⟩
        exact ⟨_, _, _, rfl, ExtN.tr eN (extB_new s5 hp0 e6), hT6⟩
    · rintro σ H4 ⟨v1, v2, v3, rfl, eN, hT4⟩
      exact k H4
end
end L2.K04

set_option Elab.async false
set_option linter.all false
set_option maxRecDepth 100000
set_option maxHeartbeats 0
namespace L2.K04
open PySem PySem.Spec PyProof.Rows L2.Vx
open PySem.W (Frag)
open LamX (CodeO Tabs TabS TabB ExtN)
open He (ga ma)
def fI (K : Frag) : Addr := ma K (ga K "DrawError") "__init__"
def exK (K : Frag) : Bool := errB K (ga K "BadBounds") (fI K) && (errB K (ga K "BadTerm") (fI K) && (errB K (ga K "Contrary") (fI K) && (decide (PySem.W.kitOne K (.ref (ga K "BadBounds")) (.ref (ga K "BadBounds")) = some true) && (decide (PySem.W.kitOne K (.ref (ga K "BadTerm")) (.ref (ga K "BadTerm")) = some true) && (decide (PySem.W.kitOne K (.ref (ga K "Contrary")) (.ref (ga K "Contrary")) = some true) && (decide (PySem.W.exmOne K (.ref (ga K "BadBounds")) (.ref (ga K "DrawError")) = some true) && (decide (PySem.W.exmOne K (.ref (ga K "BadTerm")) (.ref (ga K "DrawError")) = some true) && (decide (PySem.W.exmOne K (.ref (ga K "Contrary")) (.ref (ga K "DrawError")) = some true)))))))))
abbrev dD (x : Str) (s : Stmt) : He.DefD := ⟨(x, none), x, x, defArgs s, defBody s, defScope s, [], []⟩
abbrev sInit : Stmt := sDErr
def dInit : He.DefD := ⟨("DrawError", some "__init__"), "__init__", "DrawError.__init__", defArgs sInit, defBody sInit, defScope sInit, [], []⟩
def d1 : He.DefD := dD "settled" sSettled
def d2 : He.DefD := dD "shows_settled" sShows
def d3 : He.DefD := dD "least_way" sLeast
def d4 : He.DefD := dD "check_bounds" sChkB
def d5 : He.DefD := dD "is_bound" sIsBd
def d6 : He.DefD := dD "is_term" sIsTerm
def d7 : He.DefD := dD "is_name" sIsName
def d8 : He.DefD := dD "consists_of" sCons
def d9 : He.DefD := dD "is_integer" sIsInt
def d10 : He.DefD := dD "terms_of" sTerms
def d11 : He.DefD := dD "values_or_ring" sVals
def d12 : He.DefD := dD "least_sums" sSums
def d13 : He.DefD := dD "lower_once" sLower
def d14 : He.DefD := dD "ring_behind" sBehind
def d15 : He.DefD := dD "way_along" sAlong
def d16 : He.DefD := dD "are_values" sAreV
def d17 : He.DefD := dD "is_worth" sIsW
def d18 : He.DefD := dD "is_ring_below_zero" sIsRz
def d19 : He.DefD := dD "is_closed" sClosed
def d20 : He.DefD := dD "_law_pot" sPot
def d21 : He.DefD := dD "_law_take" sTake
def d22 : He.DefD := dD "_law_of" sOf
def d23 : He.DefD := dD "_law_some" sSome
def d24 : He.DefD := dD "_law_cells" sCells
def d25 : He.DefD := dD "_law_told" sTold
def d26 : He.DefD := dD "_law_is_int" sLInt
def d27 : He.DefD := dD "_law_odd" sOdd
def d28 : He.DefD := dD "_law_bent" sBent
def d29 : He.DefD := dD "_law_terms" sLTerms
def d30 : He.DefD := dD "_law_bounds" sLBounds
def d31 : He.DefD := dD "_law_all_terms" sLAll
def d32 : He.DefD := dD "_law_sums" sLSums
def d33 : He.DefD := dD "_law_has_ring" sLRing
def d34 : He.DefD := dD "_law_is_term" sLTerm
def d35 : He.DefD := dD "_law_is_bound" sLBd
def d36 : He.DefD := dD "_law_right" sRight
def d37 : He.DefD := dD "law" sLaw
def fn : List He.DefD := ([dInit, d1, d2, d3, d4, d5, d6, d7, d8, d9, d10, d11, d12, d13, d14] : List He.DefD) ++ ([d15, d16, d17, d18, d19, d20, d21, d22, d23, d24, d25, d26, d27, d28, d29] : List He.DefD) ++ ([d30, d31, d32, d33, d34, d35, d36, d37] : List He.DefD)
def glos : List Str := (["DrawError", "BadBounds", "BadTerm", "Contrary", "settled", "shows_settled", "least_way", "check_bounds", "is_bound", "is_term", "is_name", "consists_of", "is_integer", "terms_of", "values_or_ring"] : List Str) ++ (["least_sums", "lower_once", "ring_behind", "way_along", "are_values", "is_worth", "is_ring_below_zero", "is_closed", "_law_pot", "_law_take", "_law_of", "_law_some", "_law_cells", "_law_told", "_law_is_int"] : List Str) ++ (["_law_odd", "_law_bent", "_law_terms", "_law_bounds", "_law_all_terms", "_law_sums", "_law_has_ring", "_law_is_term", "_law_is_bound", "_law_right", "law"] : List Str)
def frees : List Str := (["len", "abs", "int", "max", "min", "range", "list", "str", "all", "isinstance", "tuple", "repr", "bool", "sorted", "set"] : List Str) ++ (["dict", "any", "zip", "sum"] : List Str)
def fa : List He.Fa := glos.map He.Fa.glo ++ (frees.map He.Fa.free ++ [.int "LONGEST_NAME" 8, .str "LETTERS" "abcdefghijklmnopqrstuvwxyz", .str "ZERO" "0"])
def ts : List He.Tab := []
def tf : List He.Defn := [("_law_right", none)]
abbrev R : PySem.W.OpenRow := PySem.W.OpenLaw.row PySem.Challenge.rw_wobblesnap_k04_bounds_refused
abbrev hk : PySem.W.Hook := He.hookX 5 fa fn ts tf exK
def ob (s : PySem.W.SharedT) : He.AlX := He.obsX 5 fa fn ts tf exK (HandSHeadRun.getT s)
theorem ob_eq (s : PySem.W.SharedT) : ob s = hk.obs s.abs := He.obsX_eq (HandSHeadRun.getT_eq s)
def loose : List Str := (["DrawError", "BadBounds", "BadTerm", "Contrary", "LONGEST_NAME", "LETTERS", "ZERO", "settled", "shows_settled", "least_way", "check_bounds", "is_bound", "is_term", "is_name", "consists_of"] : List Str) ++ (["is_integer", "terms_of", "values_or_ring", "least_sums", "lower_once", "ring_behind", "way_along", "are_values", "is_worth", "is_ring_below_zero", "is_closed", "_law_pot", "_law_take", "_law_of", "_law_some"] : List Str) ++ (["_law_cells", "_law_told", "_law_is_int", "_law_odd", "_law_bent", "_law_terms", "_law_bounds", "_law_all_terms", "_law_sums", "_law_has_ring", "_law_is_term", "_law_is_bound", "_law_right"] : List Str)
theorem runF (w : World) : HandSHeadRun.RunEq R (PySem.W.view R.prog [47]) hk ob 6000 loose (w.withFollow "special-get-raises" false) := by
  intro os
  kernel_rfl
theorem runT (w : World) : HandSHeadRun.RunEq R (PySem.W.view R.prog [47]) hk ob 6000 loose (w.withFollow "special-get-raises" true) := by
  intro os
  kernel_rfl
theorem run (w : World) : HandSHeadRun.RunEq R (PySem.W.view R.prog [47]) hk ob 6000 loose w := PySem.W.byRow2 "special-get-raises" (P := fun w => HandSHeadRun.RunEq R (PySem.W.view R.prog [47]) hk ob 6000 loose w) runF runT w
end L2.K04

set_option Elab.async false
set_option linter.all false
set_option maxRecDepth 100000
set_option maxHeartbeats 4000000
namespace L2.K04
open PySem PySem.Spec PyProof.Rows L2.Vx
open PySem.W (Frag)
open LamX (CodeO Tabs TabS TabB ExtN)
open He (ga ma)
/-- a def's own words from the hook's -/
theorem fun_of {K : Frag} {x qual : Str} {st : Stmt} {f : Addr} {fd : FuncData} (h : FunD K x qual (defArgs st) (defBody st) (defScope st) [] [] f fd) : Fun K x qual st f fd := by
  obtain ⟨oc, od, dV, kV, doc, pm, an, cdv, ct, osl, e, lk, hc, hD, _⟩ := h.ex
  rcases hD with ⟨_, rfl⟩ | ⟨z, _⟩
  · exact ⟨⟨oc, od, kV, doc, pm, an, cdv, ct, osl, e, lk, hc⟩, h.kp⟩
  · exact absurd rfl z
theorem init_of {K : Frag} {fd : FuncData} (h : FunD K "__init__" "DrawError.__init__" (defArgs sInit) (defBody sInit) (defScope sInit) [] [] (fI K) fd) : InitF K (fI K) := by
  obtain ⟨oc, od, dV, kV, doc, pm, an, cdv, ct, osl, e, lk, hc, hD, hK⟩ := h.ex
  rcases hD with ⟨_, rfl⟩ | ⟨z, _⟩
  · exact ⟨oc, od, kV, doc, pm, an, cdv, ct, osl, _, _, _, _, _, _, by rw [lk, e]; rfl, hc⟩
  · exact absurd rfl z
/-- the code object that a def holds -/
theorem code_of {K : Frag} {x qual : Str} {st : Stmt} {fd : FuncData} {p : He.Defn} (F : Fun K x qual st (He.fAd K p) fd) : fd.code = .ref (He.codeOf K p) := by
  obtain ⟨oc, od, kV, doc, pm, an, cdv, ct, osl, rfl, lk, hcd⟩ := F.ex
  obtain ⟨c, rfl⟩ := He.codeIn_ref hcd
  have e := He.codeOf_eq lk (c := c) rfl
  rw [e]
end L2.K04

set_option Elab.async false
set_option linter.all false
set_option maxRecDepth 100000
set_option maxHeartbeats 4000000
namespace L2.K04
open PySem PySem.Spec PyProof.Rows L2.Vx
open PySem.W (Frag)
open LamX (CodeO Tabs TabS TabB ExtN)
open He (ga ma)
theorem facts {w : World} {K : Frag} {h : Heap} {mg : Str → Option Value} {f : Addr} (X : K.In h) (G : h.Ns mainGlobals mg) (hfa : mg ("law" : Str) = some (.ref f)) (c : He.SaysX fa fn ts tf exK w h K) :
    ∃ (K : Frag) (c PT : Addr) (fd : FuncData) (sp : Sp), K.In h ∧ h.get? PT = some { cls := .none, data := .fields #[] } ∧ K.lookup PT = none ∧ PySem.W.CodeHd h c PT ∧
      (∀ (s : Shared) (u : Value), BindsTo s fd ⟨[u], []⟩ [("script", u)]) ∧
      (∀ (H : Hp) (a : Addr) (ns : List Int), ns.length ≤ 63 → H PT = some (.tbl #[]) → SqL K H a (ns.map V.int) → sp [.ref a] H (fun v _ => v = .bl true) fun _ _ _ => False) ∧
      ∀ base : Heap, K.In base → base.Ns mainGlobals mg → TabB base mg c PT → FnG PySem.Challenge.rw_wobblesnap_k04_bounds_refused.prog w K mg base CX0 10 f fd ["script"] sp := by
  have fact : ∀ f ∈ fa, f.ok K = true := fun f hf => c.t.d.facts hf
  have glo : ∀ x ∈ glos, mg x = some (.ref (ga K x)) := fun x hx => He.glo_ok X G (fact _ (List.mem_append_left _ (List.mem_map.mpr ⟨x, hx, rfl⟩)))
  have free : ∀ x ∈ frees, mg x = none := fun x hx => He.free_ok X G (fact _ (List.mem_append_right _ (List.mem_append_left _ (List.mem_map.mpr ⟨x, hx, rfl⟩))))
  have rest : ∀ q ∈ ([.int "LONGEST_NAME" 8, .str "LETTERS" "abcdefghijklmnopqrstuvwxyz", .str "ZERO" "0"] : List He.Fa), q.ok K = true :=
    fun q hq => fact _ (List.mem_append_right _ (List.mem_append_right _ hq))
  have i_LONGEST_NAME := He.int_ok X G (rest (.int "LONGEST_NAME" 8) (by simp))
  have s_LETTERS := He.str_ok X G (rest (.str "LETTERS" "abcdefghijklmnopqrstuvwxyz") (by simp))
  have s_ZERO := He.str_ok X G (rest (.str "ZERO" "0") (by simp))
  obtain ⟨m1, m⟩ := Bool.and_eq_true_iff.mp c.more
  obtain ⟨m2, m⟩ := Bool.and_eq_true_iff.mp m
  obtain ⟨m3, m⟩ := Bool.and_eq_true_iff.mp m
  obtain ⟨m4, m⟩ := Bool.and_eq_true_iff.mp m
  obtain ⟨m5, m⟩ := Bool.and_eq_true_iff.mp m
  obtain ⟨m6, m⟩ := Bool.and_eq_true_iff.mp m
  obtain ⟨m7, m⟩ := Bool.and_eq_true_iff.mp m
  obtain ⟨m8, m⟩ := Bool.and_eq_true_iff.mp m
  have m9 := m
  obtain ⟨fd0, F0⟩ := c.t.d.def_ 0 (d := dInit) rfl
  obtain ⟨fd1, F1⟩ := c.t.d.def_ 1 (d := d1) rfl
  obtain ⟨fd2, F2⟩ := c.t.d.def_ 2 (d := d2) rfl
  obtain ⟨fd3, F3⟩ := c.t.d.def_ 3 (d := d3) rfl
  obtain ⟨fd4, F4⟩ := c.t.d.def_ 4 (d := d4) rfl
  obtain ⟨fd5, F5⟩ := c.t.d.def_ 5 (d := d5) rfl
  obtain ⟨fd6, F6⟩ := c.t.d.def_ 6 (d := d6) rfl
  obtain ⟨fd7, F7⟩ := c.t.d.def_ 7 (d := d7) rfl
  obtain ⟨fd8, F8⟩ := c.t.d.def_ 8 (d := d8) rfl
  obtain ⟨fd9, F9⟩ := c.t.d.def_ 9 (d := d9) rfl
  obtain ⟨fd10, F10⟩ := c.t.d.def_ 10 (d := d10) rfl
  obtain ⟨fd11, F11⟩ := c.t.d.def_ 11 (d := d11) rfl
  obtain ⟨fd12, F12⟩ := c.t.d.def_ 12 (d := d12) rfl
  obtain ⟨fd13, F13⟩ := c.t.d.def_ 13 (d := d13) rfl
  obtain ⟨fd14, F14⟩ := c.t.d.def_ 14 (d := d14) rfl
  obtain ⟨fd15, F15⟩ := c.t.d.def_ 15 (d := d15) rfl
  obtain ⟨fd16, F16⟩ := c.t.d.def_ 16 (d := d16) rfl
  obtain ⟨fd17, F17⟩ := c.t.d.def_ 17 (d := d17) rfl
  obtain ⟨fd18, F18⟩ := c.t.d.def_ 18 (d := d18) rfl
  obtain ⟨fd19, F19⟩ := c.t.d.def_ 19 (d := d19) rfl
  obtain ⟨fd20, F20⟩ := c.t.d.def_ 20 (d := d20) rfl
  obtain ⟨fd21, F21⟩ := c.t.d.def_ 21 (d := d21) rfl
  obtain ⟨fd22, F22⟩ := c.t.d.def_ 22 (d := d22) rfl
  obtain ⟨fd23, F23⟩ := c.t.d.def_ 23 (d := d23) rfl
  obtain ⟨fd24, F24⟩ := c.t.d.def_ 24 (d := d24) rfl
  obtain ⟨fd25, F25⟩ := c.t.d.def_ 25 (d := d25) rfl
  obtain ⟨fd26, F26⟩ := c.t.d.def_ 26 (d := d26) rfl
  obtain ⟨fd27, F27⟩ := c.t.d.def_ 27 (d := d27) rfl
  obtain ⟨fd28, F28⟩ := c.t.d.def_ 28 (d := d28) rfl
  obtain ⟨fd29, F29⟩ := c.t.d.def_ 29 (d := d29) rfl
  obtain ⟨fd30, F30⟩ := c.t.d.def_ 30 (d := d30) rfl
  obtain ⟨fd31, F31⟩ := c.t.d.def_ 31 (d := d31) rfl
  obtain ⟨fd32, F32⟩ := c.t.d.def_ 32 (d := d32) rfl
  obtain ⟨fd33, F33⟩ := c.t.d.def_ 33 (d := d33) rfl
  obtain ⟨fd34, F34⟩ := c.t.d.def_ 34 (d := d34) rfl
  obtain ⟨fd35, F35⟩ := c.t.d.def_ 35 (d := d35) rfl
  obtain ⟨fd36, F36⟩ := c.t.d.def_ 36 (d := d36) rfl
  obtain ⟨fd37, F37⟩ := c.t.d.def_ 37 (d := d37) rfl
  have b1 : Binds K fd1 ["bounds"] [] := F1.bindsN fun _ _ _ _ _ _ us hl => match us, hl with | [_], _ => rfl
  have b2 : Binds K fd2 ["bounds", "value"] [] := F2.bindsN fun _ _ _ _ _ _ us hl => match us, hl with | [_, _], _ => rfl
  have b3 : Binds K fd3 ["bounds", "one", "other"] [] := F3.bindsN fun _ _ _ _ _ _ us hl => match us, hl with | [_, _, _], _ => rfl
  have b4 : Binds K fd4 ["value"] [] := F4.bindsN fun _ _ _ _ _ _ us hl => match us, hl with | [_], _ => rfl
  have b5 : Binds K fd5 ["value"] [] := F5.bindsN fun _ _ _ _ _ _ us hl => match us, hl with | [_], _ => rfl
  have b6 : Binds K fd6 ["value"] [] := F6.bindsN fun _ _ _ _ _ _ us hl => match us, hl with | [_], _ => rfl
  have b7 : Binds K fd7 ["value"] [] := F7.bindsN fun _ _ _ _ _ _ us hl => match us, hl with | [_], _ => rfl
  have b8 : Binds K fd8 ["text", "signs"] [] := F8.bindsN fun _ _ _ _ _ _ us hl => match us, hl with | [_, _], _ => rfl
  have b9 : Binds K fd9 ["value"] [] := F9.bindsN fun _ _ _ _ _ _ us hl => match us, hl with | [_], _ => rfl
  have b10 : Binds K fd10 ["bounds"] [] := F10.bindsN fun _ _ _ _ _ _ us hl => match us, hl with | [_], _ => rfl
  have b11 : Binds K fd11 ["bounds"] [] := F11.bindsN fun _ _ _ _ _ _ us hl => match us, hl with | [_], _ => rfl
  have b12 : Binds K fd12 ["bounds", "ends"] [] := F12.bindsN fun _ _ _ _ _ _ us hl => match us, hl with | [_, _], _ => rfl
  have b13 : Binds K fd13 ["bounds", "sums", "firsts"] [] := F13.bindsN fun _ _ _ _ _ _ us hl => match us, hl with | [_, _, _], _ => rfl
  have b14 : Binds K fd14 ["firsts", "term", "steps"] [] := F14.bindsN fun _ _ _ _ _ _ us hl => match us, hl with | [_, _, _], _ => rfl
  have b15 : Binds K fd15 ["firsts", "one", "other"] [] := F15.bindsN fun _ _ _ _ _ _ us hl => match us, hl with | [_, _, _], _ => rfl
  have b16 : Binds K fd16 ["bounds", "value"] [] := F16.bindsN fun _ _ _ _ _ _ us hl => match us, hl with | [_, _], _ => rfl
  have b17 : Binds K fd17 ["value"] [] := F17.bindsN fun _ _ _ _ _ _ us hl => match us, hl with | [_], _ => rfl
  have b18 : Binds K fd18 ["value"] [] := F18.bindsN fun _ _ _ _ _ _ us hl => match us, hl with | [_], _ => rfl
  have b19 : Binds K fd19 ["steps"] [] := F19.bindsN fun _ _ _ _ _ _ us hl => match us, hl with | [_], _ => rfl
  have b20 : Binds K fd20 ["script", "place"] [] := F20.bindsN fun _ _ _ _ _ _ us hl => match us, hl with | [_, _], _ => rfl
  have b21 : Binds K fd21 ["pot", "upto"] [] := F21.bindsN fun _ _ _ _ _ _ us hl => match us, hl with | [_, _], _ => rfl
  have b22 : Binds K fd22 ["pot", "some"] [] := F22.bindsN fun _ _ _ _ _ _ us hl => match us, hl with | [_, _], _ => rfl
  have b23 : Binds K fd23 ["pot", "pool", "many"] [] := F23.bindsN fun _ _ _ _ _ _ us hl => match us, hl with | [_, _, _], _ => rfl
  have b24 : Binds K fd24 ["script", "most"] [] := F24.bindsN fun _ _ _ _ _ _ us hl => match us, hl with | [_, _], _ => rfl
  have b25 : Binds K fd25 ["look"] [] := F25.bindsN fun _ _ _ _ _ _ us hl => match us, hl with | [_], _ => rfl
  have b26 : Binds K fd26 ["value", "low", "high"] [] := F26.bindsN fun _ _ _ _ _ _ us hl => match us, hl with | [_, _, _], _ => rfl
  have b27 : Binds K fd27 ["pot"] [] := F27.bindsN fun _ _ _ _ _ _ us hl => match us, hl with | [_], _ => rfl
  have b28 : Binds K fd28 ["pot", "value"] [] := F28.bindsN fun _ _ _ _ _ _ us hl => match us, hl with | [_, _], _ => rfl
  have b29 : Binds K fd29 [] [] := F29.bindsN fun _ _ _ _ _ _ us hl => match us, hl with | [], _ => rfl
  have b30 : Binds K fd30 ["pot", "terms", "many", "numbers"] [] := F30.bindsN fun _ _ _ _ _ _ us hl => match us, hl with | [_, _, _, _], _ => rfl
  have b31 : Binds K fd31 ["bounds"] [] := F31.bindsN fun _ _ _ _ _ _ us hl => match us, hl with | [_], _ => rfl
  have b32 : Binds K fd32 ["bounds"] [] := F32.bindsN fun _ _ _ _ _ _ us hl => match us, hl with | [_], _ => rfl
  have b33 : Binds K fd33 ["bounds"] [] := F33.bindsN fun _ _ _ _ _ _ us hl => match us, hl with | [_], _ => rfl
  have b34 : Binds K fd34 ["value"] [] := F34.bindsN fun _ _ _ _ _ _ us hl => match us, hl with | [_], _ => rfl
  have b35 : Binds K fd35 ["value"] [] := F35.bindsN fun _ _ _ _ _ _ us hl => match us, hl with | [_], _ => rfl
  have b36 : Binds K fd36 ["pot"] [] := F36.bindsN fun _ _ _ _ _ _ us hl => match us, hl with | [_], _ => rfl
  have b37 := FunD.bindsA (ps := ["script"]) F37 fun _ _ _ _ _ _ us hl => match us, hl with | [_], _ => rfl
  have e := hfa.symm.trans (glo "law" (by decide +kernel))
  cases e
  have hcd : fd36.code = .ref (He.cT K ("_law_right", none)).1 := code_of (x := "_law_right") (qual := "_law_right") (st := sRight) (p := ("_law_right", none)) (fun_of (st := sRight) F36)
  have fxD : Dx mg := ⟨(free _ (by decide +kernel)), (free _ (by decide +kernel)), (free _ (by decide +kernel)), (free _ (by decide +kernel)), (free _ (by decide +kernel)), (free _ (by decide +kernel)), (free _ (by decide +kernel))⟩
  have fxNm : FxName mg := ⟨(free _ (by decide +kernel)), (free _ (by decide +kernel)), (free _ (by decide +kernel)), (free _ (by decide +kernel)), i_LONGEST_NAME, s_LETTERS⟩
  have fxTm : FxTerm mg := ⟨(free _ (by decide +kernel)), (free _ (by decide +kernel)), s_ZERO⟩
  have fxBd : FxBd mg := ⟨(free _ (by decide +kernel)), (free _ (by decide +kernel)), (free _ (by decide +kernel)), (free _ (by decide +kernel)), (free _ (by decide +kernel))⟩
  have fxTs : FxTs mg := ⟨(free _ (by decide +kernel)), (free _ (by decide +kernel)), s_ZERO⟩
  have fx3 : Fx03 mg := ⟨fxTs, (free _ (by decide +kernel)), (free _ (by decide +kernel)), (free _ (by decide +kernel)), (free _ (by decide +kernel))⟩
  have fxE : FxErr K mg (ga K "BadBounds") (ga K "BadTerm") (ga K "Contrary") (fI K) := ⟨(err_ok m1 (init_of F0)), (glo "BadBounds" (by decide +kernel)), (err_ok m2 (init_of F0)), (glo "BadTerm" (by decide +kernel)), (err_ok m3 (init_of F0)), (glo "Contrary" (by decide +kernel))⟩
  have fxBt : FxBt mg := ⟨(free _ (by decide +kernel)), (free _ (by decide +kernel)), (free _ (by decide +kernel)), (free _ (by decide +kernel)), (free _ (by decide +kernel)), (free _ (by decide +kernel)), (free _ (by decide +kernel))⟩
  have fxR : FxRt K mg (ga K "BadBounds") (ga K "BadTerm") (ga K "Contrary") (ga K "DrawError") (fI K) := ⟨fxE, (glo "DrawError" (by decide +kernel)), (of_decide_eq_true m7), (of_decide_eq_true m8), (of_decide_eq_true m9), (of_decide_eq_true m4), (of_decide_eq_true m5), (of_decide_eq_true m6), (free _ (by decide +kernel)), (free _ (by decide +kernel)), (free _ (by decide +kernel)), (free _ (by decide +kernel)), (free _ (by decide +kernel))⟩
  refine ⟨K, (He.cT K ("_law_right", none)).1, (He.cT K ("_law_right", none)).2, fd37, spLaw K (He.cT K ("_law_right", none)).2, X, c.empty _ (List.mem_singleton.mpr rfl), c.out _ (List.mem_singleton.mpr rfl), PySem.W.codeHd_of_K X (c.hd _ (List.mem_singleton.mpr rfl)),
    fun s v => b37 s [v] rfl, fun H a ns hl hT hS => ⟨a, ns, rfl, hS, hl, fun p hp => ?_, fun _ => rfl⟩, fun base hb hm hTB => ?_⟩
  · rw [List.mem_singleton.mp hp]
    exact TabS.nil hT
  · have GM := ok_term (P := PySem.Challenge.rw_wobblesnap_k04_bounds_refused.prog) (w := w) (mg := mg) (bs := base) (fun_of (st := sIsTerm) F6) fxTm fxNm (fun_of (st := sIsName) F7) (glo _ (by decide +kernel)) b7 (fun_of (st := sCons) F8) (glo _ (by decide +kernel)) b8
    have GBG := ok_isbdG (P := PySem.Challenge.rw_wobblesnap_k04_bounds_refused.prog) (w := w) (mg := mg) (bs := base) (fun_of (st := sIsBd) F5) fxBd fxTm fxNm (fun_of (st := sIsTerm) F6) (glo _ (by decide +kernel)) b6 (fun_of (st := sIsInt) F9) (glo _ (by decide +kernel)) b9 (fun_of (st := sIsName) F7) (glo _ (by decide +kernel)) b7 (fun_of (st := sCons) F8) (glo _ (by decide +kernel)) b8
    have GK := ok_chkG (P := PySem.Challenge.rw_wobblesnap_k04_bounds_refused.prog) (w := w) (mg := mg) (bs := base) (fun_of (st := sChkB) F4) fxBd (free _ (by decide +kernel)) (err_ok m1 (init_of F0)) (glo "BadBounds" (by decide +kernel)) GBG F5.kp (glo _ (by decide +kernel)) b5
    have GV := ok_vals (P := PySem.Challenge.rw_wobblesnap_k04_bounds_refused.prog) (w := w) (mg := mg) (bs := base) (fun_of (st := sVals) F11) fx3 s_ZERO (fun_of (st := sTerms) F10) (glo _ (by decide +kernel)) b10 (fun_of (st := sLower) F13) (glo _ (by decide +kernel)) b13 (fun_of (st := sSums) F12) (glo _ (by decide +kernel)) b12 (fun_of (st := sBehind) F14) (glo _ (by decide +kernel)) b14 (fun_of (st := sAlong) F15) (glo _ (by decide +kernel)) b15
    have GS := ok_sums (P := PySem.Challenge.rw_wobblesnap_k04_bounds_refused.prog) (w := w) (mg := mg) (bs := base) (fun_of (st := sSums) F12) (free _ (by decide +kernel)) fxTs (fun_of (st := sTerms) F10) (glo _ (by decide +kernel)) b10 (fun_of (st := sLower) F13) (glo _ (by decide +kernel)) b13
    have GA := ok_along (P := PySem.Challenge.rw_wobblesnap_k04_bounds_refused.prog) (w := w) (mg := mg) (bs := base) (fun_of (st := sAlong) F15) (free _ (by decide +kernel))
    have GSe := ok_setG (P := PySem.Challenge.rw_wobblesnap_k04_bounds_refused.prog) (w := w) (mg := mg) (bs := base) (fun_of (st := sSettled) F1) GK F4.kp (glo _ (by decide +kernel)) b4 GV F11.kp (glo _ (by decide +kernel)) b11
    have GSh := ok_showsN (P := PySem.Challenge.rw_wobblesnap_k04_bounds_refused.prog) (w := w) (mg := mg) (bs := base) (fun_of (st := sShows) F2) fxBd GK F4.kp (glo _ (by decide +kernel)) b4
    have GL := ok_leastG (P := PySem.Challenge.rw_wobblesnap_k04_bounds_refused.prog) (w := w) (mg := mg) (bs := base) (fun_of (st := sLeast) F3) fx3 fxE GK F4.kp (glo _ (by decide +kernel)) b4 GM F6.kp (glo _ (by decide +kernel)) b6 GV F11.kp (glo _ (by decide +kernel)) b11 GS F12.kp (glo _ (by decide +kernel)) b12 GA F15.kp (glo _ (by decide +kernel)) b15
    have GT := ok_take (P := PySem.Challenge.rw_wobblesnap_k04_bounds_refused.prog) (w := w) (mg := mg) (bs := base) (fun_of (st := sTake) F21) fxD
    have GSo := ok_some (P := PySem.Challenge.rw_wobblesnap_k04_bounds_refused.prog) (w := w) (mg := mg) (bs := base) (fun_of (st := sSome) F23) fxD (fun_of (st := sTake) F21) (glo _ (by decide +kernel)) b21
    have GO := ok_of (P := PySem.Challenge.rw_wobblesnap_k04_bounds_refused.prog) (w := w) (mg := mg) (bs := base) (fun_of (st := sOf) F22) fxD (fun_of (st := sTake) F21) (glo _ (by decide +kernel)) b21
    have GLT := ok_lterms (P := PySem.Challenge.rw_wobblesnap_k04_bounds_refused.prog) (w := w) (mg := mg) (bs := base) (fun_of (st := sLTerms) F29)
    have GLB := ok_lbds (P := PySem.Challenge.rw_wobblesnap_k04_bounds_refused.prog) (w := w) (mg := mg) (bs := base) (fun_of (st := sLBounds) F30) fxD (free _ (by decide +kernel)) (fun_of (st := sTake) F21) (glo _ (by decide +kernel)) b21 (fun_of (st := sSome) F23) (glo _ (by decide +kernel)) b23 (fun_of (st := sOf) F22) (glo _ (by decide +kernel)) b22
    have GAll := ok_lall (P := PySem.Challenge.rw_wobblesnap_k04_bounds_refused.prog) (w := w) (mg := mg) (bs := base) (fun_of (st := sLAll) F31) (free _ (by decide +kernel)) (free _ (by decide +kernel))
    have GLS := ok_lsums (P := PySem.Challenge.rw_wobblesnap_k04_bounds_refused.prog) (w := w) (mg := mg) (bs := base) (fun_of (st := sLSums) F32) fxD (free _ (by decide +kernel)) (free _ (by decide +kernel)) (fun_of (st := sLAll) F31) (glo _ (by decide +kernel)) b31
    have GLR := ok_lring (P := PySem.Challenge.rw_wobblesnap_k04_bounds_refused.prog) (w := w) (mg := mg) (bs := base) (fun_of (st := sLRing) F33) (free _ (by decide +kernel)) GLS F32.kp (glo _ (by decide +kernel)) b32 GAll F31.kp (glo _ (by decide +kernel)) b31
    have GLI := ok_lint (P := PySem.Challenge.rw_wobblesnap_k04_bounds_refused.prog) (w := w) (mg := mg) (bs := base) (fun_of (st := sLInt) F26) fxBd
    have GLTm := ok_lterm (P := PySem.Challenge.rw_wobblesnap_k04_bounds_refused.prog) (w := w) (mg := mg) (bs := base) (fun_of (st := sLTerm) F34) fxBd (free _ (by decide +kernel)) (free _ (by decide +kernel))
    have GLBd := ok_lbd (P := PySem.Challenge.rw_wobblesnap_k04_bounds_refused.prog) (w := w) (mg := mg) (bs := base) (fun_of (st := sLBd) F35) fxBd GLI F26.kp (glo _ (by decide +kernel)) b26 GLTm F34.kp (glo _ (by decide +kernel)) b34
    have GBt := ok_bent (P := PySem.Challenge.rw_wobblesnap_k04_bounds_refused.prog) (w := w) (mg := mg) (bs := base) (fun_of (st := sBent) F28) fxBt (glo _ (by decide +kernel)) b28 GO F22.kp (glo _ (by decide +kernel)) b22 GT F21.kp (glo _ (by decide +kernel)) b21 2
    have GOd := ok_oddZ (P := PySem.Challenge.rw_wobblesnap_k04_bounds_refused.prog) (w := w) (mg := mg) (bs := base) (fun_of (st := sOdd) F27) fxD (fun_of (st := sTake) F21) (glo _ (by decide +kernel)) b21 (fun_of (st := sOf) F22) (glo _ (by decide +kernel)) b22
    have GRt := ok_right (PT := (He.cT K ("_law_right", none)).2) (P := PySem.Challenge.rw_wobblesnap_k04_bounds_refused.prog) (w := w) (mg := mg) (bs := base) (fun_of (st := sRight) F36) hcd hTB fxR (fun_of (st := sTold) F25) (glo _ (by decide +kernel)) b25 GSo F23.kp (glo _ (by decide +kernel)) b23 GLT F29.kp (glo _ (by decide +kernel)) b29 GLB F30.kp (glo _ (by decide +kernel)) b30 GBt F28.kp (glo _ (by decide +kernel)) b28 GOd F27.kp (glo _ (by decide +kernel)) b27 GO F22.kp (glo _ (by decide +kernel)) b22 GSe F1.kp (glo _ (by decide +kernel)) b1 GSh F2.kp (glo _ (by decide +kernel)) b2 GL F3.kp (glo _ (by decide +kernel)) b3 GLBd F35.kp (glo _ (by decide +kernel)) b35 GLTm F34.kp (glo _ (by decide +kernel)) b34 GLR F33.kp (glo _ (by decide +kernel)) b33
    exact ok_law (fun_of (st := sLaw) F37) fxD GRt F36.kp (glo _ (by decide +kernel)) b36 (fun_of (st := sPot) F20) (glo _ (by decide +kernel)) b20 (fun_of (st := sCells) F24) (glo _ (by decide +kernel)) b24
end L2.K04
open PySem PySem.W PySem.Calls PyProof.Rows
theorem PySem.Challenge.cw_wobblesnap_k04_bounds_refused_holds : PySem.Challenge.rw_wobblesnap_k04_bounds_refused.Holds := by
  w_on; o_law
  refine HandSHeadRun.head_any (r := L2.K04.R) (q := view L2.K04.R.prog [47]) (H := L2.K04.hk) (ob := L2.K04.ob) (M := 6000) (loose := L2.K04.loose) (d := HandSHeadRun.topDef L2.K04.R.prog 47) (kwd := []) L2.K04.ob_eq
    (by kernel_rfl) (fun s => by kernel_rfl) L2.K04.run (by kernel_rfl) (by kernel_rfl) (by kernel_rfl) (by rfl) (by first | assumption | decide +kernel) (by decide +kernel) ⟨rfl, rfl, rfl, rfl, rfl, by decide +kernel⟩ ?hw ?hc
  case hw => w_witness2
  case hc =>
    refine L2.Vx.walk_ofTEG (l := PySem.Challenge.rw_wobblesnap_k04_bounds_refused) (n := 63) (k := 10) (x := "script") (CX := L2.CX0) rfl (by decide) (by kernel_rfl) ⟨rfl, by decide, by decide⟩ ?F (fun _ _ _ _ z => z)
    intro w mg fa h Y G hmg0
    obtain ⟨K, KX, c⟩ := Y
    have hmg : mg ("law" : PySem.Str) = some (.ref fa) := by
      have e : (HandSHeadRun.topDef L2.K04.R.prog 47).name = ("law" : PySem.Str) := by kernel_rfl
      rw [← e]
      exact hmg0
    exact L2.K04.facts KX G hmg c
#print axioms PySem.Challenge.cw_wobblesnap_k04_bounds_refused_holds

