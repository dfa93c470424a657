import PyProof.Rows.All
import Wide.All
import OpenK.AllK
import Wide.FinOn
import PyProof.EqAt
import PyProof.EqKinds
import PyProof.TupleCall
import KE.OsGo
import KE.KxIndex
import HandS.ForMost
import HandS.ForExc
import HandS.WordsExc
import HandS.Comp
import HandS.More
import HandS.Conv
import HandS.DictComp
import HandS.Defaults
import HandS.MakeKwOnly
import HandS.ListItems
import KE.KDictItemsList
import KE.KDictExact
import KE.KDictList
import HandS.TryOnly
import HandS.IsInst
import HandS.ExcOwn
import KE.KExcIs
import HandS.Text
import KE.RegKIsAll
import PySem.Challenge.RW_lastasked_k06_programs_at_their_bounds
/-! text LB -/
set_option Elab.async false
set_option linter.all false
set_option maxRecDepth 100000
set_option maxHeartbeats 4000000
namespace PySem
namespace LowX
open PySem.W PySem.Calls PyProof.Rows PySem.HandSPX
/-! ### the text of __init__ -/
def iA (p1 p2 : Pos) : Arguments := { posonlyargs := [], args := [{ arg := "self", annotation := none, pos := p1 }, { arg := "line", annotation := none, pos := p2 }], vararg := none, kwonlyargs := [], kw_defaults := [], kwarg := none, defaults := [] }
def iB (q1 q2 q3 q4 : Pos) : List Stmt := [.Assign [.Attribute (.Name "self" q1) "line" q2] (.Name "line" q3) q4]
def iS : Scope := { kind := .function, names := [(PySem.Str.ofString "self", .local), (PySem.Str.ofString "line", .local)], isGenerator := false, isCoroutine := false, more := [] }
/-- what the written part says of Low, at C, and of its __init__, at fI -/
structure LowTxt (K : Frag) (mg : Str → Option Value) (C fI : Addr) : Prop where
  gC : mg "BadText" = some (.ref C)
  cls : ∃ nm q N bs bm sn sub ab col dd k0 k1 k2 k3 k5, K.lookup C = some (excClassObj nm q C N bs bm true sn sub ab col dd k0 k1 k2 k3 k5 "ValueError.__new__") ∧ refsVE bm = true
  sa : findIn K (.ref C) "__setattr__" = some (some (.builtin "object.__setattr__"))
  ga : findIn K (.ref C) "__getattribute__" = some (some (.builtin "BaseException.__getattribute__"))
  gg : findIn K (.ref C) "__getattr__" = some none
  noN : findIn K (.ref C) "line" = some none
  iC : findIn K (.ref C) "__init__" = some (some (.ref fI))
  tC : typeIn K (.ref fI) = some (.type "function")
  kC : keepIn K (.ref C) = true
  exC : subIn K (.ref C) (.type "BaseException") = some true
  tyC : typeIn K (.ref C) = some (.type "type")
  hdC : hasDictIn K C = true
  te : exmOne K (.ref C) (.ref C) = some true
  fn : ∃ (oc : Value) (od : Option Addr) (doc pm : Value) (an : Option Addr) (cdv ct : Value) (osl : Array (Option Value)) (p1 p2 q1 q2 q3 q4 : Pos),
    K.lookup fI = some ⟨oc, od, .func (fnOf "__init__" "BadText.__init__" (iA p1 p2) (iB q1 q2 q3 q4) iS .none .none doc pm an cdv ct), osl⟩ ∧ codeIn K cdv "BadText.__init__" = true
theorem one_size (v : Value) : [v].length ≤ sizeLine := by
  rw [sizeLine_eq]
  exact (by decide : 1 ≤ 16777216)
theorem kept_but {K : Frag} {h h' : Heap} {x : Addr} (X : K.In h) (hx : K.lookup x = none) (k : ∀ b o, b ≠ x → h.get? b = some o → h'.get? b = some o) : K.In h' := fun a o e =>
  k a o (fun z => by rw [z, hx] at e; cases e) (X a o e)
theorem ldC {M : Model} {s : Shared} {name : Str} {scope : Scope} {L a : Addr} {cd : Value} {m : Str → Option Value} {x : Str} {pos : Pos} {v : Value} {Q : Value → Shared → Prop} {A : Around} {E : Value → Shared → Prop} (hn : s.heap.Ns L m) (hv : m x = some v) (h : Q v s)
    (hk : scope.kind = .function := by rfl) (hl : (envOfC name scope L a cd).kindOf x = some .local := by rfl) (hd : (x == ("__debug__" : Str)) = false := by decide) :
    wpAny M A (eval (.Name x pos) (envOfC name scope L a cd)) Q E s := wpAny_Name (wpAny_loadName_local hk hl hn hv h) hd
/-- what __init__ leaves of a fresh exception at x -/
structure InitEnd (h h' : Heap) (x C dx t1 : Addr) (v : Value) : Prop where
  keep : ∀ b o, b ≠ x → h.get? b = some o → h'.get? b = some o
  obj : h'.get? x = some { cls := .ref C, dict := some dx, data := .fields #[.ref t1, .none, .none, .none, .bool false, .none] }
  dbig : h.objs.size ≤ dx
  dne : dx ≠ x
  ns : h'.Ns1 dx (fun y => if y = "line" then some v else none)
/-- a made Low -/
structure OwnMade (h h' : Heap) (e C d : Addr) (v : Value) : Prop where
  keep : ∀ b o, h.get? b = some o → h'.get? b = some o
  new : h.objs.size ≤ e
  obj : ∃ oe vs, h'.get? e = some oe ∧ oe.cls = .ref C ∧ oe.dict = some d ∧ oe.data = .fields vs ∧ vs[1]? = some .none
  dbig : h.objs.size ≤ d
  dne : d ≠ e
  ns : h'.Ns1 d (fun y => if y = "line" then some v else none)
section
variable {prog : Program} {w : World} {A : Around} {E : Value → Shared → Prop} {R : Result → Shared → Prop} {s : Shared} {K : Frag} {mg : Str → Option Value} {C fI : Addr}
theorem low_init (T : LowTxt K mg C fI) {x t0 : Addr} {v : Value} (X : K.In s.heap) (hlim : s.heap.NoLimit) (hx : s.heap.get? x = some (excO C t0)) (hnx : K.lookup x = none) (hroom : A.depth < recursionLimit)
    (hq : ∀ h' tk dx, InitEnd s.heap h' x C dx t0 v → R (.ok (.ret .none)) { s with heap := h', toks := tk }) :
    codeAny (model prog w) A (.call (.ref fI) ⟨[.ref x, v], []⟩) R s := by
  obtain ⟨oc, od, doc, pm, an, cdv, ct, osl, p1, p2, q1, q2, q3, q4, ho, hcd⟩ := T.fn
  obtain ⟨nm, q, N, bs, bm, sn, sub, ab, col, dd, k0, k1, k2, k3, k5, hC, hbm⟩ := T.cls
  have hcl : clsIn K C = some { name := nm, bases := bs, mro := .ref C :: bm, ns := N, qualname := q, hasDict := true, slotNames := sn, subclasses := sub, abstract := ab, collection := col, hasDel := false } := by unfold clsIn; rw [hC] <;> rfl
  refine Att.call_fn (binds := [("self", .ref x), ("line", v)]) X hlim ho hcd hroom (BindsTo.of_eq (by first | rfl | with_unfolding_all rfl)) (by first | rfl | decide | with_unfolding_all rfl) (fun s₁ IC => ?_) rfl rfl rfl
  obtain ⟨h₁, tk₁, rfl⟩ := IC.toInCall.same
  have k : ∀ b o, s.heap.get? b = some o → h₁.get? b = some o := IC.toInCall.keep
  have hn := IC.toInCall.ns
  have hxL : s.heap.objs.size ≠ x := Nat.ne_of_gt (Heap.lt_size hx)
  have X₁ : K.In h₁ := X.keeps k
  have hx₁ := k _ _ hx
  -- self.by = by
  show wpAny _ _ (execs _ _) _ _ _
  refine wpAny_execs_cons (plainObj_wpAny_Assign_Attribute ?_)
  refine ldC (v := v) hn (by first | rfl | with_unfolding_all rfl | kernel_rfl) (ldC (v := .ref x) hn (by first | rfl | with_unfolding_all rfl | kernel_rfl) ?_)
  refine set_plain X₁ (ox := excO C t0) (od := none) ⟨hx₁, rfl, rfl, trivial⟩ T.sa ?_
  refine exc_osa X₁ hx₁ hcl (show refsVE (.ref C :: bm) = true from hbm) rfl T.noN (fun h₃ tk₃ dx k₃ dn dne hx₃ hn₃ => ?_)
  show wpAny _ _ (execs _ _) _ _ _
  have z : s.heap.objs.size < h₁.objs.size := hn.lt
  exact wpAny_execs_nil (hq h₃ tk₃ dx ⟨fun b o hb e => k₃ b o hb (k b o e), hx₃, Nat.le_of_lt (Nat.lt_of_lt_of_le z dn), dne, hn₃⟩)
theorem low_made (T : LowTxt K mg C fI) {v : Value} (X : K.In s.heap) (hlim : s.heap.NoLimit) (hroom : A.depth + 1 < recursionLimit)
    (hq : ∀ h' tk e d, OwnMade s.heap h' e C d v → R (.ok (.ret (.ref e))) { s with heap := h', toks := tk }) :
    codeAny (model prog w) A (.call (.ref C) ⟨[v], []⟩) R s := by
  obtain ⟨nm, q, N, bs, bm, sn, sub, ab, col, dd, k0, k1, k2, k3, k5, hC, hbm⟩ := T.cls
  obtain ⟨hp, g, dr, tk, os⟩ := s
  have k : ∀ b o, hp.get? b = some o → ((hp.push (kdv_tup [v])).push (excO C hp.objs.size)).get? b = some o := fun b o e => Heap.get?_push_of_some _ (Heap.get?_push_of_some _ e)
  have hget : ((hp.push (kdv_tup [v])).push (excO C hp.objs.size)).get? (hp.objs.size + 1) = some (excO C hp.objs.size) := by heap_get
  have hnx : K.lookup (hp.objs.size + 1) = none := by
    cases e : K.lookup (hp.objs.size + 1) with
    | none => rfl
    | some o =>
      have z : hp.get? (hp.objs.size + 1) = some o := X _ _ e
      exact absurd (Nat.lt_of_succ_lt (Heap.lt_size z)) (Nat.lt_irrefl _)
  refine call_own F.excBase_ValueError (fun X => refsVE_contains X bm hbm) (X _ _ hC) (looks_findIn X T.iC) (fun self => bind_fn X self T.tC) (one_size v) ?_
  refine low_init (s := ⟨(hp.push (kdv_tup [v])).push (excO C hp.objs.size), g, dr, tk, os⟩) T (X.keeps k) (hlim.keeps k) hget hnx ?_ fun h' tk' dx ⟨k', hx, dn, dne, hns⟩ => ?_
  · show A.depth + 1 < recursionLimit
    exact hroom
  · have old : ∀ b o, hp.get? b = some o → h'.get? b = some o := fun b o e => k' b o (Nat.ne_of_lt (Nat.lt_succ_of_lt (Heap.lt_size e))) (k b o e)
    have z : hp.objs.size + 1 + 1 ≤ dx := by
      first
        | (simpa only [Heap.size_push] using dn)
        | exact dn
        | (have q := dn; rw [Heap.size_push, Heap.size_push] at q; exact q)
    exact ⟨rfl, hq h' tk' (hp.objs.size + 1) dx ⟨old, Nat.le_succ _, ⟨_, _, hx, rfl, rfl, rfl, rfl⟩, Nat.le_trans (Nat.le_trans (Nat.le_succ _) (Nat.le_succ _)) z, dne, hns⟩⟩
end
end LowX
end PySem
namespace L2
open PySem PySem.Spec PyProof.Rows
theorem relO_bad {v : V} {v' : Value} (r : RelV v v') (f : Str) : RelO (List.lookup f [(("line" : Str), v)]) (if f = "line" then some v' else none) := by
  by_cases hw : f = "line"
  · subst hw
    rw [if_pos rfl]
    have q : List.lookup ("line" : Str) [(("line" : Str), v)] = some v := by simp [List.lookup]
    rw [q]
    exact r
  · rw [if_neg hw]
    have qw : (f == ("line" : Str)) = false := by simpa using hw
    have q2 : List.lookup f [(("line" : Str), v)] = none := by simp [List.lookup, qw]
    rw [q2]
    trivial
section
variable {X : Cx} {C fI : Addr}
/-- Low(e) -/
def tMkLow (C : Addr) (ta : TA) : St → Hp → XK → Prop := fun σ H Q => ta σ H fun vs H1 => ∃ v, vs = [v] ∧ ∀ d, H1 d = none → Q (.ref C) (some d) (upd H1 d (.xd [(("line" : Str), v)]))
theorem pmk_low {a : Expr} {ta : TA} {p pos : Pos} {k : Nat} (T : PySem.LowX.LowTxt X.K X.mg C fI) (hr : Room k X.A) (ha : PA X [a] ta) (hg : Gl X "BadText" := by rfl)
    (he : starEach (a :: []) X.env = (false, eval a X.env) :: starEach [] X.env := by rfl) (hpl : (backTo pos (starEach [] X.env)).any (·.1) = false := by rfl) :
    PMk X (.Call (.Name "BadText" p) [a] [] pos) (tMkLow C ta) := by
  intro pins s σ H Q I h
  refine wpAny_Call_Name_kw (ld_glob I hg T.gC ?_)
  refine PySem.W.callWith_K (h₀ := X.base) I.ok.mod.kin T.kC (thn (ha.run pos pins s σ H _ I h) fun us s1 hh => ?_) he hpl
  obtain ⟨vs, H1, I1, r1, v, ev, q1⟩ := hh
  subst ev
  refine ⟨I1.kIn, ?_⟩
  cases r1 with
  | cons rv rn =>
    rename_i v' us'
    cases rn
    show wpAny _ _ (call (.ref C) [v']) _ _ _
    have hlim := I1.nolimit
    obtain ⟨hp, g, dr, tk, os⟩ := s1
    refine wpAny_call (PySem.LowX.low_made T I1.kIn hlim (by have := hr.dp; omega) fun h' tk' e d M => ?_)
    show MkP X pins σ Q (.ref e) ⟨h', g, dr, tk', os⟩
    obtain ⟨oe, fv, hoe, hc, hd, hdat, h1⟩ := M.obj
    have hns := M.ns
    obtain ⟨G', g1, g2⟩ := restrict h' fun b => decide (b ≠ e)
    have gk : ∀ b, b ≠ e → G'.get? b = h'.get? b := fun b hb => g1 b (decide_eq_true hb)
    have ge : G'.get? e = none := g2 e (by simp)
    have old : ∀ b o, hp.get? b = some o → G'.get? b = some o := fun b o q => (gk b (Nat.ne_of_lt (Nat.lt_of_lt_of_le (Heap.lt_size q) M.new))).trans (M.keep b o q)
    have ob : ObjOk X.prog X.w (upd H1 d (.xd [(("line" : Str), v)])) G' d (.xd [(("line" : Str), v)]) :=
      ⟨_, hns.at (fun o q => (gk d M.dne).trans q), fun f => relO_bad rv f⟩
    have J : Inv X pins σ (upd H1 d (.xd [(("line" : Str), v)])) ⟨G', g, dr, tk', os⟩ := I1.laid (t' := tk') old M.dbig ob
    refine ⟨e, oe, fv, ⟨G', g, dr, tk', os⟩, _, .ref C, some d, rfl, J, fun b o q => ?_, ge, hoe, ⟨hc, hd⟩, hdat, h1, ?_, rfl, I1.bare, raises_own T.exC T.tyC, q1 d (I1.hok.fresh M.dbig)⟩
    · by_cases hb : b = e
      · have q' : G'.get? b = some o := q
        rw [hb, ge] at q'; cases q'
      · exact (gk b hb).symm.trans q
    · rw [upd_ne (Ne.symm M.dne)]
      exact I1.hok.fresh M.new
/-- raise Low(e) -/
def tRaiseLow (C : Addr) (W : WX) (ta : TA) : TS := fun _ σ H => tMkLow C ta σ H fun cls d H' => W cls d σ H'
theorem ps_raiseLow {a : Expr} {ta : TA} {W : WX} {p pos pos2 : Pos} {k : Nat} (hc : X.calm = true) (T : PySem.LowX.LowTxt X.K X.mg C fI) (hr : Room k X.A) (tk : Takes X W) (ha : PA X [a] ta) (hg : Gl X "BadText" := by rfl)
    (he : starEach (a :: []) X.env = (false, eval a X.env) :: starEach [] X.env := by rfl) (hpl : (backTo pos (starEach [] X.env)).any (·.1) = false := by rfl) :
    PS X (.Raise (some (.Call (.Name "BadText" p) [a] [] pos)) none pos2) (tRaiseLow C W ta) := ps_raise hc tk (pmk_low T hr ha hg he hpl)
/-- low.by, low the exception that the suite holds (at a; its class cls, its dict d) -/
def tByLow (C : Addr) (a : Addr) (cls : Value) (d : Option Addr) (te : TE) : TE := fun σ H Q => te σ H fun x H1 => x = .ref a ∧ cls = .ref C ∧ ∃ (dd : Addr) (v : V), d = some dd ∧ H1 dd = some (.xd [(("line" : Str), v)]) ∧ Q v H1
theorem pe_byLow {a : Addr} {oe : Obj} {cls : Value} {d : Option Addr} {pn : List (Addr × Obj)} {e : Expr} {te : TE} {pos : Pos} (T : PySem.LowX.LowTxt X.K X.mg C fI) (hz : Zc cls d oe) (hf : ∃ vs, oe.data = .fields vs) (he : PE (X.suite a ((a, oe) :: pn)) e te)
    (hb : attributeBase e "line" X.env (eval e X.env) = eval e X.env := by rfl) :
    PE (X.suite a ((a, oe) :: pn)) (.Attribute e "line" pos) (tByLow C a cls d te) := by
  refine ⟨fun pins s σ H Q I h => ?_⟩
  refine attr_of hb (thn (he.run pins s σ H _ I h) fun u s1 hh => ?_)
  obtain ⟨x, H1, I1, rx, ex, ec, dd, v, ed, ea, q⟩ := hh
  subst ex
  obtain rfl : u = Value.ref a := rx
  subst ec
  subst ed
  obtain ⟨ha, _⟩ := I1.pin (a, oe) (List.mem_append_left _ List.mem_cons_self)
  obtain ⟨vs, hd⟩ := hf
  have hx : ObjOk X.prog X.w H1 s1.heap dd (.xd [(("line" : Str), v)]) := I1.hok dd _ ea
  obtain ⟨mA, hns, hr⟩ := hx
  obtain ⟨od, ho, hl⟩ := lookIn_ns hns
  have l : List.lookup ("line" : Str) [(("line" : Str), v)] = some v := by simp [List.lookup]
  obtain ⟨u, hu, ru⟩ := RelO.some_of (v := v) (o := mA "line") (by rw [← l]; exact hr "line")
  have J : PySem.W.InstAt s1.heap a oe C (some od) := ⟨ha, hz.1, by unfold PySem.W.notCls; rw [hd] <;> rfl, by rw [hz.2]; exact ho⟩
  exact HandSPX.exc_get I1.kIn J T.ga T.gg T.exC (PySem.W.findObj_own T.hdC T.noN rfl (by rw [hl, hu])) (handed_of ru) ⟨v, H1, I1.tok _, ru, q⟩
end
end L2

namespace L2
open PySem PySem.Spec PyProof.Rows
/-- an if whose test is known -/
theorem if_true_of {c : Bool} {A B : Prop} (hc : c = true) (h : A) : if c = true then A else B := by
  rw [if_pos hc]
  exact h
theorem if_false_of {c : Bool} {A B : Prop} (hc : c = false) (h : B) : if c = true then A else B := by
  rw [hc, if_neg Bool.false_ne_true]
  exact h
end L2

namespace L2
open PySem PySem.Spec PyProof.Rows
/-- "..." * n, a short text and a small number -/
theorem op_mul_str {X : Cx} : OpR X (binaryOp .Mult) (fun x y H Q => ∃ (i : Str) (j : Int), x = .str i ∧ y = .int j ∧ i.length ≤ 16 ∧ 0 ≤ j ∧ j ≤ 1000 ∧ Q (.str (Txt.mul i j)) H) := by
  intro pins s σ H x y v u Q I rx ry h
  obtain ⟨i, j, rfl, rfl, hi, h0, h1, q⟩ := h
  obtain ⟨t, rfl⟩ := rx
  obtain ⟨t', rfl⟩ := ry
  refine PySem.W.KXi.mul rfl hi (by omega) (by omega) fun t' k _ _ => ⟨.str (Txt.mul i j), H, I.tok _, ⟨_, rfl⟩, q⟩
end L2

/-! text L1 -/
set_option Elab.async false
set_option linter.all false
set_option maxRecDepth 100000
set_option maxHeartbeats 4000000
namespace K6
open PySem PySem.Spec PyProof.Rows L2
def top (i : Nat) : Stmt := PySem.Challenge.pw_lastasked_k06_programs_at_their_bounds.main.body.getD i (.Pass ⟨0, 0, 0, 0⟩)
abbrev sLInit : Stmt := inClass (top 6) 0
abbrev sWords : Stmt := inClass (top 6) 1
abbrev sBegins : Stmt := inClass (top 6) 2
abbrev sStep : Stmt := inClass (top 6) 3
abbrev sNeed : Stmt := inClass (top 6) 4
/-! ### the fields of Lines -/
theorem ra_ : ¬ (("rows" : Str) = "at") := by decide +kernel
theorem ar_ : ¬ (("at" : Str) = "rows") := by decide +kernel
def lf (r : Addr) (n : Nat) : List (Str × V) := [("rows", V.ref r), ("at", V.int n)]
theorem lf_put0 (r : Addr) : putF "at" (V.int 0) (putF "rows" (.ref r) []) = lf r 0 := by
  show (if ("rows" : Str) = "at" then [(("rows" : Str), V.int 0)] else (("rows" : Str), V.ref r) :: putF "at" (V.int 0) []) = _
  rw [if_neg ra_]
  rfl
theorem lf_eq (r : Addr) (n : Nat) : lf r n = putF "at" (V.int n) (putF "rows" (.ref r) []) := by
  show _ = (if ("rows" : Str) = "at" then [(("rows" : Str), V.int n)] else (("rows" : Str), V.ref r) :: putF "at" (V.int n) [])
  rw [if_neg ra_]
  rfl
theorem lf_rows (r : Addr) (n : Nat) : (lf r n).lookup ("rows" : Str) = some (.ref r) := by
  rw [lf_eq, lookup_putF, if_neg ra_, lookup_putF, if_pos rfl]
theorem lf_at (r : Addr) (n : Nat) : (lf r n).lookup ("at" : Str) = some (.int n) := by
  rw [lf_eq, lookup_putF, if_pos rfl]
theorem lf_no (r : Addr) (n : Nat) {m : Str} (h1 : ¬ m = "at") (h2 : ¬ m = "rows") : (lf r n).lookup m = none := by
  rw [lf_eq, lookup_putF, if_neg h1, lookup_putF, if_neg h2]
  rfl
theorem lf_put (r : Addr) (n m : Nat) : putF "at" (.int m) (lf r n) = lf r m := by
  show (if ("rows" : Str) = "at" then _ else (("rows" : Str), V.ref r) :: (if ("at" : Str) = "at" then [(("at" : Str), V.int m)] else _)) = _
  rw [if_neg ra_, if_pos rfl]
  rfl
theorem lf_inj {r r' : Addr} {n n' : Nat} (h : lf r n = lf r' n') : r = r' ∧ n = n' := by
  unfold lf at h
  injection h with h1 h2
  injection h2 with h2 _
  injection h1 with _ h1
  injection h2 with _ h2
  injection h1 with h1
  injection h2 with h2
  exact ⟨h1, by omega⟩
/-- all that stands, but p, stays; p holds on to its list -/
structure Kp (p : Addr) (H H' : Hp) : Prop where
  ne : ∀ b o, b ≠ p → H b = some o → H' b = some o
  at_ : ∀ C dx r n, H p = some (.ins C dx (lf r n)) → ∃ n', H' p = some (.ins C dx (lf r n'))
theorem Kp.refl (p : Addr) (H : Hp) : Kp p H H := ⟨fun _ _ _ h => h, fun _ _ _ n h => ⟨n, h⟩⟩
theorem Kp.trans {p : Addr} {H H1 H2 : Hp} (a : Kp p H H1) (b : Kp p H1 H2) : Kp p H H2 := ⟨fun c o n h => b.ne c o n (a.ne c o n h), fun C dx r n h => by
  obtain ⟨n1, h1⟩ := a.at_ C dx r n h
  exact b.at_ C dx r n1 h1⟩
theorem Kp.of {p : Addr} {H H' : Hp} (s : Same H H') : Kp p H H' := ⟨fun b o _ h => s b o h, fun _ _ _ n h => ⟨n, s _ _ h⟩⟩
theorem Same.new {H : Hp} {q : Addr} {o : HO} (h : H q = none) : Same H (upd H q o) := fun b o' e => by
  rw [upd_ne (ne_of_none e h)]
  exact e
/-! ### the mirror -/
def leadM (d : Nat) : Str := Txt.mul "  " (d : Int)
def wordsM (rows : List Str) (n d : Nat) : List Str :=
  match rows[n]? with
  | none => []
  | some row => if Txt.startswith row (leadM d) = true then
      (if (Txt.split (cutS row (some ((leadM d).length : Int)) none) " ").contains "" then [] else Txt.split (cutS row (some ((leadM d).length : Int)) none) " ") else []
/-- a text's sizes -/
structure Small (rows : List Str) : Prop where
  len : rows.length ≤ 20000
  each : ∀ x ∈ rows, x.length ≤ 1000000
  many : ∀ n d, (wordsM rows n d).length ≤ 1000000
  word : ∀ n d, ∀ x ∈ wordsM rows n d, PyData.strOk x = true ∧ x.length ≤ 1000000
/-- at p: the lines of rows, the next one is the n-th -/
def Lns (C : Addr) (H : Hp) (p : Addr) (rows : List Str) (n : Nat) : Prop :=
  Small rows ∧ n ≤ rows.length ∧ ∃ dx r : Addr, H p = some (.ins C dx (lf r n)) ∧ H r = some (.lst (rows.map V.str))
theorem Lns.same {C p : Addr} {H H' : Hp} {rows : List Str} {n : Nat} (s : Same H H') (h : Lns C H p rows n) : Lns C H' p rows n := by
  obtain ⟨a, b, dx, r, h1, h2⟩ := h
  exact ⟨a, b, dx, r, s _ _ h1, s _ _ h2⟩
/-- a new object of a loop changes: the lines stand as before -/
theorem Lns.upd_new {C p D : Addr} {H0 H : Hp} {rows : List Str} {n0 n : Nat} {o : HO} (h0 : Lns C H0 p rows n0) (k : Kp p H0 H) (l : Lns C H p rows n) (hD : H0 D = none) : Lns C (upd H D o) p rows n := by
  obtain ⟨_, _, dx, r, hp, hr⟩ := h0
  obtain ⟨a, b, dx', r', hp', hr'⟩ := l
  obtain ⟨n', e⟩ := k.at_ _ _ _ _ hp
  rw [hp'] at e
  injection e with e
  injection e with _ e2 e3
  obtain ⟨rfl, _⟩ := lf_inj e3
  exact ⟨a, b, dx', r', by rw [upd_ne (ne_of_none hp hD)]; exact hp', by rw [upd_ne (ne_of_none hr hD)]; exact hr'⟩
theorem Kp.upd_new {C p D : Addr} {H0 H : Hp} {rows : List Str} {n0 : Nat} {o : HO} (h0 : Lns C H0 p rows n0) (k : Kp p H0 H) (hD : H0 D = none) : Kp p H0 (upd H D o) := by
  obtain ⟨_, _, dx, r, hp, hr⟩ := h0
  refine ⟨fun b o hb e => ?_, fun C' dx' r' n' e => ?_⟩
  · rw [upd_ne (ne_of_none e hD)]
    exact k.ne b o hb e
  · rw [upd_ne (ne_of_none hp hD)]
    exact k.at_ _ _ _ _ e
theorem cutS_len (z : Str) (lo hi : Option Int) : (cutS z lo hi).length ≤ z.length := by
  show ((z.cps.toList.drop _).take _).toArray.size ≤ z.cps.size
  rw [List.size_toArray, List.length_take, List.length_drop, Array.length_toList]
  omega
theorem flat_strs (l : List Str) : (l.map V.str).all flatV = true := by
  rw [List.all_map]
  exact List.all_eq_true.mpr fun _ _ => rfl
theorem inV_strs (x : Str) (l : List Str) : inV (V.str x) (l.map V.str) = l.contains x := by
  unfold inV
  rw [List.any_map]
  induction l with
  | nil => rfl
  | cons a r ih =>
    rw [List.any_cons, ih, List.contains_cons]
    show ((a == x) || _) = ((x == a) || _)
    rw [BEq.comm]
theorem dp_all {K : PySem.W.Frag} {H : Hp} (l : List Str) : DpAll K H (l.map V.str) (l.map PyData.str) := by
  induction l with
  | nil => exact .nil
  | cons a r ih => exact .cons (.str a) ih
theorem dp_strs {K : PySem.W.Frag} {H : Hp} {a : Addr} {l : List Str} (h : SqL K H a (l.map V.str)) : Dp K H (.ref a) (.list (l.map PyData.str)) := .lst h (dp_all l)
theorem eqvAll_strs : ∀ (l m : List Str), PyData.eqvAll (l.map PyData.str) (m.map PyData.str) = (l == m)
  | [], [] => rfl
  | [], _ :: _ => rfl
  | _ :: _, [] => rfl
  | a :: l, b :: m => by
    have ih := eqvAll_strs l m
    show ((a == b) && PyData.eqvAll (l.map PyData.str) (m.map PyData.str)) = ((a == b) && (l == m))
    rw [ih]
theorem eqv_strs (l m : List Str) : PyData.eqv (.list (l.map PyData.str)) (.list (m.map PyData.str)) = (l == m) := eqvAll_strs l m
theorem canLay_all (l : List Str) (h : ∀ x ∈ l, PyData.strOk x = true) : PyData.canLayAll0 (l.map PyData.str) = true := by
  induction l with
  | nil => simp only [List.map_nil, PyData.canLayAll0]
  | cons a r ih =>
    simp only [List.map_cons, PyData.canLayAll0, PyData.canLay0]
    rw [h a List.mem_cons_self, ih fun x hx => h x (List.mem_cons_of_mem _ hx)]
    rfl
theorem depth_all (l : List Str) : PyData.depthAll (l.map PyData.str) = 0 := by
  induction l with
  | nil => simp only [List.map_nil, PyData.depthAll]
  | cons a r ih =>
    simp only [List.map_cons, PyData.depthAll, PyData.depth]
    rw [ih]
    rfl
theorem shaped_strs (l : List Str) (h : ∀ x ∈ l, PyData.strOk x = true) : SeqAt.shaped (.list (l.map PyData.str)) = true := by
  have e1 : (PyData.list (l.map PyData.str)).canLay0 = true := by
    simp only [PyData.canLay0]
    exact canLay_all l h
  have e2 : (PyData.list (l.map PyData.str)).depth ≤ 64 := by
    simp only [PyData.depth]
    rw [depth_all]
    decide
  unfold SeqAt.shaped
  rw [e1, decide_eq_true e2]
  rfl
/-- a list of one text -/
theorem take1 (l : List Str) : cutV (l.map V.str) none (some 1) = (l.take 1).map V.str := by
  unfold cutV
  rw [HT.sIx_none, show (some (1 : Int)) = some ((1 : Nat) : Int) from rfl, HT.sIx_nat, List.length_map]
  cases l with
  | nil => rfl
  | cons a r =>
    rw [show min 1 (a :: r).length - 0 = 1 from by simp only [List.length_cons]; omega]
    rfl
theorem eq1 (l : List Str) (x : Str) : (l.take 1 == [x]) = (l.head? == some x) := by
  cases l with
  | nil => rfl
  | cons a r =>
    show ((a == x) && true) = (a == x)
    rw [Bool.and_true]
/-! ### promises -/
def spLInit (C : Addr) : Sp := fun vs H Q _ => ∃ (p dx : Addr) (x : Str), vs = [.ref p, .str x] ∧ H p = some (.ins C dx []) ∧ x.length ≤ 1000000 ∧ Small (Txt.split x "\n") ∧
  ∀ H', Kp p H H' → Lns C H' p (Txt.split x "\n") 0 → Q .non H'
def spWords (C : Addr) : Sp := fun vs H Q _ => ∃ (p : Addr) (rows : List Str) (n d : Nat), vs = [.ref p, .int d] ∧ Lns C H p rows n ∧ d ≤ 10 ∧
  ∀ H' q, Same H H' → H q = none → H' q = some (.lst ((wordsM rows n d).map V.str)) → Q (.ref q) H'
def spBegins (C : Addr) : Sp := fun vs H Q _ => ∃ (p : Addr) (rows : List Str) (n d : Nat) (x : Str), vs = [.ref p, .int d, .str x] ∧ Lns C H p rows n ∧ d ≤ 10 ∧ PyData.strOk x = true ∧
  ∀ H', Same H H' → Q (.bl ((wordsM rows n d).head? == some x)) H'
def spStep (C : Addr) : Sp := fun vs H Q _ => ∃ (p : Addr) (rows : List Str) (n : Nat), vs = [.ref p] ∧ Lns C H p rows n ∧ n < rows.length ∧
  ∀ H', Kp p H H' → Lns C H' p rows (n + 1) → Q .non H'
/-- an exception of BadText, its line n, is let out -/
def Bad (CB : Addr) (H : Hp) (E : XK) (n : Nat) : Prop := ∀ (H' : Hp) (d : Addr), Same H H' → H' d = some (.xd [(("line" : Str), V.int n)]) → E (.ref CB) (some d) H'
def spNeed (C CB : Addr) : Sp := fun vs H Q E => ∃ (p : Addr) (rows : List Str) (n : Nat) (b : Bool), vs = [.ref p, .bl b] ∧ Lns C H p rows n ∧
  (b = true → Q .non H) ∧ (b = false → ∀ d : Addr, H d = none → E (.ref CB) (some d) (upd H d (.xd [(("line" : Str), V.int (n + 1 : Nat))])))
structure TL (K : PySem.W.Frag) (mg : Str → Option Value) (C CB fB : Addr) : Prop where
  cl : Cls K C
  nR : NoAttr K C "rows"
  nA : NoAttr K C "at"
  len : mg "len" = none
  bad : PySem.LowX.LowTxt K mg CB fB
section
variable {P : Program} {w : World} {K : PySem.W.Frag} {mg : Str → Option Value} {base : Heap} {C CB fB : Addr}
theorem scWords : FnScope ["self", "depth", "lead", "row", "words"] ["self", "depth"] (defScope sWords) := ⟨rfl, rfl, rfl, by decide +kernel, rfl, by decide +kernel, by decide +kernel⟩
theorem ok_words {f : Addr} {fd : FuncData} (F : Fun K "words" "Lines.words" sWords f fd) (T : TL K mg C CB fB) : FnOk P w K mg base CX0 1 f fd ["self", "depth"] (spWords C) := by
  refine F.ok scWords (fun vs H Q E h => ?_) (fun cdv A outer s H vs Q E hr h => ?_)
  · obtain ⟨p, rows, n, d, rfl, _⟩ := h
    rfl
  · obtain ⟨p, rows, n, d, rfl, hL, hd, k⟩ := h
    obtain ⟨⟨hs1, hs2, _, _⟩, hn, dx, r, hp, hr'⟩ := hL
    refine ⟨_, pss_cons (ps_if (pt_cmpR op_eq (pe_fld (pv 0) rfl) (pe_callB call_len_seq (by rfl) T.len PySem.boot_len (pa_cons (pe_fld (pv 0) rfl) pa_nil)) (nomark _)) (pss_one (ps_ret (pe_lst pa_nil))) pss_nil)
      (pss_cons (ps_set (i := 2) scWords.nd rfl (Or.inl rfl) (pe_op op_mul_str pe_str (pv 1)))
      (pss_cons (ps_set (i := 3) scWords.nd rfl (Or.inl rfl) (pe_ix ix_list (pe_fld (pv 0) rfl) (pe_fld (pv 0) rfl) (fun _ _ => rfl)))
      (pss_cons (ps_if (pt_not (pt_val (pe_m1 PySem.F.slot_str_startswith PySem.F.type_str_startswith mt_startswith (pv 3) (pv 2)))) (pss_one (ps_ret (pe_lst pa_nil))) pss_nil)
      (pss_cons (ps_set (i := 4) scWords.nd rfl (Or.inl rfl) (pe_split (pe_slice sl_str (pv 3) (po_some (pe_callB call_len_str (by rfl) T.len PySem.boot_len (pa_cons (pv 2) pa_nil))) po_none) pe_str))
      (pss_one (ps_ret (pe_ifExp (pt_cmpR op_in_seq pe_str (pv 4) rfl) (pe_lst pa_nil) (pv 4)))))))), ?_⟩
    have hlen : (rows.map V.str).length = rows.length := List.length_map ..
    refine ⟨_, rfl, p, C, dx, _, _, rfl, hp, T.cl, T.nA, lf_at _ _, _, rfl, p, C, dx, _, _, rfl, hp, T.cl, T.nR, lf_rows _ _, r, _, rfl, .inl (SqL.of hr'), rfl, _, rfl, ?_⟩
    refine ite2 (fun c => ?_) (fun c => ?_)
    · refine ⟨Nat.zero_le _, fun q hq => k _ q (Same.new hq) hq ?_⟩
      have e : n = rows.length := by
        have z := of_decide_eq_true c
        have z := V.int.inj z
        omega
      rw [upd_same]
      have e2 : wordsM rows n d = [] := by
        unfold wordsM
        rw [e, List.getElem?_eq_none (Nat.le_refl _)]
      rw [e2]
      rfl
    · have hlt : n < rows.length := by
        rcases Nat.lt_or_ge n rows.length with z | z
        · exact z
        · exact absurd (decide_eq_true (by rw [hlen, Nat.le_antisymm hn z])) c
      obtain ⟨row, hrow⟩ : ∃ row, rows[n]? = some row := ⟨_, List.getElem?_eq_getElem hlt⟩
      have hrv : (rows.map V.str)[n]? = some (V.str row) := by rw [List.getElem?_map, hrow]; rfl
      have hrl : row.length ≤ 1000000 := hs2 _ (List.mem_of_getElem? hrow)
      refine ⟨_, rfl, _, _, rfl, rfl, (by decide +kernel), by omega, by omega, ?_⟩
      refine ⟨_, rfl, p, C, dx, _, _, rfl, hp, T.cl, T.nR, lf_rows _ _, _, rfl, p, C, dx, _, _, rfl, hp, T.cl, T.nA, lf_at _ _, r, _, _, _, rfl, rfl, SqL.of hr', atI_nat hrv, ?_⟩
      refine ⟨_, rfl, ⟨_, rfl⟩, _, rfl, _, _, rfl, rfl, _, rfl, ?_⟩
      by_cases hsw : Txt.startswith row (leadM d) = true
      · rw [show Txt.startswith row (Txt.mul (Str.ofString "  ") ↑d) = true from hsw]
        refine iteF ?_
        have hleadL : (leadM d).length ≤ 1000 := by
          unfold leadM
          rw [show ((Txt.mul "  " (d : Int)).length) = 2 * d from by
            have e := PyProof.Rows.len_mul ("  " : Str) (d : Int)
            rw [if_neg (by simp), show (("  " : Str).length : Int) = 2 by decide +kernel] at e
            omega]
          omega
        have hsl : sizeLine = 16777216 := sizeLine_eq
        have hcl : (cutS row (some ((leadM d).length : Int)) none).length ≤ row.length := cutS_len _ _ _
        refine ⟨_, rfl, _, rfl, _, rfl, (by show (leadM d).length ≤ _; omega), _, rfl, _, rfl, (by omega), ⟨_, rfl⟩, _, _, rfl, rfl, by decide +kernel, (by show (cutS row (some ((leadM d).length : Int)) none).length + 2 ≤ _; omega), fun q hq => ?_⟩
        refine ⟨_, rfl, q, _, rfl, .inl (SqL.of upd_same), rfl, flat_strs _, _, rfl, ?_⟩
        have e2 : wordsM rows n d = if (Txt.split (cutS row (some ((leadM d).length : Int)) none) " ").contains "" = true then [] else Txt.split (cutS row (some ((leadM d).length : Int)) none) " " := by
          unfold wordsM
          rw [hrow]
          show (if _ then _ else _) = _
          rw [if_pos hsw]
        show (if (inV (V.str "") (List.map V.str (Txt.split (cutS row (some ((leadM d).length : Int)) none) " "))) = true then _ else _)
        rw [inV_strs]
        refine ite2 (fun c => ?_) (fun c => ?_)
        · refine ⟨Nat.zero_le _, fun q2 hq2 => k _ q2 ((Same.new hq).trans (Same.new hq2)) ((Same.new hq).free hq2) ?_⟩
          rw [upd_same, e2, if_pos c]
          rfl
        · refine ⟨_, rfl, k _ q (Same.new hq) hq ?_⟩
          rw [upd_same, e2, if_neg c]
          rfl
      · rw [show Txt.startswith row (Txt.mul (Str.ofString "  ") ↑d) = false from Bool.eq_false_iff.mpr hsw]
        refine iteT ?_
        refine ⟨Nat.zero_le _, fun q hq => k _ q (Same.new hq) hq ?_⟩
        rw [upd_same]
        have e2 : wordsM rows n d = [] := by
          unfold wordsM
          rw [hrow]
          show (if _ then _ else _) = _
          rw [if_neg hsw]
        rw [e2]
        rfl
/-! begins -/
theorem scBegins : FnScope ["self", "depth", "word"] ["self", "depth", "word"] (defScope sBegins) := ⟨rfl, rfl, rfl, by decide +kernel, rfl, by decide +kernel, by decide +kernel⟩
theorem ok_begins {f fW : Addr} {fd dW : FuncData} (F : Fun K "begins" "Lines.begins" sBegins f fd) (T : TL K mg C CB fB) (GW : FnOk P w K mg base CX0 1 fW dW ["self", "depth"] (spWords C)) (bW : Binds K dW ["self", "depth"] []) (mW : Meth K C "words" fW) :
    FnOk P w K mg base CX0 2 f fd ["self", "depth", "word"] (spBegins C) := by
  refine F.ok scBegins (fun vs H Q E h => ?_) (fun cdv A outer s H vs Q E hr h => ?_)
  · obtain ⟨p, rows, n, d, x, rfl, _⟩ := h
    rfl
  · obtain ⟨p, rows, n, d, x, rfl, hL, hd, hx, k⟩ := h
    have hr1 : Room 1 _ := hr.mono (by decide)
    obtain ⟨_, _, dx, r, hp, hr'⟩ := id hL
    refine ⟨_, pss_one (ps_ret (pe_cmpR (op_eqD hr.units) (pe_slice sl_list (pe_meth (pv 0) T.cl mW GW hr1 bW .nil pass0 (pa_cons (pv 1) pa_nil)) po_none (po_some pe_int)) (pe_lst (pa_cons (pv 2) pa_nil)) (nomark _))), ?_⟩
    refine ⟨_, rfl, p, dx, _, rfl, hp, lf_no _ _ (by decide +kernel) (by decide +kernel), _, rfl, p, rows, n, d, rfl, hL, hd, fun H1 q s1 hq1 hq => ?_⟩
    refine ⟨_, rfl, q, _, rfl, SqL.of hq, fun q2 hq2 => ?_⟩
    have s2 := Same.new (o := .lst (cutV ((wordsM rows n d).map V.str) none (some 1))) hq2
    refine ⟨_, rfl, (by show 1 ≤ sizeLine; decide), fun q3 hq3 => ?_⟩
    have s3 := Same.new (o := .lst [V.str x]) hq3
    have e1 : cutV ((wordsM rows n d).map V.str) none (some 1) = ((wordsM rows n d).take 1).map V.str := take1 _
    refine ⟨_, _, dp_strs (l := (wordsM rows n d).take 1) (SqL.of (by rw [← e1]; exact s3 _ _ upd_same)), dp_strs (l := [x]) (SqL.of upd_same), shaped_strs _ (fun y hy => (hL.1.word n d y (List.mem_of_mem_take hy)).1), shaped_strs _ (fun y hy => by rw [List.mem_singleton.mp hy]; exact hx), ?_⟩
    rw [eqv_strs, eq1]
    exact k _ (s1.trans (s2.trans s3))
theorem scStep : FnScope ["self"] ["self"] (defScope sStep) := ⟨rfl, rfl, rfl, by decide +kernel, rfl, by decide +kernel, by decide +kernel⟩
theorem ok_step {f : Addr} {fd : FuncData} (F : Fun K "step" "Lines.step" sStep f fd) (T : TL K mg C CB fB) : FnOk P w K mg base CX0 1 f fd ["self"] (spStep C) := by
  refine F.ok scStep (fun vs H Q E h => ?_) (fun cdv A outer s H vs Q E hr h => ?_)
  · obtain ⟨p, rows, n, rfl, _⟩ := h
    rfl
  · obtain ⟨p, rows, n, rfl, ⟨hs, hn, dx, r, hp, hr'⟩, hlt, k⟩ := h
    refine ⟨_, pss_one (ps_fldaug (pv 0) pe_int in_add), ?_⟩
    refine ⟨_, rfl, p, C, dx, _, _, rfl, hp, T.cl, T.nA, lf_at _ _, ?_⟩
    refine ⟨_, _, rfl, rfl, dx, _, hp, (by show 2 < 1000; decide), ?_⟩
    rw [show V.int ((n : Int) + 1) = V.int ((n + 1 : Nat) : Int) from rfl, lf_put]
    have hrp : r ≠ p := ne_of hr' hp (by intro z; cases z)
    refine k _ ⟨fun b o hb e => by rw [upd_ne hb]; exact e, fun C' dx' r2 n2 e => ⟨n + 1, ?_⟩⟩ ⟨hs, hlt, dx, r, upd_same, by rw [upd_ne hrp]; exact hr'⟩
    rw [hp] at e
    injection e with e
    injection e with e1 e2 e3
    subst e1 e2
    obtain ⟨rfl, _⟩ := lf_inj e3
    exact upd_same
theorem scNeed : FnScope ["self", "holds"] ["self", "holds"] (defScope sNeed) := ⟨rfl, rfl, rfl, by decide +kernel, rfl, by decide +kernel, by decide +kernel⟩
theorem ok_need {f : Addr} {fd : FuncData} (F : Fun K "need" "Lines.need" sNeed f fd) (T : TL K mg C CB fB) : FnOk P w K mg base (L2.CX P w) 3 f fd ["self", "holds"] (spNeed C CB) := by
  refine F.okX scNeed (fun vs H Q E h => ?_) (fun cdv A outer s H vs Q E hr h => ?_)
  · obtain ⟨p, rows, n, b, rfl, _⟩ := h
    rfl
  · obtain ⟨p, rows, n, b, rfl, ⟨hs, hn, dx, r, hp, hr'⟩, k1, k2⟩ := h
    refine ⟨_, pss_one (ps_if (pt_not (pt_val (pv 1))) (pss_one (ps_raiseLow rfl T.bad hr (takes_of rfl rfl rfl rfl) (pa_cons (pe_op op_add (pe_fld (pv 0) rfl) pe_int) pa_nil))) pss_nil), ?_⟩
    refine ⟨_, rfl, _, rfl, ?_⟩
    cases b with
    | true => exact iteF (k1 rfl)
    | false =>
      refine iteT ?_
      refine ⟨_, rfl, p, C, dx, _, _, rfl, hp, T.cl, T.nA, lf_at _ _, _, _, rfl, rfl, _, rfl, fun d hd => k2 rfl d hd⟩
end
end K6

/-! text L2x -/
set_option Elab.async false
set_option linter.all false
set_option maxRecDepth 100000
set_option maxHeartbeats 4000000
namespace L2
open PySem PySem.Spec PyProof.Rows
/-- names: the keys of a dict, or the items of a list, a tuple -/
def Nm (K : PySem.W.Frag) (H : Hp) (v : V) (ns : List Str) : Prop := ∃ a : Addr, v = .ref a ∧
  ((∃ kvs : List (Key × V), H a = some (.dK kvs) ∧ kvs.map (·.1) = ns.map Sum.inr) ∨ SqL K H a (ns.map V.str) ∨ SqT K H a (ns.map V.str))
theorem valV_names {x : Str} : ∀ {kvs : List (Key × V)} {ns : List Str}, kvs.map (·.1) = ns.map Sum.inr → (valV kvs (Sum.inr x : Key)).isSome = ns.contains x
  | [], [], _ => rfl
  | [], _ :: _, h => by cases h
  | _ :: _, [], h => by cases h
  | (k, v) :: r, n :: ns, h => by
    rw [List.map_cons, List.map_cons] at h
    obtain ⟨h1, h2⟩ := List.cons.inj h
    have ih := valV_names (x := x) h2
    have h1' : k = Sum.inr n := h1
    subst h1'
    unfold valV at ih ⊢
    rw [List.find?_cons, List.contains_cons]
    by_cases e : n = x
    · subst e
      simp
    · have e1 : decide ((Sum.inr n : Key) = Sum.inr x) = false := decide_eq_false (fun z => e (Sum.inr.inj z))
      have e2 : (x == n) = false := beq_eq_false_iff_ne.mpr (fun z => e z.symm)
      rw [e2, Bool.false_or, ← ih]
      simp only [e1]
theorem flatS (l : List Str) : (l.map V.str).all flatV = true := by
  rw [List.all_map]
  exact List.all_eq_true.mpr fun _ _ => rfl
theorem inVS (x : Str) (l : List Str) : inV (V.str x) (l.map V.str) = l.contains x := by
  unfold inV
  rw [List.any_map]
  induction l with
  | nil => rfl
  | cons a r ih =>
    rw [List.any_cons, ih, List.contains_cons]
    show ((a == x) || _) = ((x == a) || _)
    rw [BEq.comm]
def rInN (K : PySem.W.Frag) (neg : Bool) : R2 := fun x y H Q => ∃ (z : Str) (ns : List Str), x = .str z ∧ Nm K H y ns ∧ Q (.bl (if neg then !ns.contains z else ns.contains z)) H
theorem op_inN {X : Cx} (hu : X.A.units + 1 < cLine) : OpR X (compareOp .In) (rInN X.K false) := by
  intro pins s σ H x y v u Q I rx ry h
  obtain ⟨z, ns, rfl, ⟨a, rfl, h⟩, q⟩ := h
  rcases h with ⟨kvs, hk, e⟩ | h | h
  · obtain rfl : u = Value.ref a := ry
    refine d_in hu I (DGet.k (k := Sum.inr z) hk) rx fun s3 I3 => ⟨.bl (valV kvs (Sum.inr z : Key)).isSome, H, I3, rfl, ?_⟩
    rw [valV_names e]
    exact q
  · refine op_in_seq pins s σ H (.str z) (.ref a) v u Q I rx ry ⟨a, _, rfl, .inl h, rfl, flatS _, ?_⟩
    rw [inVS]
    exact q
  · refine op_in_seq pins s σ H (.str z) (.ref a) v u Q I rx ry ⟨a, _, rfl, .inr h, rfl, flatS _, ?_⟩
    rw [inVS]
    exact q
theorem op_notInN {X : Cx} (hu : X.A.units + 1 < cLine) : OpR X (compareOp .NotIn) (rInN X.K true) := by
  intro pins s σ H x y v u Q I rx ry h
  obtain ⟨z, ns, rfl, ⟨a, rfl, h⟩, q⟩ := h
  rcases h with ⟨kvs, hk, e⟩ | h | h
  · obtain rfl : u = Value.ref a := ry
    refine d_notIn hu I (DGet.k (k := Sum.inr z) hk) rx fun s3 I3 => ⟨.bl (!(valV kvs (Sum.inr z : Key)).isSome), H, I3, rfl, ?_⟩
    rw [valV_names e]
    exact q
  · refine op_notIn_seq pins s σ H (.str z) (.ref a) v u Q I rx ry ⟨a, _, rfl, .inl h, rfl, flatS _, ?_⟩
    rw [inVS]
    exact q
  · refine op_notIn_seq pins s σ H (.str z) (.ref a) v u Q I rx ry ⟨a, _, rfl, .inr h, rfl, flatS _, ?_⟩
    rw [inVS]
    exact q
/-- a comprehension over a text -/
theorem lc_str {x : Str} {g : TG} {tt : TT} {te : TE} {vs : List Nat} {σ : St} {H1 : Hp} {D : Addr} {Qd : Hp → Prop} (Pv : Nat → Hp → Prop) (h0 : Pv 0 (upd H1 D (.lst [])))
    (hs : ∀ i c H, x.cps[i]? = some c → Pv i H → g (.str ⟨#[c]⟩) (wipe σ vs) H fun σ2 H2 => wipe σ2 vs = wipe σ vs ∧ tt σ2 H2 fun b H3 =>
      if b = true then te σ2 H3 fun y H4 => ∃ acc, H4 D = some (.lst acc) ∧ acc.length < sizeLine ∧ Pv (i + 1) (upd H4 D (.lst (acc ++ [y]))) else Pv (i + 1) H3) (hd : ∀ H, Pv x.cps.size H → Qd H) :
    ∃ W : Nat → Nat → Hp → Prop, (∃ m, W 0 m (upd H1 D (.lst []))) ∧ ∀ i m H, W i m H →
      ((Its x).stop i H ∧ Qd H) ∨ ((Its x).go i H ∧ ∃ Nx : Hp → Prop, (∀ H', Nx H' → ∃ m', m' < m ∧ W (i + 1) m' H') ∧ ∀ y H', (Its x).yld i H y H' → g y (wipe σ vs) H' fun σ2 H2 => wipe σ2 vs = wipe σ vs ∧ tt σ2 H2 fun b H3 =>
        if b = true then te σ2 H3 fun y H4 => ∃ acc, H4 D = some (.lst acc) ∧ acc.length < sizeLine ∧ Nx (upd H4 D (.lst (acc ++ [y]))) else Nx H3) := by
  refine ⟨fun i m H => m = x.cps.size - i ∧ i ≤ x.cps.size ∧ Pv i H, ⟨x.cps.size, by simp, Nat.zero_le _, h0⟩, ?_⟩
  rintro i m H ⟨rfl, hi, p⟩
  by_cases hlt : i < x.cps.size
  · refine .inr ⟨hlt, Pv (i + 1), fun H' p' => ⟨x.cps.size - (i + 1), by omega, rfl, hlt, p'⟩, fun y H' hy => ?_⟩
    obtain ⟨e, c, ec, ey⟩ := hy
    subst e
    subst ey
    exact hs i c _ ec p
  · have e : i = x.cps.size := by omega
    subst e
    exact .inl ⟨Nat.le_refl _, hd H p⟩
end L2
namespace K6
open PySem PySem.Spec PyProof.Rows L2
abbrev sIsName : Stmt := top 7
abbrev sReadWorth : Stmt := top 8
abbrev sReadNewName : Stmt := top 9
abbrev sReadValue : Stmt := top 23
/-! ### the mirror -/
def LETTERS : Str := "abcdefghijklmnopqrstuvwxyz"
def DIGITS : Str := "0123456789"
def isNameM (x : Str) : Bool := (decide (1 ≤ x.length) && decide (x.length ≤ 8)) && !(["it", "asked"] : List Str).contains x && x.cps.toList.all fun c => decide (c ∈ LETTERS.cps.toList)
abbrev Rd' (α : Type) := Except Nat (α × Nat)
def needM (b : Bool) (n : Nat) : Rd' Unit := if b then .ok ((), n) else .error (n + 1)
def digitM (x : Str) (worths : Nat) : Bool := decide (x.length = 1) && decide (x.cps.getD 0 0 ∈ (DIGITS.cps.toList.take worths))
structure TN (K : PySem.W.Frag) (mg : Str → Option Value) : Prop where
  len : mg "len" = none
  all : mg "all" = none
  int : mg "int" = none
  gL : ∃ t, mg "LETTERS" = some (.str LETTERS t)
  gD : ∃ t, mg "DIGITS" = some (.str DIGITS t)
section
variable {P : Program} {w : World} {K : PySem.W.Frag} {mg : Str → Option Value} {base : Heap} {C CB fB : Addr}
def spIsName : Sp := fun vs H Q _ => ∃ x : Str, vs = [.str x] ∧ x.length ≤ 1000000 ∧ ∀ H', Same H H' → Q (.bl (isNameM x)) H'
theorem scIsName : FnScope ["word", "letter"] ["word"] (defScope sIsName) := ⟨rfl, rfl, rfl, by decide +kernel, rfl, by decide +kernel, by decide +kernel⟩
theorem ok_is_name {f : Addr} {fd : FuncData} (F : Fun K "is_name" "is_name" sIsName f fd) (T : TN K mg) : FnOk P w K mg base CX0 1 f fd ["word"] spIsName := by
  refine F.ok scIsName (fun vs H Q E h => ?_) (fun cdv A outer s H vs Q E hr h => ?_)
  · obtain ⟨x, rfl, _⟩ := h
    rfl
  · obtain ⟨x, rfl, hx, k⟩ := h
    obtain ⟨tL, gL⟩ := T.gL
    refine ⟨_, pss_cons (ps_if (PW.pt (pw_or (pt_not (pt_chain op_le op_le pe_int (pe_callB call_len_str (by rfl) T.len PySem.boot_len (pa_cons (pv 0) pa_nil)) pe_int)) (pw_or1 (pt_cmpR (op_inN (hu_of hr)) (pv 0) (pe_tup (pa_cons pe_str (pa_cons pe_str pa_nil))) rfl)))) (pss_one (ps_ret pe_bl)) pss_nil)
      (pss_one (ps_ret (pe_callB (cr_all rfl) (by rfl) T.all (by decide +kernel) (pa_cons (pe_lc (own := [("letter", 1)]) (g := gName 1) (tt := tYes) rfl scIsName.nd (pi_str (pv 0)) (blkOk_by (own := [("letter", 1)]) (N := ["word", "letter"]) (sc := defScope sIsName) (by decide +kernel)) (fun _ _ _ _ _ => pg_name (i := 1) scIsName.nd rfl (Or.inl rfl)) (fun _ _ _ _ _ => pts_nil)
        (fun _ _ _ _ _ => pe_cmpR op_in_sign (pv 1) (pe_glob (v := .str LETTERS) rfl gL ⟨_, rfl⟩) rfl)) pa_nil)))), ?_⟩
    have hsl := sizeLine_eq
    have no : ∀ {H' : Hp}, Same H H' → isNameM x = false → Q (.bl false) H' := fun s1 e => by
      rw [← e]
      exact k _ s1
    refine ⟨_, rfl, _, rfl, (by omega), _, _, rfl, rfl, _, rfl, ?_⟩
    refine ite2 (fun c1 => ?_) (fun c1 => ?_)
    · refine ⟨_, _, rfl, rfl, _, rfl, ?_⟩
      refine ite2 (fun c2 => ?_) (fun c2 => ?_)
      · refine iteT (no (Same.refl H) ?_)
        unfold isNameM
        have z : ¬ x.length ≤ 8 := fun z => by
          rw [decide_eq_true (show (x.length : Int) ≤ 8 by omega)] at c2
          cases c2
        rw [decide_eq_false z]
        simp
      · refine ⟨_, rfl, (by show 2 ≤ sizeLine; omega), fun t ht => ?_⟩
        refine ⟨x, ["it", "asked"], rfl, ⟨t, rfl, .inr (.inr (SqT.of upd_same))⟩, _, rfl, ?_⟩
        have c3 : x.length ≤ 8 := by
          rcases Nat.lt_or_ge 8 x.length with z | z
          · exact absurd (by rw [decide_eq_false (show ¬ (x.length : Int) ≤ 8 by omega)]; rfl) c2
          · exact z
        have c4 : 1 ≤ x.length := by
          have z := of_decide_eq_true c1
          omega
        have st := Same.new (o := .tup [V.str "it", V.str "asked"]) ht
        refine ite2 (fun c5 => ?_) (fun c5 => ?_)
        · refine no st ?_
          unfold isNameM
          have z : (["it", "asked"] : List Str).contains x = true := c5
          rw [z]
          simp
        · have z : (["it", "asked"] : List Str).contains x = false := by
            cases e : (["it", "asked"] : List Str).contains x with
            | false => rfl
            | true => exact absurd e c5
          have ev : isNameM x = x.cps.toList.all fun c => decide (c ∈ LETTERS.cps.toList) := by
            unfold isNameM
            rw [decide_eq_true c3, decide_eq_true c4, z]
            rfl
          refine ⟨_, rfl, _, rfl, fun D hD => ?_⟩
          refine lc_str (fun i H' => Same H H' ∧ H' D = some (.lst ((x.cps.toList.take i).map fun c => V.bl (decide (c ∈ LETTERS.cps.toList))))) ⟨st.trans (Same.new hD), upd_same⟩ ?_ ?_
          · rintro i c H' hc ⟨s1, h1⟩
            have hlt : i < x.cps.size := (Array.getElem?_eq_some_iff.mp hc).1
            have hxl : x.cps.size ≤ 1000000 := hx
            refine ⟨rfl, ?_⟩
            refine ⟨_, rfl, c, LETTERS, rfl, rfl, _, h1, (by rw [List.length_map, List.length_take, Array.length_toList]; omega), ?_⟩
            refine ⟨fun b o e => ?_, ?_⟩
            · rw [upd_ne (fun z => by
                rw [z] at e
                rw [(st.free hD)] at e
                cases e)]
              exact s1 b o e
            · rw [upd_same, List.take_add_one, List.map_append]
              rw [show x.cps.toList[i]? = some c from by rw [Array.getElem?_toList]; exact hc]
              rfl
          · rintro H' ⟨s1, h1⟩
            refine ⟨D, x.cps.toList.map fun c => decide (c ∈ LETTERS.cps.toList), rfl, SqL.of ?_, ?_⟩
            · rw [h1, List.map_map, ← Array.length_toList, List.take_length]
              rfl
            · rw [List.all_map]
              have e2 : (x.cps.toList.all (id ∘ fun c => decide (c ∈ LETTERS.cps.toList))) = isNameM x := by
                rw [ev]
                rfl
              rw [e2]
              exact k _ s1
    · refine ⟨_, rfl, iteT (iteT (no (Same.refl H) ?_))⟩
      unfold isNameM
      have z : ¬ 1 ≤ x.length := fun z => by
        rw [decide_eq_true (show (1 : Int) ≤ (x.length : Int) by omega)] at c1
        exact c1 rfl
      rw [decide_eq_false z]
      simp
end
end K6

/-! text L3x -/
set_option Elab.async false
set_option linter.all false
set_option maxRecDepth 100000
set_option maxHeartbeats 4000000
namespace K6
open PySem PySem.Spec PyProof.Rows L2
/-- what a reader of lines promises -/
def Outs {α : Type} (C CB p : Addr) (rows : List Str) (H : Hp) (Q : VK) (E : XK) (m : Except Nat (α × Nat)) (Rep : α → V → Hp → Prop) : Prop :=
  match m with
  | .ok r => ∀ H' v, Kp p H H' → Lns C H' p rows r.2 → Rep r.1 v H' → Q v H'
  | .error l => l ≠ 0 ∧ ∀ H' d, Kp p H H' → H' d = some (.xd [(("line" : Str), V.int (l : Nat))]) → E (.ref CB) (some d) H'
section
variable (P : Program) (w : World) (K : PySem.W.Frag) (mg : Str → Option Value) (base : Heap)
/-- a def of the module, a method -/
def FnAt (CX : CXT) (k : Nat) (x : Str) (ps : List Str) (sp : Sp) : Prop := ∃ f fd, mg x = some (.ref f) ∧ PySem.W.keepIn K (.ref f) = true ∧ Binds K fd ps [] ∧ FnOk P w K mg base CX k f fd ps sp
def MeAt (CX : CXT) (C : Addr) (k : Nat) (x : Str) (ps : List Str) (sp : Sp) : Prop := ∃ f fd, Meth K C x f ∧ Binds K fd ps [] ∧ FnOk P w K mg base CX k f fd ps sp
/-- Lines, by its methods -/
structure LX (C CB : Addr) : Prop where
  cl : Cls K C
  nR : NoAttr K C "rows"
  nA : NoAttr K C "at"
  words : MeAt P w K mg base CX0 C 1 "words" ["self", "depth"] (spWords C)
  begins : MeAt P w K mg base CX0 C 2 "begins" ["self", "depth", "word"] (spBegins C)
  step : MeAt P w K mg base CX0 C 1 "step" ["self"] (spStep C)
  need : MeAt P w K mg base (L2.CX P w) C 3 "need" ["self", "holds"] (spNeed C CB)
end
/-! ### the readings of the calls of Lines' methods: what they come to -/
theorem pas {X : Cx} {E : XK} (tk : Takes X fun cls d _ H => E cls d H) : Passes (L2.CX X.prog X.w) X E := passes_call tk fun _ _ _ _ h => h
section
variable {P : Program} {w : World} {K : PySem.W.Frag} {mg : Str → Option Value} {base : Heap} {C CB fB : Addr}
/-- need, by a test that is known -/
theorem need_of {p : Addr} {rows : List Str} {n : Nat} {b : Bool} {H H0 : Hp} {Q : VK} {E : XK} {α : Type} (hL : Lns C H p rows n) (hK : Kp p H0 H) (m : Except Nat (α × Nat)) {Q' : VK} {Rep : α → V → Hp → Prop}
    (ho : Outs C CB p rows H0 Q' E m Rep) (hm : b = false → m = .error (n + 1)) (hq : b = true → Q .non H) : spNeed C CB [.ref p, .bl b] H Q E := by
  refine ⟨p, rows, n, b, rfl, hL, hq, fun hb d hd => ?_⟩
  rw [hm hb] at ho
  exact ho.2 _ _ (hK.trans (Kp.of (Same.new hd))) upd_same
theorem one_sign {x : Str} (h : x.length = 1) : ∃ c, x = ⟨#[c]⟩ := by
  obtain ⟨a⟩ := x
  have h' : a.size = 1 := h
  refine ⟨a[0], ?_⟩
  congr 1
  refine Array.ext h' fun i h1 h2 => ?_
  have e : i = 0 := by
    have z : i < 1 := by rw [← h']; exact h1
    omega
  subst e
  rfl
theorem digit_int : ∀ c ∈ DIGITS.cps.toList, PySem.intText? ⟨#[c]⟩ = some ((c - 48 : Nat) : Int) := by decide +kernel
/-! read_worth -/
def readWorthM (x : Str) (worths n : Nat) : Rd' Nat := if digitM x worths = true then .ok (x.cps.getD 0 0 - 48, n) else .error (n + 1)
def spReadWorth (C CB : Addr) : Sp := fun vs H Q E => ∃ (p : Addr) (rows : List Str) (n N : Nat) (x : Str), vs = [.ref p, .str x, .int N] ∧ Lns C H p rows n ∧ x.length ≤ 1000000 ∧ N ≤ 10 ∧
  Outs C CB p rows H Q E (readWorthM x N n) fun z v _ => v = .int z
theorem scReadWorth : FnScope ["lines", "word", "worths"] ["lines", "word", "worths"] (defScope sReadWorth) := ⟨rfl, rfl, rfl, by decide +kernel, rfl, by decide +kernel, by decide +kernel⟩
theorem ok_read_worth {f : Addr} {fd : FuncData} (F : Fun K "read_worth" "read_worth" sReadWorth f fd) (T : TN K mg) (L : LX P w K mg base C CB) : FnOk P w K mg base (L2.CX P w) 4 f fd ["lines", "word", "worths"] (spReadWorth C CB) := by
  refine F.okX scReadWorth (fun vs H Q E h => ?_) (fun cdv A outer s H vs Q E hr h => ?_)
  · obtain ⟨p, rows, n, N, x, rfl, _⟩ := h
    rfl
  · obtain ⟨p, rows, n, N, x, rfl, hL, hx, hN, k⟩ := h
    obtain ⟨tD, gD⟩ := T.gD
    obtain ⟨fN, dN, mN, bN, GN⟩ := L.need
    refine ⟨_, pss_cons (ps_expr (pe_meth (pv 0) L.cl mN GN hr bN .nil (pas (takes_of rfl rfl rfl rfl)) (pa_cons (pe_and (pe_cmpR op_eq (pe_callB call_len_str (by rfl) T.len PySem.boot_len (pa_cons (pv 1) pa_nil)) pe_int (nomark _))
        (pe_one (pe_cmpR op_in_sign (pv 1) (pe_slice sl_str (pe_glob (v := .str DIGITS) rfl gD ⟨_, rfl⟩) po_none (po_some (pv 2))) rfl))) pa_nil)))
      (pss_one (ps_ret (pe_callTy call_int_str (by rfl) T.int (by decide +kernel) (pa_cons (pv 1) pa_nil)))), ?_⟩
    obtain ⟨_, _, dx, r, hp, hr'⟩ := id hL
    have hsl := sizeLine_eq
    refine ⟨_, rfl, p, dx, _, rfl, hp, lf_no _ _ (by decide +kernel) (by decide +kernel), ?_⟩
    refine ⟨_, rfl, _, rfl, (by omega), rfl, _, rfl, ?_⟩
    by_cases c1 : x.length = 1
    · rw [show decide (V.int (x.length : Int) = V.int 1) = true from decide_eq_true (by rw [c1]; rfl)]
      refine iteT ?_
      obtain ⟨c, rfl⟩ := one_sign c1
      refine ⟨_, rfl, _, rfl, _, rfl, _, rfl, (by decide +kernel), c, _, rfl, rfl, ?_⟩
      have ec : (cutS DIGITS none (some (N : Int))).cps.toList = DIGITS.cps.toList.take N := by
        show ((DIGITS.cps.toList.drop _).take _).toArray.toList = _
        rw [HT.sIx_none, HT.sIx_nat]
        have e10 : DIGITS.length = 10 := by decide +kernel
        rw [e10, Nat.min_eq_left hN]
        rfl
      have ed : digitM ⟨#[c]⟩ N = decide (c ∈ DIGITS.cps.toList.take N) := by
        unfold digitM
        rw [decide_eq_true c1]
        rfl
      rw [ec, ← ed]
      show spNeed C CB [V.ref p, V.bl _] H (fun _ _ => _) _
      refine need_of hL (Kp.refl p H) _ k (fun e => ?_) (fun e => ?_)
      · unfold readWorthM
        rw [e]
        rfl
      · unfold readWorthM at k
        rw [if_pos e] at k
        rw [ed] at e
        have hc : c ∈ DIGITS.cps.toList := List.mem_of_mem_take (of_decide_eq_true e)
        refine ⟨_, rfl, _, ((c - 48 : Nat) : Int), rfl, digit_int c hc, (by rw [c1]; decide), k _ _ (Kp.refl p H) hL rfl⟩
    · rw [show decide (V.int (x.length : Int) = V.int 1) = false from decide_eq_false (fun z => c1 (by have z := V.int.inj z; omega))]
      refine iteF ?_
      show spNeed C CB [V.ref p, V.bl _] H (fun _ _ => _) _
      refine need_of (b := false) hL (Kp.refl p H) _ k (fun e => ?_) (fun e => by cases e)
      unfold readWorthM digitM
      rw [decide_eq_false c1]
      rfl
end
end K6

/-! text L4x -/
set_option Elab.async false
set_option linter.all false
set_option maxRecDepth 100000
set_option maxHeartbeats 4000000
namespace K6
open PySem PySem.Spec PyProof.Rows L2
/-! ### lookups -/
theorem lk_hd (k : Str) (v : V) (r : List (Str × V)) : List.lookup k ((k, v) :: r) = some v := by simp [List.lookup]
theorem lk_tl {k a : Str} {v : V} {r : List (Str × V)} {o : Option V} (h : ¬ k = a) (h2 : List.lookup k r = o) : List.lookup k ((a, v) :: r) = o := by
  have e : (k == a) = false := beq_eq_false_iff_ne.mpr h
  simp only [List.lookup, e]
  exact h2
theorem lk_nil (k : Str) : List.lookup k ([] : List (Str × V)) = none := rfl
theorem putF_nil (f : Str) (v : V) : putF f v [] = [(f, v)] := rfl
theorem putF_hd (f : Str) (v x : V) (r : List (Str × V)) : putF f v ((f, x) :: r) = (f, v) :: r := by
  show (if f = f then _ else _) = _
  rw [if_pos rfl]
theorem putF_tl {f g : Str} {v x : V} {r r' : List (Str × V)} (h : ¬ g = f) (h2 : putF f v r = r') : putF f v ((g, x) :: r) = (g, x) :: r' := by
  show (if g = f then _ else _) = _
  rw [if_neg h, h2]
local macro_rules | `(tactic| walk_at "lk") => `(tactic| (repeat (first | with_reducible exact lk_hd _ _ _ | with_reducible exact lk_nil _ | refine lk_tl (by decide +kernel) ?_)))
/-! ### Scope -/
structure ScM where
  worths : Nat
  cells : List Str
  known : List Str
  asks : List Str
  inHouse : Bool
  lets : List Str
  most : Nat
def scf (sc : ScM) (vc vk va vl : V) : List (Str × V) := [("worths", .int sc.worths), ("cells", vc), ("known", vk), ("asks", va), ("in_house", .bl sc.inHouse), ("lets", vl), ("most", .int sc.most)]
structure Sc (K : PySem.W.Frag) (CS : Addr) (H : Hp) (q : Addr) (sc : ScM) : Prop where
  ex : ∃ dx vc vk va vl, H q = some (.ins CS dx (scf sc vc vk va vl)) ∧ Nm K H vc sc.cells ∧ Nm K H vk sc.known ∧ Nm K H va sc.asks ∧ Nm K H vl sc.lets
  few : sc.worths ≤ 4
structure SX (K : PySem.W.Frag) (CS : Addr) : Prop where
  cl : Cls K CS
  n1 : NoAttr K CS "worths"
  n2 : NoAttr K CS "cells"
  n3 : NoAttr K CS "known"
  n4 : NoAttr K CS "asks"
  n5 : NoAttr K CS "in_house"
  n6 : NoAttr K CS "lets"
  n7 : NoAttr K CS "most"
theorem Lns.ne {C CS p q : Addr} {H : Hp} {rows : List Str} {n : Nat} {K : PySem.W.Frag} {sc : ScM} (h : Lns C H p rows n) (g : Sc K CS H q sc) : q ≠ p := fun z => by
  obtain ⟨_, _, dx, r, h1, _⟩ := h
  obtain ⟨dx', vc, vk, va, vl, h2, _⟩ := g.ex
  rw [z, h1] at h2
  have e := Option.some.inj h2
  injection e with _ _ e3
  have e4 := congrArg List.length e3
  cases e4
/-- a container is no instance -/
theorem nm_kp {K : PySem.W.Frag} {C p : Addr} {H H' : Hp} {rows : List Str} {n : Nat} {v : V} {ns : List Str} (hL : Lns C H p rows n) (k : Kp p H H') (h : Nm K H v ns) : Nm K H' v ns := by
  obtain ⟨_, _, dx, r, h1, _⟩ := hL
  obtain ⟨a, e, h⟩ := h
  refine ⟨a, e, ?_⟩
  have ne : ∀ {o : HO}, (∀ C dx fs, o ≠ .ins C dx fs) → H a = some o → a ≠ p := fun hn ha z => by
    rw [z, h1] at ha
    exact hn _ _ _ (Option.some.inj ha).symm
  rcases h with ⟨kvs, h, e2⟩ | (h | h) | (h | h)
  · exact .inl ⟨kvs, k.ne _ _ (ne (by intro _ _ _ z; cases z) h) h, e2⟩
  · refine .inr (.inl (.inl ?_))
    rcases h with h | ⟨o, h⟩
    · exact .inl (k.ne _ _ (ne (by intro _ _ _ z; cases z) h) h)
    · exact .inr ⟨o, k.ne _ _ (ne (by intro _ _ _ z; cases z) h) h⟩
  · exact .inr (.inl (.inr h))
  · refine .inr (.inr (.inl ?_))
    rcases h with h | ⟨o, h⟩
    · exact .inl (k.ne _ _ (ne (by intro _ _ _ z; cases z) h) h)
    · exact .inr ⟨o, k.ne _ _ (ne (by intro _ _ _ z; cases z) h) h⟩
  · exact .inr (.inr (.inr h))
theorem Sc.kp {K : PySem.W.Frag} {C CS p q : Addr} {H H' : Hp} {rows : List Str} {n : Nat} {sc : ScM} (hL : Lns C H p rows n) (k : Kp p H H') (g : Sc K CS H q sc) : Sc K CS H' q sc := by
  have hne := hL.ne g
  obtain ⟨dx', vc, vk, va, vl, h2, a1, a2, a3, a4⟩ := g.ex
  exact ⟨⟨dx', vc, vk, va, vl, k.ne _ _ hne h2, nm_kp hL k a1, nm_kp hL k a2, nm_kp hL k a3, nm_kp hL k a4⟩, g.few⟩
section
variable {P : Program} {w : World} {K : PySem.W.Frag} {mg : Str → Option Value} {base : Heap} {C CB CS fB : Addr}
/-! read_new_name -/
def newNameM (x : Str) (ns : List Str) (n : Nat) : Rd' Str := if (isNameM x && !ns.contains x) = true then .ok (x, n) else .error (n + 1)
def spReadNewName (K : PySem.W.Frag) (C CB : Addr) : Sp := fun vs H Q E => ∃ (p : Addr) (rows : List Str) (n : Nat) (x : Str) (tk : V) (ns : List Str), vs = [.ref p, .str x, tk] ∧ Lns C H p rows n ∧ x.length ≤ 1000000 ∧ Nm K H tk ns ∧
  Outs C CB p rows H Q E (newNameM x ns n) fun z v _ => v = .str z
theorem scReadNewName : FnScope ["lines", "word", "taken"] ["lines", "word", "taken"] (defScope sReadNewName) := ⟨rfl, rfl, rfl, by decide +kernel, rfl, by decide +kernel, by decide +kernel⟩
theorem ok_read_new_name {f : Addr} {fd : FuncData} (F : Fun K "read_new_name" "read_new_name" sReadNewName f fd) (L : LX P w K mg base C CB) (I : FnAt P w K mg base CX0 1 "is_name" ["word"] spIsName) : FnOk P w K mg base (L2.CX P w) 4 f fd ["lines", "word", "taken"] (spReadNewName K C CB) := by
  refine F.okX scReadNewName (fun vs H Q E h => ?_) (fun cdv A outer s H vs Q E hr h => ?_)
  · obtain ⟨p, rows, n, x, tk, ns, rfl, _⟩ := h
    rfl
  · obtain ⟨p, rows, n, x, tk, ns, rfl, hL, hx, hN, k⟩ := h
    obtain ⟨fN, dN, mN, bN, GN⟩ := L.need
    obtain ⟨fI, dI, mI, kI, bI, GI⟩ := I
    refine ⟨_, pss_cons (ps_expr (pe_meth (pv 0) L.cl mN GN hr bN .nil (pas (takes_of rfl rfl rfl rfl)) (pa_cons (pe_and (pe_call GI (hr.mono (by decide)) rfl mI kI bI .nil pass0 (pa_cons (pv 1) pa_nil))
        (pe_one (pe_cmpR (op_notInN (hu_of hr)) (pv 1) (pv 2) rfl))) pa_nil)))
      (pss_one (ps_ret (pv 1))), ?_⟩
    obtain ⟨_, _, dx, r, hp, hr'⟩ := id hL
    refine ⟨_, rfl, p, dx, _, rfl, hp, lf_no _ _ (by decide +kernel) (by decide +kernel), _, rfl, x, rfl, hx, fun H1 s1 => ⟨_, rfl, ?_⟩⟩
    have hL1 := hL.same s1
    cases e1 : isNameM x with
    | true =>
      refine iteT ⟨_, rfl, _, rfl, x, ns, rfl, nm_kp hL (Kp.of s1) hN, ?_⟩
      show spNeed C CB [V.ref p, V.bl _] H1 (fun _ _ => _) _
      refine need_of (b := !ns.contains x) hL1 (Kp.of s1) _ k (fun e => ?_) (fun e => ?_)
      · unfold newNameM
        rw [e1, e]
        rfl
      · unfold newNameM at k
        rw [e1, e] at k
        exact ⟨_, rfl, k _ _ (Kp.of s1) hL1 rfl⟩
    | false =>
      refine iteF ?_
      show spNeed C CB [V.ref p, V.bl _] H1 (fun _ _ => _) _
      refine need_of (b := false) hL1 (Kp.of s1) _ k (fun e => ?_) (fun e => by cases e)
      unfold newNameM
      rw [e1]
      rfl
/-! read_value -/
def valueM (sc : ScM) (x : Str) (n : Nat) : Rd' Unit := if (sc.known.contains x || sc.cells.contains x) = true then .ok ((), n) else if digitM x sc.worths = true then .ok ((), n) else .error (n + 1)
def spReadValue (K : PySem.W.Frag) (C CB CS : Addr) : Sp := fun vs H Q E => ∃ (p q : Addr) (rows : List Str) (n : Nat) (sc : ScM) (x : Str), vs = [.ref p, .ref q, .str x] ∧ Lns C H p rows n ∧ Sc K CS H q sc ∧ x.length ≤ 1000000 ∧
  Outs C CB p rows H Q E (valueM sc x n) fun _ _ _ => True
theorem scReadValue : FnScope ["lines", "scope", "word"] ["lines", "scope", "word"] (defScope sReadValue) := ⟨rfl, rfl, rfl, by decide +kernel, rfl, by decide +kernel, by decide +kernel⟩
theorem ok_read_value {f : Addr} {fd : FuncData} (F : Fun K "read_value" "read_value" sReadValue f fd) (S : SX K CS) (W : FnAt P w K mg base (L2.CX P w) 4 "read_worth" ["lines", "word", "worths"] (spReadWorth C CB)) : FnOk P w K mg base (L2.CX P w) 5 f fd ["lines", "scope", "word"] (spReadValue K C CB CS) := by
  refine F.okX scReadValue (fun vs H Q E h => ?_) (fun cdv A outer s H vs Q E hr h => ?_)
  · obtain ⟨p, q, rows, n, sc, x, rfl, _⟩ := h
    rfl
  · obtain ⟨p, q, rows, n, sc, x, rfl, hL, hS, hx, k⟩ := h
    obtain ⟨fW, dW, mW, kW, bW, GW⟩ := W
    refine ⟨_, pss_cons (ps_if (PW.pt (pw_or (pt_cmpR (op_inN (hu_of hr)) (pv 2) (pe_fld (pv 1) rfl) rfl) (pw_or1 (pt_cmpR (op_inN (hu_of hr)) (pv 2) (pe_fld (pv 1) rfl) rfl)))) (pss_one (ps_ret (pv 2))) pss_nil)
      (pss_one (ps_ret (pe_call GW hr rfl mW kW bW .nil (pas (takes_of rfl rfl rfl rfl)) (pa_cons (pv 0) (pa_cons (pv 2) (pa_cons (pe_fld (pv 1) rfl) pa_nil)))))), ?_⟩
    obtain ⟨dx, vc, vk, va, vl, hq, a1, a2, a3, a4⟩ := hS.ex
    have few := hS.few
    unfold valueM at k
    refine ⟨_, rfl, _, rfl, q, CS, dx, _, _, rfl, hq, S.cl, S.n3, (by unfold scf; walk_at "lk"), x, _, rfl, a2, _, rfl, ?_⟩
    refine ite2 (fun c1 => ?_) (fun c1 => ?_)
    · refine iteT ⟨_, rfl, ?_⟩
      have z : sc.known.contains x = true := c1
      rw [z] at k
      exact k _ _ (Kp.refl p H) hL trivial
    · have z : sc.known.contains x = false := Bool.eq_false_iff.mpr c1
      rw [z] at k
      refine ⟨_, rfl, _, rfl, q, CS, dx, _, _, rfl, hq, S.cl, S.n2, (by unfold scf; walk_at "lk"), x, _, rfl, a1, _, rfl, ?_⟩
      refine ite2 (fun c2 => ?_) (fun c2 => ?_)
      · refine ⟨_, rfl, ?_⟩
        have z2 : sc.cells.contains x = true := c2
        rw [z2] at k
        exact k _ _ (Kp.refl p H) hL trivial
      · have z2 : sc.cells.contains x = false := Bool.eq_false_iff.mpr c2
        rw [z2] at k
        refine ⟨_, rfl, _, rfl, _, rfl, q, CS, dx, _, _, rfl, hq, S.cl, S.n1, (by unfold scf; walk_at "lk"), ?_⟩
        refine ⟨p, rows, n, sc.worths, x, rfl, hL, hx, by omega, ?_⟩
        unfold readWorthM
        by_cases c3 : digitM x sc.worths = true
        · rw [if_pos c3]
          rw [if_neg (by decide), if_pos c3] at k
          exact fun H' v k1 l1 _ => k H' v k1 l1 trivial
        · rw [if_neg c3]
          rw [if_neg (by decide), if_neg c3] at k
          exact k
end
end K6

/-! text L5x -/
set_option Elab.async false
set_option linter.all false
set_option maxRecDepth 100000
set_option maxHeartbeats 4000000
namespace K6
open PySem PySem.Spec PyProof.Rows L2
local macro_rules | `(tactic| walk_at "lk") => `(tactic| (repeat (first | with_reducible exact lk_hd _ _ _ | with_reducible exact lk_nil _ | refine lk_tl (by decide +kernel) ?_)))
abbrev sReadWrite : Stmt := top 18
abbrev sReadEnding : Stmt := top 19
abbrev sReadAsk : Stmt := top 20
abbrev sReadGuess : Stmt := top 21
abbrev sReadShort : Stmt := top 22
structure Wds (ws : List Str) : Prop where
  len : ws.length ≤ 1000000
  word : ∀ x ∈ ws, PyData.strOk x = true ∧ x.length ≤ 1000000
theorem dlen (ws : List Str) (k : Nat) : decide (V.int (((ws.map V.str).length : Nat) : Int) = V.int ((k : Nat) : Int)) = decide (ws.length = k) := by
  rw [List.length_map]
  by_cases h : ws.length = k
  · rw [decide_eq_true h, h]
    exact decide_eq_true rfl
  · rw [decide_eq_false h]
    exact decide_eq_false fun z => h (by have z := V.int.inj z; omega)
theorem len3 {ws : List Str} (h : ws.length = 3) : ∃ a b c, ws = [a, b, c] := by
  match ws, h with
  | [a, b, c], _ => exact ⟨a, b, c, rfl⟩
theorem len2 {ws : List Str} (h : ws.length = 2) : ∃ a b, ws = [a, b] := by
  match ws, h with
  | [a, b], _ => exact ⟨a, b, rfl⟩
theorem len4 {ws : List Str} (h : ws.length = 4) : ∃ a b c d, ws = [a, b, c, d] := by
  match ws, h with
  | [a, b, c, d], _ => exact ⟨a, b, c, d, rfl⟩
theorem dstr (x y : Str) : decide (V.str x = V.str y) = (x == y) := by
  by_cases h : x = y
  · rw [h, decide_eq_true rfl]
    exact (beq_self_eq_true y).symm
  · rw [decide_eq_false fun z => h (V.str.inj z)]
    exact (beq_eq_false_iff_ne.mpr h).symm
/-- the rest goes on behind a new object -/
theorem outs_ok {α : Type} {C CB p : Addr} {rows : List Str} {H H1 : Hp} {Q : VK} {E : XK} {m : Except Nat (α × Nat)} {Rep : α → V → Hp → Prop} (k : Outs C CB p rows H Q E m Rep) {a : α} {n : Nat} (e : m = .ok (a, n)) (k1 : Kp p H H1) (l1 : Lns C H1 p rows n) {v : V} (r : Rep a v H1) : Q v H1 := by
  rw [e] at k
  exact k _ _ k1 l1 r
theorem outs_err {α : Type} {C CB p : Addr} {rows : List Str} {H : Hp} {Q : VK} {E : XK} {m : Except Nat (α × Nat)} {Rep : α → V → Hp → Prop} (k : Outs C CB p rows H Q E m Rep) {l : Nat} (e : m = .error l) : l ≠ 0 ∧ ∀ H' d, Kp p H H' → H' d = some (.xd [(("line" : Str), V.int (l : Nat))]) → E (.ref CB) (some d) H' := by
  rw [e] at k
  exact k
section
variable {P : Program} {w : World} {K : PySem.W.Frag} {mg : Str → Option Value} {base : Heap} {C CB CS fB : Addr}
/-- a call whose outcome is handed on -/
theorem outs_of {α β : Type} {p : Addr} {rows : List Str} {H H0 : Hp} {Q Q' : VK} {E : XK} {m : Except Nat (α × Nat)} {m' : Except Nat (β × Nat)} {Rep : α → V → Hp → Prop} {Rep' : β → V → Hp → Prop} (k : Outs C CB p rows H0 Q E m Rep) (hK : Kp p H0 H)
    (he : ∀ l, m' = .error l → m = .error l) (ho : ∀ a n', m' = .ok (a, n') → ∀ H' v, Kp p H H' → Lns C H' p rows n' → Rep' a v H' → Q' v H') : Outs C CB p rows H Q' E m' Rep' := by
  cases e : m' with
  | error l =>
    have z := outs_err k (he l e)
    exact ⟨z.1, fun H' d k1 hd => z.2 H' d (hK.trans k1) hd⟩
  | ok r => exact fun H' v k1 l1 r1 => ho r.1 r.2 e H' v k1 l1 r1
/-! read_write -/
def writeM (sc : ScM) (ws : List Str) (n : Nat) : Rd' Unit := match ws with
  | [_, b, c] => if sc.cells.contains b = true then valueM sc c n else .error (n + 1)
  | _ => .error (n + 1)
theorem writeM_no {sc : ScM} {ws : List Str} {n : Nat} (h : ¬ ws.length = 3) : writeM sc ws n = .error (n + 1) := by
  unfold writeM
  split
  · exact absurd rfl h
  · rfl
abbrev RV (P : Program) (w : World) (K : PySem.W.Frag) (mg : Str → Option Value) (base : Heap) (C CB CS : Addr) : Prop := FnAt P w K mg base (L2.CX P w) 5 "read_value" ["lines", "scope", "word"] (spReadValue K C CB CS)
def spWords3 (K : PySem.W.Frag) (C CB CS : Addr) (M : ScM → List Str → Nat → Rd' Unit) : Sp := fun vs H Q E => ∃ (p q a : Addr) (rows : List Str) (n : Nat) (sc : ScM) (ws : List Str), vs = [.ref p, .ref q, .ref a] ∧ Lns C H p rows n ∧ Sc K CS H q sc ∧ SqL K H a (ws.map V.str) ∧ Wds ws ∧ ws ≠ [] ∧
  Outs C CB p rows H Q E (M sc ws n) fun _ _ _ => True
theorem scReadWrite : FnScope ["lines", "scope", "words"] ["lines", "scope", "words"] (defScope sReadWrite) := ⟨rfl, rfl, rfl, by decide +kernel, rfl, by decide +kernel, by decide +kernel⟩
theorem sql_kp {K : PySem.W.Frag} {C p : Addr} {H H' : Hp} {rows : List Str} {n : Nat} {a : Addr} {xs : List V} (hL : Lns C H p rows n) (k : Kp p H H') (h : SqL K H a xs) : SqL K H' a xs := by
  obtain ⟨_, _, dx, r, h1, _⟩ := hL
  have ne : ∀ {o : HO}, (∀ C dx fs, o ≠ .ins C dx fs) → H a = some o → a ≠ p := fun hn ha z => by
    rw [z, h1] at ha
    exact hn _ _ _ (Option.some.inj ha).symm
  rcases h with (h | ⟨o, h⟩) | h
  · exact .inl (.inl (k.ne _ _ (ne (by intro _ _ _ z; cases z) h) h))
  · exact .inl (.inr ⟨o, k.ne _ _ (ne (by intro _ _ _ z; cases z) h) h⟩)
  · exact .inr h
theorem ok_read_write {f : Addr} {fd : FuncData} (F : Fun K "read_write" "read_write" sReadWrite f fd) (L : LX P w K mg base C CB) (S : SX K CS) (T : TN K mg) (V0 : RV P w K mg base C CB CS) : FnOk P w K mg base (L2.CX P w) 6 f fd ["lines", "scope", "words"] (spWords3 K C CB CS writeM) := by
  refine F.okX scReadWrite (fun vs H Q E h => ?_) (fun cdv A outer s H vs Q E hr h => ?_)
  · obtain ⟨p, q, a, rows, n, sc, ws, rfl, _⟩ := h
    rfl
  · obtain ⟨p, q, a, rows, n, sc, ws, rfl, hL, hS, ha, hw, _, k⟩ := h
    obtain ⟨fN, dN, mN, bN, GN⟩ := L.need
    obtain ⟨fV, dV, mV, kV, bV, GV⟩ := V0
    refine ⟨_, pss_cons (ps_expr (pe_meth (pv 0) L.cl mN GN (hr.mono (by decide)) bN .nil (pas (takes_of rfl rfl rfl rfl)) (pa_cons (pe_and (pe_cmpR op_eq (pe_callB call_len_seq (by rfl) T.len PySem.boot_len (pa_cons (pv 2) pa_nil)) pe_int (nomark _))
        (pe_one (pe_cmpR (op_inN (hu_of hr)) (pe_ix ix_list (pv 2) pe_int (fun _ _ => rfl)) (pe_fld (pv 1) rfl) rfl))) pa_nil)))
      (pss_one (ps_ret (pe_tup (pa_cons (pe_ix ix_list (pv 2) pe_int (fun _ _ => rfl)) (pa_cons (pe_ix ix_list (pv 2) pe_int (fun _ _ => rfl)) (pa_cons (pe_call GV hr rfl mV kV bV .nil (pas (takes_of rfl rfl rfl rfl)) (pa_cons (pv 0) (pa_cons (pv 1) (pa_cons (pe_ix ix_list (pv 2) pe_int (fun _ _ => rfl)) pa_nil)))) pa_nil)))))), ?_⟩
    obtain ⟨_, _, dx, r, hp, hr'⟩ := id hL
    obtain ⟨dx2, vc, vk, va, vl, hq, a1, a2, a3, a4⟩ := hS.ex
    refine ⟨_, rfl, p, dx, _, rfl, hp, lf_no _ _ (by decide +kernel) (by decide +kernel), _, rfl, a, _, rfl, .inl ha, rfl, _, rfl, ?_⟩
    by_cases h3 : ws.length = 3
    · rw [show decide (V.int ((ws.map V.str).length : Int) = V.int 3) = true from (dlen ws 3).trans (decide_eq_true h3)]
      obtain ⟨x0, x1, x2, rfl⟩ := len3 h3
      refine iteT ⟨_, rfl, a, _, _, _, rfl, rfl, ha, atI_nat (j := 1) rfl, _, rfl, q, CS, dx2, _, _, rfl, hq, S.cl, S.n2, (by unfold scf; walk_at "lk"), x1, _, rfl, a1, ?_⟩
      show spNeed C CB [V.ref p, V.bl _] H (fun _ _ => _) _
      refine need_of (b := sc.cells.contains x1) hL (Kp.refl p H) _ k (fun e => ?_) (fun e => ?_)
      · unfold writeM
        simp only [e]
        rfl
      · refine ⟨_, rfl, a, _, _, _, rfl, rfl, ha, atI_nat (j := 0) rfl, _, rfl, a, _, _, _, rfl, rfl, ha, atI_nat (j := 1) rfl, _, rfl, _, rfl, _, rfl, a, _, _, _, rfl, rfl, ha, atI_nat (j := 2) rfl, ?_⟩
        refine ⟨p, q, rows, n, sc, x2, rfl, hL, hS, (hw.word x2 (by simp)).2, ?_⟩
        have em : writeM sc [x0, x1, x2] n = valueM sc x2 n := by
          unfold writeM
          simp only [e]
          rfl
        refine outs_of k (Kp.refl p H) (fun l e1 => em.trans e1) fun u n' e1 H' v k1 l1 _ => ?_
        refine ⟨(by show 3 ≤ sizeLine; decide), fun t ht => ?_⟩
        exact outs_ok k (em.trans e1) (k1.trans (Kp.of (Same.new ht))) (l1.same (Same.new ht)) trivial
    · rw [show decide (V.int ((ws.map V.str).length : Int) = V.int 3) = false from (dlen ws 3).trans (decide_eq_false h3)]
      refine iteF ?_
      show spNeed C CB [V.ref p, V.bl _] H (fun _ _ => _) _
      exact need_of (b := false) hL (Kp.refl p H) _ k (fun e => writeM_no h3) (fun e => by cases e)
/-! read_ending -/
abbrev WK (P : Program) (w : World) (K : PySem.W.Frag) (mg : Str → Option Value) (base : Heap) (C CB CS : Addr) : Prop := LX P w K mg base C CB ∧ SX K CS ∧ TN K mg ∧ RV P w K mg base C CB CS
def endingM (sc : ScM) (ws : List Str) (n : Nat) : Rd' Unit := if (ws == ([("refuse" : Str)] : List Str)) = true then .ok ((), n) else match ws with
  | [a, b] => if (a == ("answer" : Str)) = true then valueM sc b n else .error (n + 1)
  | _ => .error (n + 1)
theorem sql_same {K : PySem.W.Frag} {H H' : Hp} {a : Addr} {xs : List V} (s : Same H H') (h : SqL K H a xs) : SqL K H' a xs := s.seq h
theorem scReadEnding : FnScope ["lines", "scope", "words"] ["lines", "scope", "words"] (defScope sReadEnding) := ⟨rfl, rfl, rfl, by decide +kernel, rfl, by decide +kernel, by decide +kernel⟩
theorem ok_read_ending {f : Addr} {fd : FuncData} (F : Fun K "read_ending" "read_ending" sReadEnding f fd) (W : WK P w K mg base C CB CS) : FnOk P w K mg base (L2.CX P w) 6 f fd ["lines", "scope", "words"] (spWords3 K C CB CS endingM) := by
  obtain ⟨L, S, T, V0⟩ := W
  refine F.okX scReadEnding (fun vs H Q E h => ?_) (fun cdv A outer s H vs Q E hr h => ?_)
  · obtain ⟨p, q, a, rows, n, sc, ws, rfl, _⟩ := h
    rfl
  · obtain ⟨p, q, a, rows, n, sc, ws, rfl, hL, hS, ha, hw, hne, k⟩ := h
    obtain ⟨fN, dN, mN, bN, GN⟩ := L.need
    obtain ⟨fV, dV, mV, kV, bV, GV⟩ := V0
    refine ⟨_, pss_cons (ps_if (pt_cmpR (op_eqD hr.units) (pv 2) (pe_lst (pa_cons pe_str pa_nil)) (nomark _)) (pss_one (ps_ret (pe_tup (pa_cons pe_str pa_nil)))) pss_nil)
      (pss_cons (ps_expr (pe_meth (pv 0) L.cl mN GN (hr.mono (by decide)) bN .nil (pas (takes_of rfl rfl rfl rfl)) (pa_cons (pe_and (pe_cmpR op_eq (pe_ix ix_list (pv 2) pe_int (fun _ _ => rfl)) pe_str (nomark _))
        (pe_one (pe_cmpR op_eq (pe_callB call_len_seq (by rfl) T.len PySem.boot_len (pa_cons (pv 2) pa_nil)) pe_int (nomark _)))) pa_nil)))
      (pss_one (ps_ret (pe_tup (pa_cons pe_str (pa_cons (pe_call GV hr rfl mV kV bV .nil (pas (takes_of rfl rfl rfl rfl)) (pa_cons (pv 0) (pa_cons (pv 1) (pa_cons (pe_ix ix_list (pv 2) pe_int (fun _ _ => rfl)) pa_nil)))) pa_nil)))))), ?_⟩
    refine ⟨_, rfl, (by decide), fun q1 hq1 => ⟨_, _, dp_strs (l := ws) ((Same.new hq1).seq ha), dp_strs (l := [("refuse" : Str)]) (SqL.of upd_same), shaped_strs _ (fun y hy => (hw.word y hy).1), shaped_strs _ (fun y hy => by rw [List.mem_singleton.mp hy]; decide +kernel), ?_⟩⟩
    rw [eqv_strs]
    refine ⟨_, rfl, ?_⟩
    have s1 := Same.new (o := .lst [V.str "refuse"]) hq1
    generalize hH1 : upd H q1 (.lst [V.str "refuse"]) = H1 at s1
    have hL1 := hL.same s1
    have ha1 := s1.seq ha
    obtain ⟨_, _, dx, r, hp, hr'⟩ := id hL1
    obtain ⟨x0, rest, rfl⟩ : ∃ x0 rest, ws = x0 :: rest := by
      cases ws with
      | nil => exact absurd rfl hne
      | cons a b => exact ⟨a, b, rfl⟩
    refine ite2 (fun c1 => ?_) (fun c1 => ?_)
    · refine ⟨(by show 1 ≤ sizeLine; decide), fun t ht => ?_⟩
      refine outs_ok k (a := ()) (n := n) ?_ (Kp.of (s1.trans (Same.new ht))) (hL1.same (Same.new ht)) trivial
      unfold endingM
      rw [if_pos c1]
    · have em : endingM sc (x0 :: rest) n = match x0 :: rest with
          | [a, b] => if (a == ("answer" : Str)) = true then valueM sc b n else .error (n + 1)
          | _ => .error (n + 1) := by
        unfold endingM
        rw [if_neg c1]
      refine ⟨_, rfl, p, dx, _, rfl, hp, lf_no _ _ (by decide +kernel) (by decide +kernel), _, rfl, a, _, _, _, rfl, rfl, ha1, atI_nat (j := 0) rfl, rfl, _, rfl, ?_⟩
      rw [dstr]
      refine ite2 (fun c2 => ?_) (fun c2 => ?_)
      · refine ⟨_, rfl, a, _, rfl, .inl ha1, rfl, ?_⟩
        rw [show decide (V.int (((x0 :: rest).map V.str).length : Int) = V.int 2) = decide ((x0 :: rest).length = 2) from dlen _ 2]
        show spNeed C CB [V.ref p, V.bl _] H1 (fun _ _ => _) _
        refine need_of (b := decide ((x0 :: rest).length = 2)) hL1 (Kp.of s1) _ k (fun e => ?_) (fun e => ?_)
        · rw [em]
          split
          · rename_i a b e2
            rw [e2] at e
            exact absurd e (by simp)
          · rfl
        · obtain ⟨a0, b0, e3⟩ := len2 (of_decide_eq_true e)
          obtain ⟨rfl, rfl⟩ := List.cons.inj e3
          refine ⟨_, rfl, _, rfl, _, rfl, a, _, _, _, rfl, rfl, ha1, atI_nat (j := 1) rfl, ?_⟩
          refine ⟨p, q, rows, n, sc, b0, rfl, hL1, Sc.kp hL (Kp.of s1) hS, (hw.word b0 (by simp)).2, ?_⟩
          have em2 : endingM sc [x0, b0] n = valueM sc b0 n := by
            rw [em]
            show (if _ then _ else _) = _
            rw [if_pos c2]
          refine outs_of k (Kp.of s1) (fun l e1 => em2.trans e1) fun u n' e1 H' v k1 l1 _ => ?_
          refine ⟨(by show 2 ≤ sizeLine; decide), fun t ht => ?_⟩
          exact outs_ok k (em2.trans e1) ((Kp.of s1).trans (k1.trans (Kp.of (Same.new ht)))) (l1.same (Same.new ht)) trivial
      · show spNeed C CB [V.ref p, V.bl _] H1 (fun _ _ => _) _
        refine need_of (b := false) hL1 (Kp.of s1) _ k (fun e => ?_) (fun e => by cases e)
        rw [em]
        split
        · rename_i a b e2
          obtain ⟨rfl, _⟩ := List.cons.inj e2
          rw [if_neg c2]
        · rfl
/-! read_short -/
def shortM (sc : ScM) (ws : List Str) (n : Nat) : Rd' Unit := if (ws == ([("anew" : Str)] : List Str)) = true then .ok ((), n) else match ws with
  | [a, b] => if (([("off" : Str), "forget"] : List Str).contains a && sc.asks.contains b) = true then .ok ((), n) else .error (n + 1)
  | _ => .error (n + 1)
theorem scReadShort : FnScope ["lines", "scope", "words"] ["lines", "scope", "words"] (defScope sReadShort) := ⟨rfl, rfl, rfl, by decide +kernel, rfl, by decide +kernel, by decide +kernel⟩
theorem ok_read_short {f : Addr} {fd : FuncData} (F : Fun K "read_short" "read_short" sReadShort f fd) (W : WK P w K mg base C CB CS) : FnOk P w K mg base (L2.CX P w) 6 f fd ["lines", "scope", "words"] (spWords3 K C CB CS shortM) := by
  obtain ⟨L, S, T, V0⟩ := W
  refine F.okX scReadShort (fun vs H Q E h => ?_) (fun cdv A outer s H vs Q E hr h => ?_)
  · obtain ⟨p, q, a, rows, n, sc, ws, rfl, _⟩ := h
    rfl
  · obtain ⟨p, q, a, rows, n, sc, ws, rfl, hL, hS, ha, hw, hne, k⟩ := h
    obtain ⟨fN, dN, mN, bN, GN⟩ := L.need
    refine ⟨_, pss_cons (ps_if (pt_cmpR (op_eqD hr.units) (pv 2) (pe_lst (pa_cons pe_str pa_nil)) (nomark _)) (pss_one (ps_ret (pe_tup (pa_cons pe_str pa_nil)))) pss_nil)
      (pss_cons (ps_expr (pe_meth (pv 0) L.cl mN GN (hr.mono (by decide)) bN .nil (pas (takes_of rfl rfl rfl rfl)) (pa_cons (pe_and (pe_cmpR (op_inN (hu_of hr)) (pe_ix ix_list (pv 2) pe_int (fun _ _ => rfl)) (pe_tup (pa_cons pe_str (pa_cons pe_str pa_nil))) rfl)
        (pe_and (pe_cmpR op_eq (pe_callB call_len_seq (by rfl) T.len PySem.boot_len (pa_cons (pv 2) pa_nil)) pe_int (nomark _)) (pe_one (pe_cmpR (op_inN (hu_of hr)) (pe_ix ix_list (pv 2) pe_int (fun _ _ => rfl)) (pe_fld (pv 1) rfl) rfl)))) pa_nil)))
      (pss_one (ps_ret (pe_tup (pa_cons (pe_ix ix_list (pv 2) pe_int (fun _ _ => rfl)) (pa_cons (pe_ix ix_list (pv 2) pe_int (fun _ _ => rfl)) pa_nil)))))), ?_⟩
    refine ⟨_, rfl, (by decide), fun q1 hq1 => ⟨_, _, dp_strs (l := ws) ((Same.new hq1).seq ha), dp_strs (l := [("anew" : Str)]) (SqL.of upd_same), shaped_strs _ (fun y hy => (hw.word y hy).1), shaped_strs _ (fun y hy => by rw [List.mem_singleton.mp hy]; decide +kernel), ?_⟩⟩
    rw [eqv_strs]
    refine ⟨_, rfl, ?_⟩
    have s1 := Same.new (o := .lst [V.str "anew"]) hq1
    generalize hH1 : upd H q1 (.lst [V.str "anew"]) = H1 at s1
    have hL1 := hL.same s1
    have ha1 := s1.seq ha
    obtain ⟨_, _, dx, r, hp, hr'⟩ := id hL1
    obtain ⟨x0, rest, rfl⟩ : ∃ x0 rest, ws = x0 :: rest := by
      cases ws with
      | nil => exact absurd rfl hne
      | cons a b => exact ⟨a, b, rfl⟩
    refine ite2 (fun c1 => ?_) (fun c1 => ?_)
    · refine ⟨(by show 1 ≤ sizeLine; decide), fun t ht => ?_⟩
      refine outs_ok k (a := ()) (n := n) ?_ (Kp.of (s1.trans (Same.new ht))) (hL1.same (Same.new ht)) trivial
      unfold shortM
      rw [if_pos c1]
    · have em : shortM sc (x0 :: rest) n = match x0 :: rest with
          | [a, b] => if (([("off" : Str), "forget"] : List Str).contains a && sc.asks.contains b) = true then .ok ((), n) else .error (n + 1)
          | _ => .error (n + 1) := by
        unfold shortM
        rw [if_neg c1]
      refine ⟨_, rfl, p, dx, _, rfl, hp, lf_no _ _ (by decide +kernel) (by decide +kernel), _, rfl, a, _, _, _, rfl, rfl, ha1, atI_nat (j := 0) rfl, (by decide), fun t1 ht1 => ?_⟩
      have s2 := Same.new (o := .tup [V.str "off", V.str "forget"]) ht1
      have ht2 : (upd H1 t1 (.tup [V.str "off", V.str "forget"])) t1 = some (.tup [V.str "off", V.str "forget"]) := upd_same
      generalize hH2 : upd H1 t1 (.tup [V.str "off", V.str "forget"]) = H2 at s2 ht2
      have hL2 := hL1.same s2
      have ha2 := s2.seq ha1
      have s12 := s1.trans s2
      refine ⟨x0, [("off" : Str), "forget"], rfl, ⟨t1, rfl, .inr (.inr (SqT.of ht2))⟩, _, rfl, ?_⟩
      refine ite2 (fun c2 => ?_) (fun c2 => ?_)
      · refine ⟨_, rfl, a, _, rfl, .inl ha2, rfl, _, rfl, ?_⟩
        rw [show decide (V.int (((x0 :: rest).map V.str).length : Int) = V.int 2) = decide ((x0 :: rest).length = 2) from dlen _ 2]
        refine ite2 (fun c3 => ?_) (fun c3 => ?_)
        · obtain ⟨a0, b0, e3⟩ := len2 (of_decide_eq_true c3)
          obtain ⟨rfl, rfl⟩ := List.cons.inj e3
          obtain ⟨dx2, vc, vk, va, vl, hq, a1, a2, a3, a4⟩ := (Sc.kp hL (Kp.of s12) hS).ex
          refine ⟨_, rfl, a, _, _, _, rfl, rfl, ha2, atI_nat (j := 1) rfl, _, rfl, q, CS, dx2, _, _, rfl, hq, S.cl, S.n4, (by unfold scf; walk_at "lk"), b0, _, rfl, a3, ?_⟩
          have em2 : shortM sc [x0, b0] n = if sc.asks.contains b0 = true then .ok ((), n) else .error (n + 1) := by
            rw [em]
            show (if ((([("off" : Str), "forget"] : List Str).contains x0 && sc.asks.contains b0) = true) then _ else _) = _
            rw [show ([("off" : Str), "forget"] : List Str).contains x0 = true from c2, Bool.true_and]
          show spNeed C CB [V.ref p, V.bl _] H2 (fun _ _ => _) _
          obtain ⟨_, _, dx, r, hp, hr'⟩ := id hL2
          refine need_of (b := sc.asks.contains b0) hL2 (Kp.of s12) _ k (fun e => ?_) (fun e => ?_)
          · rw [em2, e]
            rfl
          · refine ⟨_, rfl, a, _, _, _, rfl, rfl, ha2, atI_nat (j := 0) rfl, _, rfl, a, _, _, _, rfl, rfl, ha2, atI_nat (j := 1) rfl, (by show 2 ≤ sizeLine; decide), fun t ht => ?_⟩
            refine outs_ok k (a := ()) (n := n) ?_ (Kp.of (s12.trans (Same.new ht))) (hL2.same (Same.new ht)) trivial
            rw [em2, e]
            rfl
        · show spNeed C CB [V.ref p, V.bl _] H2 (fun _ _ => _) _
          refine need_of (b := false) hL2 (Kp.of s12) _ k (fun e => ?_) (fun e => by cases e)
          rw [em]
          split
          · rename_i a b e2
            rw [e2] at c3
            exact absurd rfl c3
          · rfl
      · show spNeed C CB [V.ref p, V.bl _] H2 (fun _ _ => _) _
        refine need_of (b := false) hL2 (Kp.of s12) _ k (fun e => ?_) (fun e => by cases e)
        rw [em]
        split
        · rename_i a b e2
          obtain ⟨rfl, _⟩ := List.cons.inj e2
          rw [show ([("off" : Str), "forget"] : List Str).contains x0 = false from Bool.eq_false_iff.mpr c2]
          rfl
        · rfl
end
end K6

/-! text RC -/
set_option Elab.async false
set_option linter.all false
set_option maxRecDepth 100000
set_option maxHeartbeats 4000000
/-! a list comprehension whose element may raise -/
namespace L2
open PySem PySem.Spec PyProof.Rows
/-- what becomes of a comprehension's run: cv is its environment, fr the frame it notes -/
def CompEnd (M : Model) (A : Around) (E : Value → Shared → Prop) (use : Value → Sem Unit) (Q : Value → Shared → Prop) (acc : Value) (cv : Env) (r : Result) (s2 : Shared) : Prop :=
  match r with
  | .ok _ => wpAny M A (use acc) (fun _ s3 => ∃ m, s3.heap.Ns cv.locals m ∧ ∀ h3, Heap.SameBut cv.locals s3.heap h3 → Q .none { s3 with heap := h3 }) E s2
  | .error x => ∃ m, s2.heap.Ns cv.locals m ∧ ∀ h3, Heap.SameBut cv.locals s2.heap h3 → ∀ sc : Scope, wpAny M A (passOn "comprehension.variables-let-go" x { cv with scope := sc } : Sem Value) (fun _ _ => False) E { s2 with heap := h3 }
theorem comp_free {M : Model} {A : Around} {E : Value → Shared → Prop} {s : Shared} {env : Env} {e : Expr} {scope : Scope} {pos : Pos} {newAcc first : Sem Value} {g : Comprehension} {gs : List Comprehension} {cl : List (Str × Addr)} {use : Value → Sem Unit} {Q : Value → Shared → Prop}
    (h1 : clausesOf e = g :: gs) (h2 : ∀ x, foldedSetIterable g.iter env x = pure x) (h3 : closureFor scope env = pure cl) (h4 : scope.kind = .function) (h5 : ∀ x ∈ scope.names, x.2 = .local → scope.names.lookup x.1 = some .local)
    (h : wpAny M A first (fun x s1 => wpAny M A (pyIter x) (fun it s2 => wpAny M A newAcc (fun acc s3 => wpAny M A (newFunctionEnv scope env.globals cl [] env.qual none .none (some env)) (fun cv s4 =>
        codeAny M A (.compStart e 0 it acc { cv with scope := relabel scope env }) (CompEnd M A E use Q acc cv) s4) E s3) E s2) E s1) E s) : wpAny M A (comprehension e scope env pos newAcc false first (some use)) Q E s := by
  unfold comprehension
  rw [h3, h1]
  refine wpAny_bind (wpAny_mono h (fun x s1 g1 => wpAny_bind (wpAny_standAt (wpAny_bind (wpAny_of_eq (h2 x) (wpAny_bind (wpAny_holding (wpAny_mono g1 (fun it s2 g2 => wpAny_standIf (wpAny_bind (wpAny_mono g2 (fun acc s3 g3 => wpAny_bind (wpAny_pure (wpAny_bind (wpAny_mono g3 (fun cv s4 g4 => ?_) fun _ _ z => z)))) fun _ _ z => z))) fun _ _ z => z))))))) fun _ _ z => z)
  dsimp only
  have hv : ∀ x ∈ (scope.names.filter fun x => (x.2 == .local || x.2 == .cell) && x.1 != (".0" : Str)).reverse, x.2 = .local → Env.kindOf { cv with scope := relabel scope env } x.1 = some .local := fun x hx hl => lookup_relabel_local (h5 x (List.mem_filter.mp (List.mem_reverse.mp hx)).1 hl)
  have hw : ∀ x ∈ (scope.names.filter fun x => (x.2 == .local || x.2 == .cell) && x.1 != (".0" : Str)).reverse.drop 1 ++ (scope.names.filter fun x => (x.2 == .local || x.2 == .cell) && x.1 != (".0" : Str)).reverse.take 1, x.2 = .local → Env.kindOf { cv with scope := relabel scope env } x.1 = some .local := fun x hx hl => by
    rcases List.mem_append.mp hx with z | z
    · exact hv x (List.mem_of_mem_drop z) hl
    · exact hv x (List.mem_of_mem_take z) hl
  refine wpAny_holding (wpAny_bind (wpAny_attempt (wpAny_holding (wpAny_run (codeAny_mono g4 fun r s2 hr => ?_)))))
  cases r with
  | ok f =>
    refine wpAny_bind (wpAny_rule (wpAny_bind (wpAny_holding (wpAny_mono hr (fun _ s3 q => ?_) fun _ _ z => z))))
    obtain ⟨m, hn, q⟩ := q
    exact wpAny_bind (wpAny_comp_letGo (cenv := { cv with scope := relabel scope env }) h4 _ s3 m hw hn fun h3 m2 _ sb => wpAny_pure (q h3 sb))
  | error x =>
    obtain ⟨m, hn, q⟩ := (hr : ∃ m, s2.heap.Ns cv.locals m ∧ ∀ h3, Heap.SameBut cv.locals s2.heap h3 → ∀ sc : Scope, wpAny M A (passOn "comprehension.variables-let-go" x { cv with scope := sc } : Sem Value) (fun _ _ => False) E { s2 with heap := h3 })
    exact wpAny_bind (wpAny_holding (wpAny_comp_letGo (cenv := { cv with scope := relabel scope env }) h4 _ s2 m hv hn fun h3 m2 _ sb => wpAny_mono (q h3 sb _) (fun _ _ z => z.elim) fun _ _ z => z))
theorem frames_but {h h2 B B2 : Heap} {C : Addr} (k : ∀ b, b ≠ C → h2.get? b = h.get? b) (kb : ∀ b, B.get? b = none → B2.get? b = none) : ∀ {l : List Env}, C ∉ frs l → h.FunFrames B l → h2.FunFrames B2 l
  | [], _, _ => trivial
  | env :: l, hC, ⟨hk, ⟨L, o, hf, hb, ho, hd⟩, hr⟩ => by
    have hL : L ≠ C := fun z => hC (List.mem_filterMap.mpr ⟨env, List.mem_cons_self, by rw [hf, z]⟩)
    exact ⟨hk, ⟨L, o, hf, kb _ hb, by rw [k _ hL]; exact ho, hd⟩, frames_but k kb (fun z => by
      obtain ⟨e, he, q⟩ := List.mem_filterMap.mp z
      exact hC (List.mem_filterMap.mpr ⟨e, List.mem_cons_of_mem _ he, q⟩)) hr⟩
section
variable {X : Cx}
/-- what a raise within a comprehension's element does of the maker's air -/
theorem comp_raised {W : WX} {u : Value} {s2 : Shared} {C : Addr} {ce cv : Env} {m0 : Str → Option Value} {use : Value → Sem Unit} {Qf : Value → Shared → Prop} {acc : Value} (hs : X.stack = X.env :: X.outer) (hf : X.env.frame = some X.env.locals) (hp : X.pn = []) (tk : Takes X W)
    (e1 : ce.frame = X.env.frame) (e2 : cv.frame = X.env.frame) (e3 : cv.locals = C) (f1 : C ≠ X.env.locals) (f2 : C ∉ frs X.stack) (f3 : C ∈ X.ex ∨ X.s_0.heap.objs.size ≤ C) (f4 : ∀ x c, X.env.cells.lookup x = some c → c ≠ C)
    (x : XE X (fun cls d σ H => W cls d σ H ∧ H C = none) u s2) (hC : s2.heap.Ns C m0) : notedBy (model X.prog X.w) X.A ce (fun e s3 => CompEnd (model X.prog X.w) X.A X.xe use Qf acc cv (.error e) s3) u s2 := by
  obtain ⟨a, B, sI, pins, σ, H, cls, d, rfl, I, nb, up, sky, na, os, ag, w, hHC⟩ := x
  have hfr : X.A.frames = some (X.env :: X.outer) := by rw [I.ok.frames, hs]
  have en : noteFrame (.ref a) ce = noteFrame (.ref a) X.env := by
    unfold noteFrame PySem.frameOf
    rw [e1]
  show wpAny _ X.A (noteFrame (.ref a) ce) (fun _ s3 => CompEnd (model X.prog X.w) X.A X.xe use Qf acc cv (.error (.ref a)) s3) _ s2
  rw [en]
  have fin : ∀ h3, HandSPX.HeldZ B (X.env :: X.outer) a (Zc cls d) X.env.locals h3 → s2.heap.UpToSlots h3 → CompEnd (model X.prog X.w) X.A X.xe use Qf acc cv (.error (.ref a)) { s2 with heap := h3 } := fun h3 hh up3 => by
    obtain ⟨oC, es, ep, eC, dC, rC⟩ := hC
    obtain ⟨sl, eC3⟩ := up3 C oC eC (fun vs z => by rw [dC] at z; cases z)
    refine ⟨m0, ?_, fun h4 sb sc => ?_⟩
    · rw [e3]
      exact ⟨_, es, ep, eC3, dC, rC⟩
    rw [e3] at sb
    have same : ∀ b, b ≠ C → h4.get? b = h3.get? b := sb.2
    obtain ⟨k1, k2, k3, oe, vs, T, oT, ts, he, hz, hd, h1, hnT, hTe, hT, hdT, h33⟩ := hh
    have aC : a ≠ C := fun z => by
      rw [z, eC3] at he
      have z2 := congrArg Obj.data (Option.some.inj he)
      rw [hd] at z2
      have z3 : oC.data = Data.fields vs := z2
      rw [dC] at z3
      cases z3
    have TC : T ≠ C := fun z => by
      rw [z, eC3] at hT
      have z2 := congrArg Obj.data (Option.some.inj hT)
      rw [hdT] at z2
      have z3 : oC.data = Data.fields ts := z2
      rw [dC] at z3
      cases z3
    have hk : ∀ {h : Heap} {b : Addr} {o : Obj}, (PySem.W.hideAll h [C]).get? b = some o → h.get? b = some o ∧ b ≠ C := fun {h b o} e => by
      refine ⟨PySem.W.of_hideAll _ e, fun z => ?_⟩
      rw [z, PySem.W.hideAll_none [C] (List.mem_singleton.mpr rfl)] at e
      cases e
    have kh : ∀ {h : Heap} {b : Addr} {o : Obj}, h.get? b = some o → b ≠ C → (PySem.W.hideAll h [C]).get? b = some o := fun {h b o} e n => PySem.W.hideAll_get _ e (fun z => n (List.mem_singleton.mp z))
    have hn : ∀ {h : Heap} {b : Addr}, h.get? b = none → (PySem.W.hideAll h [C]).get? b = none := fun {h b} e => by
      cases q : (PySem.W.hideAll h [C]).get? b with
      | none => rfl
      | some o =>
        rw [(hk q).1] at e
        cases e
    have held : HandSPX.HeldZ (PySem.W.hideAll B [C]) (X.env :: X.outer) a (Zc cls d) X.env.locals h4 := by
      refine ⟨fun b o e => ?_, hn k2, frames_but same (fun b e => hn e) (by rw [hs] at f2; exact f2) k3, oe, vs, T, oT, ts, by rw [same _ aC]; exact he, hz, hd, h1, hn hnT, hTe, by rw [same _ TC]; exact hT, hdT, h33⟩
      obtain ⟨e', n⟩ := hk e
      rw [same _ n]
      exact k1 b o e'
    have J : Inv X [] σ H { sI with heap := PySem.W.hideAll sI.heap [C] } := by
      have I0 : Inv X [] σ H sI := I.pins_of fun p hpp => absurd hpp (by simp)
      exact I0.turned (t' := sI.toks) (fun b o n e => kh e n) hHC f1 f3 f4 (fun p hpp => absurd (show p ∈ ([] : List (Addr × Obj)) from by rw [hp] at hpp; simpa using hpp) (by simp))
    have nb2 : ∀ b o, (PySem.W.hideAll sI.heap [C]).get? b = some o → b ∉ frs X.stack → (PySem.W.hideAll B [C]).get? b = some o := fun b o e n => by
      obtain ⟨e', n'⟩ := hk e
      exact kh (nb b o e' n) n'
    have up4 : (PySem.W.hideAll sI.heap [C]).UpToSlots h4 := fun b o e n => by
      obtain ⟨e', n'⟩ := hk e
      obtain ⟨sl2, q⟩ := (up.trans up3) b o e' n
      exact ⟨sl2, by rw [same _ n']; exact q⟩
    unfold PySem.passOn
    refine wpAny_bind (wpAny_field (by rw [same _ aC]; exact he) hd h1 ?_)
    rw [if_neg (show ¬ ((Value.ref T == Value.none) = true) from by simp)]
    have go : wpAny (model X.prog X.w) X.A (setFlight (.ref a) ({ cv with scope := sc } : Env).frame) (fun _ s5 => wpAny (model X.prog X.w) X.A (throw (.ref a) : Sem Value) (fun _ _ => False) X.xe s5) X.xe { s2 with heap := h4 } := by
      show wpAny _ _ (setFlight (.ref a) cv.frame) _ _ _
      rw [e2, hf]
      refine HandSPX.setFlight_onZ held fun h5 hh5 up5 => wpAny_throw (tk _ _ ?_)
      exact ⟨a, _, _, [], σ, H, cls, d, rfl, J, nb2, up4.trans up5, .inr (.inr (by rw [hs]; exact hh5)), na, os, ag, w⟩
    first
      | exact wpAny_bind (wpAny_pure (wpAny_bind go))
      | exact wpAny_bind go
  rw [hs] at sky
  rcases sky with ⟨hB, hn, hl, oe, vs, he, hz, hd, h1⟩ | fl | hd
  · exact HandSPX.look_newZ Zc.steady hfr hl hf he hB hn hd h1 hz fin
  · exact HandSPX.looks_onZ Zc.steady hfr hf fl fin
  · exact HandSPX.againZ hf hd.2.2.2 (fin _ hd (Heap.UpToSlots.of_keeps fun b o e => e))
end
end L2

/-! text RC2 -/
set_option Elab.async false
set_option linter.all false
set_option maxRecDepth 100000
set_option maxHeartbeats 4000000
namespace L2
open PySem PySem.Spec PyProof.Rows
section
variable {X : Cx}
/-- name = [f(..) for ..] where f may raise: EE what it lets out -/
theorem ps_setLcX {W : WX} {EE : XK} {i : Nat} {y : Str} {py : Pos} {elt tg iter : Expr} {ifs : List Expr} {scope : Scope} {own : List (Str × Nat)} {pos spos : Pos} {wi : TI} {g : TG} {tt : TT} {te : TE}
    (hst : X.stack = X.env :: X.outer) (hfe : X.env.frame = some X.env.locals) (hpn : X.pn = []) (tk : Takes X W) (hW : ∀ cls d σ H, EE cls d H → W cls d σ H)
    (hc : X.calm = true) (hN : X.N.Nodup) (hy : X.N[i]? = some y) (hyl : X.env.scope.names.lookup y = some .local)
    (hsw : swapsWith (.ListComp elt [⟨tg, iter, ifs, 0⟩] scope pos) (some (.Name y py)) spos.line X.env = pure true) (hi : PI X tg iter wi) (ok : BlkOk X.N X.env.scope scope own)
    (hg : ∀ (s : Shared) (H : Hp) (C : Addr) (cl : List (Str × Addr)) (fp : List Addr), PG (X.blk s H scope (compEnvC scope cl C X.env) fp) tg g) (ht : ∀ (s : Shared) (H : Hp) (C : Addr) (cl : List (Str × Addr)) (fp : List Addr), PTs (X.blk s H scope (compEnvC scope cl C X.env) fp) ifs tt)
    (he : ∀ (s : Shared) (H : Hp) (C : Addr) (cl : List (Str × Addr)) (fp : List Addr) (xe : Value → Shared → Prop), Passes (L2.CX X.prog X.w) ((X.blk s H scope (compEnvC scope cl C X.env) fp).wish xe) EE → PE ((X.blk s H scope (compEnvC scope cl C X.env) fp).wish xe) elt te)
    (hs : ∀ x, foldedSetIterable iter X.env x = pure x := by intro _; rfl) :
    PS X (.Assign [.Name y py] (.ListComp elt [⟨tg, iter, ifs, 0⟩] scope pos) spos) (tAsg (tLc wi g tt te (own.map (·.2))) (gName i)) := by
  refine ⟨fun pins s σ H D0 I h => ?_⟩
  rw [exec_Assign_Name_used _ _ _ _ hsw]
  refine wpAny_bind (wpAny_standAt (wpAny_bind ?_))
  show wpAny _ X.A (do let _ ← comprehension (.ListComp elt [⟨tg, iter, ifs, 0⟩] scope pos) scope X.env (firstIterPos [⟨tg, iter, ifs, 0⟩] pos) (newList []) false (eval iter X.env) (some (assign (.Name y py) X.env))) _ _ s
  have h : tLc wi g tt te (own.map (·.2)) σ H (fun x H1 => gName i x σ H1 D0.nx) := h
  refine wpAny_bind (thn (Q := fun _ s2 => SP X pins D0 .next s2) ?_ fun _ s2 hq => wpAny_pure (wpAny_pure hq))
  have hfree : ∀ y ∈ scope.names, y.2 = .free → ∃ c, X.env.cells.lookup y.1 = some c := fun y hy e => by
    rcases ok.free y hy e with k | k
    · exact I.ok.has _ (.inl k)
    · exact I.ok.has _ (.inr k)
  refine comp_free (use := assign (.Name y py) X.env) rfl hs (closure_ok hfree) ok.kind (fun y hy e => by rw [ok.uniq y hy, e]) (thn (hi.run pins s σ H _ I h) fun xv s1 hx => thn hx fun itv s2 h2 => ?_)
  obtain ⟨it, fp, tn, J, H2, e, I2, T, st2, f2, q⟩ := h2
  subst e
  refine wpAny_newObj_type (newEnv_comp ?_) (by show 0 ≤ sizeLine; decide)
  generalize hD : s2.heap.objs.size = D
  have hDn : H2 D = none := I2.hok.fresh (Nat.le_of_eq hD)
  obtain ⟨W1, ⟨m0, w0⟩, turn⟩ := q D hDn
  generalize hs3 : ({ s2 with heap := s2.heap.push { cls := .type "list", data := .seq ([] : List Value).toArray } } : Shared) = s3
  have I3 : Inv X pins σ (upd H2 D (.lst [])) s3 := by
    rw [← hs3]
    refine I2.laid (t' := s2.toks) (fun b o e => Heap.get?_push_of_some _ e) (Nat.le_of_eq hD) ⟨Nat.zero_le _, [], 0, .nil, ?_⟩
    rw [← hD]
    exact Heap.get?_push_size _ rfl
  have h3 : s3.heap = s2.heap.push { cls := .type "list", data := .seq ([] : List Value).toArray } := by rw [← hs3]
  have sz : ∀ b ∈ fp, b < s2.heap.objs.size := fun b hb => by
    obtain ⟨o, e, _⟩ := T.obj _ _ st2 b hb
    exact Heap.lt_size e
  have f3 : ∀ b ∈ fp, FpOk X pins (upd H2 D (.lst [])) b ∧ b < s3.heap.objs.size := fun b hb => by
    have hlt := sz b hb
    refine ⟨⟨?_, (f2 b hb).2⟩, by rw [h3, Heap.size_push]; exact Nat.lt_succ_of_lt hlt⟩
    rw [upd_ne (by rw [← hD]; exact Nat.ne_of_lt hlt)]
    exact (f2 b hb).1
  have st3 : tn 0 s3.heap := T.keep _ _ _ st2 fun b _ o e => by rw [h3]; exact Heap.get?_push_of_some _ e
  have I4 := block_start I3 ok hN f3
  have pg := hg s3 (upd H2 D (.lst [])) s3.heap.objs.size (cellsFrom (s3.heap.objs.size + 1) scope.names (cloFrom X.env.cells scope.names [])) fp
  have pt := ht s3 (upd H2 D (.lst [])) s3.heap.objs.size (cellsFrom (s3.heap.objs.size + 1) scope.names (cloFrom X.env.cells scope.names [])) fp
  have pe := he s3 (upd H2 D (.lst [])) s3.heap.objs.size (cellsFrom (s3.heap.objs.size + 1) scope.names (cloFrom X.env.cells scope.names [])) fp
  show codeAny _ _ (.compStart (.ListComp elt [⟨tg, iter, ifs, 0⟩] scope pos) 0 (.ref it) (.ref D) (compEnvC scope (cellsFrom (s3.heap.objs.size + 1) scope.names (cloFrom X.env.cells scope.names [])) s3.heap.objs.size X.env)) (CompEnd (model X.prog X.w) X.A X.xe (assign (.Name y py) X.env) (fun _ s2 => SP X pins D0 .next s2) (.ref D) ((newEnv scope s3.heap.objs.size X.env.globals (cellsFrom (s3.heap.objs.size + 1) scope.names (cloFrom X.env.cells scope.names [])) X.env.qual none .none (some X.env)) builtinsNs)) { s3 with heap := pushCells (s3.heap.push { cls := .type "dict", data := .dict #[] }) scope.names }
  generalize hcw : (newEnv scope s3.heap.objs.size X.env.globals (cellsFrom (s3.heap.objs.size + 1) scope.names (cloFrom X.env.cells scope.names [])) X.env.qual none .none (some X.env)) = cw
  generalize hcv : cw builtinsNs = cv
  have cvL : cv.locals = s3.heap.objs.size := by subst hcv; subst hcw; rfl
  have cvF : cv.frame = X.env.frame := by subst hcv; subst hcw; rfl
  have nfp : ∀ b ∈ fp, (upd H2 D (.lst [])) b = none := fun b hb => (f3 b hb).1.1
  generalize hce : compEnvC scope (cellsFrom (s3.heap.objs.size + 1) scope.names (cloFrom X.env.cells scope.names [])) s3.heap.objs.size X.env = ce at I4 pg pt pe ⊢
  have cL : ce.locals = s3.heap.objs.size := by subst hce; rfl
  have cF : ce.frame = X.env.frame := by subst hce; rfl
  generalize hH3 : upd H2 D (.lst []) = H3 at I3 I4 pg pt pe w0 nfp f3
  generalize hs4 : ({ s3 with heap := pushCells (s3.heap.push { cls := .type "dict", data := .dict #[] }) scope.names } : Shared) = s4 at I4 ⊢
  have st4 : tn 0 s4.heap := T.keep _ _ _ st3 fun b _ o e => by rw [← hs4]; exact pushCells_keeps _ _ _ _ (Heap.get?_push_of_some _ e)
  have stat : ∀ {σ1 : St} {H1 : Hp} {s1 : Shared}, Inv (X.blk s3 H3 scope ce fp) [] σ1 H1 s1 → (∀ b ∈ fp, H1 b = none) → ∀ b ∈ fp, FpOk (X.blk s3 H3 scope ce fp) [] H1 b := fun {σ1 H1 s1} I1 hn b hb =>
    ⟨hn b hb, (I1.ok.exf b hb).1, I1.ok.exfs b hb, .inl hb, fun x c e => (I1.ok.exf b hb).2 x c e, fun p hp => absurd (show p ∈ ([] : List (Addr × Obj)) ++ [] from hp) (by simp)⟩
  -- the maker's own state, at any moment of the block
  have back : ∀ {pl : List (Addr × Obj)} {σ1 : St} {H1 : Hp} {s1 : Shared}, Inv (X.blk s3 H3 scope ce fp) pl σ1 H1 s1 → Inv X pins σ H1 s1 := fun {pl σ1 H1 s1} I1 => I3.call' (ch := fp) I1.os I1.base I1.hok I1.bare fun b hb => ⟨(f3 b hb).1.2.2.2.1, (f3 b hb).1.2.1, (f3 b hb).1.2.2.2.2.1, (f3 b hb).1.2.2.2.2.2⟩
  have noC : ∀ {pl : List (Addr × Obj)} {σ1 : St} {H1 : Hp} {s1 : Shared}, Inv (X.blk s3 H3 scope ce fp) pl σ1 H1 s1 → H1 s3.heap.objs.size = none := fun {pl σ1 H1 s1} I1 => by
    have z : H1 ce.locals = none := I1.free
    rw [cL] at z
    exact z
  have atC : ∀ {pl : List (Addr × Obj)} {σ1 : St} {H1 : Hp} {s1 : Shared}, Inv (X.blk s3 H3 scope ce fp) pl σ1 H1 s1 → ∃ m, s1.heap.Ns s3.heap.objs.size m := fun {pl σ1 H1 s1} I1 => by
    obtain ⟨m, hn, _⟩ := I1.loc
    have hn : s1.heap.Ns ce.locals m := hn
    rw [cL] at hn
    exact ⟨m, hn⟩
  let xe : Value → Shared → Prop := notedBy (model X.prog X.w) X.A ce fun e s1 => CompEnd (model X.prog X.w) X.A X.xe (assign (.Name y py) X.env) (fun _ s2 => SP X pins D0 .next s2) (.ref D) cv (.error e) s1
  have pass : Passes (L2.CX X.prog X.w) ((X.blk s3 H3 scope ce fp).wish xe) EE := fun pl σ1 H1 s1 u s5 I1 c => by
    have I1 : Inv (X.blk s3 H3 scope ce fp) pl σ1 H1 s1 := I1.unwish
    have IX := back I1
    obtain ⟨m, hn⟩ := atC I1
    have fC := I3.fpOk (Nat.le_refl _) (noC I1)
    have nC : s3.heap.objs.size ∉ frs X.stack := by
      rw [hst]
      intro z
      unfold frs at z
      rw [List.filterMap_cons, hfe] at z
      rcases List.mem_cons.mp z with z | z
      · exact fC.2.1 z
      · exact fC.2.2.1 z
    have c : L2.CX X.prog X.w X.stack H1 s1 EE u s5 := c
    obtain ⟨a, B, H9, cls, d, e1, fl, hok, ub, na, os, ag, hE⟩ := c
    have c2 : L2.CX X.prog X.w X.stack H1 s1 (fun cls d H' => EE cls d H' ∧ H' s3.heap.objs.size = none) u s5 := by
      obtain ⟨oC, es, ep, eC, _⟩ := id hn
      exact ⟨a, B, H9, cls, d, e1, fl, hok, ub, na, os, ag, hE, ub.free _ _ eC (noC I1)⟩
    have x : XE X (fun cls d σ H => W cls d σ H ∧ H s3.heap.objs.size = none) u s5 := XE.of_call IX (fun cls d H' z => ⟨hW _ _ _ _ z.1, z.2⟩) c2
    have hC : s5.heap.Ns s3.heap.objs.size m := by
      obtain ⟨oC, es, ep, eC, r⟩ := hn
      exact ⟨oC, es, ep, fl.1 _ _ (ub.keep _ _ eC (noC I1) nC), r⟩
    exact comp_raised hst hfe hpn tk cF cvF cvL fC.2.1 nC fC.2.2.2.1 fC.2.2.2.2.1 x hC
  have pe := pe xe pass
  have loop : codeAny (model X.prog X.w) X.A (.compLoop (.ListComp elt [⟨tg, iter, ifs, 0⟩] scope pos) 0 (.ref it) (.ref D) ce) (CompEnd (model X.prog X.w) X.A X.xe (assign (.Name y py) X.env) (fun _ s2 => SP X pins D0 .next s2) (.ref D) cv) s4 := by
    refine compLoop_any (fun n s1 => ∃ i H1, Inv (X.blk s3 H3 scope ce fp) [] (wipe σ (own.map (·.2))) H1 s1 ∧ tn i s1.heap ∧ (∀ b ∈ fp, H1 b = none) ∧ W1 i n H1) ?_ m0 ⟨0, H3, I4, st4, nfp, w0⟩
    rintro n s5 ⟨j, H5, I5, st5, n5, w5⟩
    rcases turn j n H5 w5 with ⟨stop, qq⟩ | ⟨go, Nx, hNx, step⟩
    · have td := T.done (X.blk s3 H3 scope ce fp) rfl rfl rfl hc j [] s5 _ H5 (fun _ _ => False) I5 (stat I5 n5) st5 stop
      refine thnF td fun r s6 ⟨hr, I6⟩ => ?_
      subst hr
      have I7 := back I6
      obtain ⟨m, hn⟩ := atC I6
      have f := I3.fpOk (Nat.le_refl _) (noC I6)
      show wpAny _ _ (assign (.Name y py) X.env (.ref D)) _ _ _
      refine wpAny_assign_Name (store_ok2 (v := V.ref D) I7 hN hy (.inl hyl) rfl (fun s8 I8 ⟨a, sb, ha⟩ => ?_) (.inr hyl))
      obtain ⟨f0, f1, f2, f3, f4, f5⟩ := f
      have haC : s3.heap.objs.size ≠ a := by
        rcases ha with z | z
        · rw [z]; exact f1
        · exact fun e => f4 y a z e.symm
      rw [cvL]
      refine ⟨m, hn.sameBut sb haC, fun h9 sb9 => ?_⟩
      exact ⟨_, H5, I8.turned (t' := s8.toks) (fun b o hb e => (sb9.2 b hb).trans e) f0 f1 f3 f4 f5, qq⟩
    · have ti := T.item (X.blk s3 H3 scope ce fp) rfl rfl rfl hc j [] s5 _ H5 (fun _ _ => False) I5 (stat I5 n5) st5 go
      refine thnF ti fun r s6 ⟨u, hr, h6⟩ => ?_
      subst hr
      refine thnF h6 fun _ s7 ⟨x, H7, I7, r7, y7, st7, n7⟩ => ?_
      have I8 := I7.pinned (stat I7 n7) (T.obj _ _ st7)
      refine thnF (pg.run _ s7 _ H7 x u _ I8 r7 (step x H7 y7)) fun _ s8 ⟨σ8, H8, I9, hw8, q8⟩ => ?_
      refine thnF (pt.run _ s8 σ8 H8 _ I9 q8) fun b s9 ⟨H9, IA, q9⟩ => ?_
      have fin : ∀ {s1 : Shared} {H1 : Hp}, Inv (X.blk s3 H3 scope ce fp) ([] ++ pinsAt fp s7.heap) σ8 H1 s1 → Nx H1 → ∃ m, m < n ∧ ∃ i H1, Inv (X.blk s3 H3 scope ce fp) [] (wipe σ (own.map (·.2))) H1 s1 ∧ tn i s1.heap ∧ (∀ b ∈ fp, H1 b = none) ∧ W1 i m H1 := fun {s1 H1} I1 nx => by
        obtain ⟨m1, hm, w1⟩ := hNx H1 nx
        have pin1 : ∀ b ∈ fp, ∀ o, s7.heap.get? b = some o → s1.heap.get? b = some o ∧ H1 b = none := fun b hb o e =>
          let z := I1.pin (b, o) (List.mem_append_right _ (List.mem_append_right _ (mem_pinsAt hb e)))
          ⟨z.1, z.2.1⟩
        have hl : (wipe σ (own.map (·.2))).length = σ8.length := by rw [← hw8, wipe_length]
        refine ⟨m1, hm, j + 1, H1, (I1.unpinned (pins := [])).weak hl (fun j v e => ?_), T.keep _ _ _ st7 fun b hb o e => (pin1 b hb o e).1, fun b hb => ?_, w1⟩
        · rw [← hw8] at e
          exact (wipe_some e).1
        · obtain ⟨o, e, _⟩ := T.obj _ _ st7 b hb
          exact (pin1 b hb o e).2
      cases b with
      | false =>
        simp only [Bool.false_eq_true, if_false] at q9 ⊢
        exact fin IA q9
      | true =>
        simp only [if_true] at q9 ⊢
        refine wpAny_mono (pe.run _ s9 σ8 H9 _ (IA.wish xe) q9) (fun z sA ⟨yv, HA, IB, rA, acc, hDA, hzA, nx⟩ => ?_) fun _ _ z => z
        exact app_ok (X := X.blk s3 H3 scope ce fp) IB.unwish hDA hzA rA fun sB IC => fin IC nx
  exact codeAny_compStart_list loop (T.self X.A 0 _ _ _ st4 loop)
end
end L2

/-! text L6x -/
set_option Elab.async false
set_option linter.all false
set_option maxRecDepth 100000
set_option maxHeartbeats 4000000
namespace K6
open PySem PySem.Spec PyProof.Rows L2
open L2 (KDict)
local macro_rules | `(tactic| walk_at "lk") => `(tactic| (repeat (first | with_reducible exact lk_hd _ _ _ | with_reducible exact lk_nil _ | refine lk_tl (by decide +kernel) ?_)))
/-- the module's dict of the signs of guesses -/
structure GW (K : PySem.W.Frag) (mg : Str → Option Value) (w : World) : Prop where
  ex : ∃ (d : Addr) (es : Array DictEntry) (n : Nat), mg "GUESS_WORDS" = some (.ref d) ∧ KDict K w d es n ∧ (∀ z : Str, ∃ r, PySem.W.nsIn K d z = some r ∧ r.isSome = ([("=" : Str), "+"] : List Str).contains z) ∧
    ∀ z : Str, ([("=" : Str), "+"] : List Str).contains z = true → ∃ v, KDct K w d z v
def guessM (sc : ScM) (ws : List Str) (n : Nat) : Rd' Str := match ws with
  | [a, b, c, d] => if (a == ("guess" : Str) && (sc.cells.contains b && ([("=" : Str), "+"] : List Str).contains c)) = true then (match valueM sc d n with
      | .ok r => .ok (b, r.2)
      | .error l => .error l) else .error (n + 1)
  | _ => .error (n + 1)
def RepG (b : Str) (v : V) (H : Hp) : Prop := ∃ (t : Addr) (y z : V), v = .ref t ∧ H t = some (.tup [.str b, y, z])
def spGuess (K : PySem.W.Frag) (C CB CS : Addr) : Sp := fun vs H Q E => ∃ (p q a : Addr) (rows : List Str) (n : Nat) (sc : ScM) (ws : List Str), vs = [.ref p, .ref q, .ref a] ∧ Lns C H p rows n ∧ Sc K CS H q sc ∧ SqL K H a (ws.map V.str) ∧ Wds ws ∧ ws.length = 4 ∧
  Outs C CB p rows H Q E (guessM sc ws n) RepG
section
variable {P : Program} {w : World} {K : PySem.W.Frag} {mg : Str → Option Value} {base : Heap} {C CB CS fB : Addr}
theorem scReadGuess : FnScope ["lines", "scope", "words"] ["lines", "scope", "words"] (defScope sReadGuess) := ⟨rfl, rfl, rfl, by decide +kernel, rfl, by decide +kernel, by decide +kernel⟩
theorem ok_read_guess {f : Addr} {fd : FuncData} (F : Fun K "read_guess" "read_guess" sReadGuess f fd) (W : WK P w K mg base C CB CS) (G : GW K mg w) : FnOk P w K mg base (L2.CX P w) 6 f fd ["lines", "scope", "words"] (spGuess K C CB CS) := by
  obtain ⟨L, S, T, V0⟩ := W
  refine F.okX scReadGuess (fun vs H Q E h => ?_) (fun cdv A outer s H vs Q E hr h => ?_)
  · obtain ⟨p, q, a, rows, n, sc, ws, rfl, _⟩ := h
    rfl
  · obtain ⟨p, q, a, rows, n, sc, ws, rfl, hL, hS, ha, hw, h4, k⟩ := h
    obtain ⟨x0, x1, x2, x3, rfl⟩ := len4 h4
    obtain ⟨fN, dN, mN, bN, GN⟩ := L.need
    obtain ⟨fV, dV, mV, kV, bV, GV⟩ := V0
    obtain ⟨dG, es, nG, mG, KD, hIn, hGet⟩ := G.ex
    refine ⟨_, pss_cons (ps_expr (pe_meth (pv 0) L.cl mN GN (hr.mono (by decide)) bN .nil (pas (takes_of rfl rfl rfl rfl)) (pa_cons (pe_and (pe_cmpR op_eq (pe_ix ix_list (pv 2) pe_int (fun _ _ => rfl)) pe_str (nomark _))
        (pe_and (pe_cmpR (op_inN (hu_of hr)) (pe_ix ix_list (pv 2) pe_int (fun _ _ => rfl)) (pe_fld (pv 1) rfl) rfl) (pe_one (pe_cmpR (op_in_kd KD) (pe_ix ix_list (pv 2) pe_int (fun _ _ => rfl)) (pe_glob (v := .ref dG) rfl mG rfl) rfl)))) pa_nil)))
      (pss_one (ps_ret (pe_tup (pa_cons (pe_ix ix_list (pv 2) pe_int (fun _ _ => rfl)) (pa_cons (pe_ix ix_kdict (pe_glob (v := .ref dG) rfl mG rfl) (pe_ix ix_list (pv 2) pe_int (fun _ _ => rfl)) (fun _ _ => rfl)) (pa_cons (pe_call GV hr rfl mV kV bV .nil (pas (takes_of rfl rfl rfl rfl)) (pa_cons (pv 0) (pa_cons (pv 1) (pa_cons (pe_ix ix_list (pv 2) pe_int (fun _ _ => rfl)) pa_nil)))) pa_nil)))))), ?_⟩
    obtain ⟨_, _, dx, r, hp, hr'⟩ := id hL
    obtain ⟨dx2, vc, vk, va, vl, hq, a1, a2, a3, a4⟩ := hS.ex
    have em : guessM sc [x0, x1, x2, x3] n = if (x0 == ("guess" : Str) && (sc.cells.contains x1 && ([("=" : Str), "+"] : List Str).contains x2)) = true then (match valueM sc x3 n with
      | .ok r => .ok (x1, r.2)
      | .error l => .error l) else .error (n + 1) := rfl
    refine ⟨_, rfl, p, dx, _, rfl, hp, lf_no _ _ (by decide +kernel) (by decide +kernel), _, rfl, a, _, _, _, rfl, rfl, ha, atI_nat (j := 0) rfl, rfl, _, rfl, ?_⟩
    rw [dstr]
    cases c0 : x0 == ("guess" : Str) with
    | false =>
      refine iteF ?_
      show spNeed C CB [V.ref p, V.bl _] H (fun _ _ => _) _
      refine need_of (b := false) hL (Kp.refl p H) _ k (fun e => ?_) (fun e => by cases e)
      rw [em, c0]
      rfl
    | true =>
      refine iteT ⟨_, rfl, a, _, _, _, rfl, rfl, ha, atI_nat (j := 1) rfl, _, rfl, q, CS, dx2, _, _, rfl, hq, S.cl, S.n2, (by unfold scf; walk_at "lk"), x1, _, rfl, a1, _, rfl, ?_⟩
      show (if (sc.cells.contains x1) = true then _ else _)
      cases c1 : sc.cells.contains x1 with
      | false =>
        refine iteF ?_
        show spNeed C CB [V.ref p, V.bl _] H (fun _ _ => _) _
        refine need_of (b := false) hL (Kp.refl p H) _ k (fun e => ?_) (fun e => by cases e)
        rw [em, c0, c1]
        rfl
      | true =>
        obtain ⟨r2, e2, e3⟩ := hIn x2
        refine iteT ⟨_, rfl, a, _, _, _, rfl, rfl, ha, atI_nat (j := 2) rfl, x2, r2, rfl, rfl, e2, ?_⟩
        rw [e3]
        show spNeed C CB [V.ref p, V.bl _] H (fun _ _ => _) _
        refine need_of (b := ([("=" : Str), "+"] : List Str).contains x2) hL (Kp.refl p H) _ k (fun e => ?_) (fun e => ?_)
        · rw [em, c0, c1, e]
          rfl
        · obtain ⟨v2, hv2⟩ := hGet x2 e
          have em2 : guessM sc [x0, x1, x2, x3] n = match valueM sc x3 n with
            | .ok r => .ok (x1, r.2)
            | .error l => .error l := by
            rw [em, c0, c1, e]
            rfl
          refine ⟨_, rfl, a, _, _, _, rfl, rfl, ha, atI_nat (j := 1) rfl, _, rfl, a, _, _, _, rfl, rfl, ha, atI_nat (j := 2) rfl, dG, x2, v2, rfl, rfl, hv2, _, rfl, _, rfl, _, rfl, a, _, _, _, rfl, rfl, ha, atI_nat (j := 3) rfl, ?_⟩
          refine ⟨p, q, rows, n, sc, x3, rfl, hL, hS, (hw.word x3 (by simp)).2, ?_⟩
          refine outs_of k (Kp.refl p H) (fun l e1 => by rw [em2, e1]) fun u n' e1 H' v k1 l1 _ => ?_
          refine ⟨(by show 3 ≤ sizeLine; decide), fun t ht => ?_⟩
          exact outs_ok k (a := x1) (n := n') (by rw [em2, e1]) (k1.trans (Kp.of (Same.new ht))) (l1.same (Same.new ht)) ⟨t, _, _, rfl, upd_same⟩
/-! read_ask -/
def gNm (sc : ScM) (ws : List Str) (n i : Nat) : Option Str := match guessM sc ((ws.drop (3 + 4 * i)).take 4) n with
  | .ok r => some r.1
  | .error _ => none
def askM (sc : ScM) (ws : List Str) (n : Nat) : Rd' Unit :=
  if ((ws.length == 3 || (ws.length == 7 || ws.length == 11)) && sc.lets.contains (ws.getD 1 "")) = true then (match valueM sc (ws.getD 2 "") n with
    | .error l => .error l
    | .ok _ => if ((List.range ((ws.length - 3) / 4)).all fun i => (gNm sc ws n i).isSome) = true then (if (ws.length == 11 && gNm sc ws n 0 == gNm sc ws n 1) = true then .error (n + 1) else .ok ((), n)) else .error (n + 1))
  else .error (n + 1)
theorem lc_rangeC {lo c : Int} {n : Nat} {g : TG} {tt : TT} {te : TE} {vs : List Nat} {σ : L2.St} {H1 : Hp} {D : Addr} {Qd : Hp → Prop} (Pv : Nat → Hp → Prop) (h0 : Pv 0 (upd H1 D (.lst [])))
    (hs : ∀ i H, i < n → Pv i H → g (.int (lo + (i : Nat) * c)) (wipe σ vs) H fun σ2 H2 => wipe σ2 vs = wipe σ vs ∧ tt σ2 H2 fun b H3 =>
      if b = true then te σ2 H3 fun y H4 => ∃ acc, H4 D = some (.lst acc) ∧ acc.length < sizeLine ∧ Pv (i + 1) (upd H4 D (.lst (acc ++ [y]))) else Pv (i + 1) H3) (hd : ∀ H, Pv n H → Qd H) :
    ∃ W : Nat → Nat → Hp → Prop, (∃ m, W 0 m (upd H1 D (.lst []))) ∧ ∀ i m H, W i m H →
      ((Itc lo c n).stop i H ∧ Qd H) ∨ ((Itc lo c n).go i H ∧ ∃ Nx : Hp → Prop, (∀ H', Nx H' → ∃ m', m' < m ∧ W (i + 1) m' H') ∧ ∀ x H', (Itc lo c n).yld i H x H' → g x (wipe σ vs) H' fun σ2 H2 => wipe σ2 vs = wipe σ vs ∧ tt σ2 H2 fun b H3 =>
        if b = true then te σ2 H3 fun y H4 => ∃ acc, H4 D = some (.lst acc) ∧ acc.length < sizeLine ∧ Nx (upd H4 D (.lst (acc ++ [y]))) else Nx H3) := by
  refine ⟨fun i m H => m = n - i ∧ i ≤ n ∧ Pv i H, ⟨n, by simp, Nat.zero_le _, h0⟩, ?_⟩
  rintro i m H ⟨rfl, hi, p⟩
  by_cases hlt : i < n
  · refine .inr ⟨hlt, Pv (i + 1), fun H' p' => ⟨n - (i + 1), by omega, rfl, hlt, p'⟩, fun x H' y => ?_⟩
    obtain ⟨e, y⟩ := y
    subst e y
    exact hs i _ hlt p
  · have e : i = n := by omega
    subst e
    exact .inl ⟨Nat.le_refl _, hd H p⟩
theorem cutV_nat (ws : List Str) (a b : Nat) (h1 : a ≤ b) (h2 : b ≤ ws.length) : cutV (ws.map V.str) (some ((a : Nat) : Int)) (some ((b : Nat) : Int)) = ((ws.drop a).take (b - a)).map V.str := by
  unfold cutV
  rw [HT.sIx_nat, HT.sIx_nat, List.length_map, Nat.min_eq_left h2, Nat.min_eq_left (Nat.le_trans h1 h2), List.map_take, List.map_drop]
theorem getS {ws : List Str} {i : Nat} (h : i < ws.length) : (ws.map V.str)[i]? = some (V.str (ws.getD i "")) := by
  rw [List.getElem?_map, List.getD_eq_getElem?_getD, List.getElem?_eq_getElem h]
  rfl
theorem getS_mem {ws : List Str} {i : Nat} (h : i < ws.length) : ws.getD i "" ∈ ws := by
  rw [List.getD_eq_getElem?_getD, List.getElem?_eq_getElem h]
  exact List.getElem_mem h
theorem inV3 (m : Nat) : inV (V.int (m : Int)) [V.int 3, V.int 7, V.int 11] = (m == 3 || (m == 7 || m == 11)) := by
  show (((3 : Int) == (m : Int)) || (((7 : Int) == (m : Int)) || (((11 : Int) == (m : Int)) || false))) = _
  have e : ∀ j : Nat, ((j : Int) == (m : Int)) = (m == j) := fun j => by
    by_cases h : m = j
    · rw [h, beq_self_eq_true, beq_self_eq_true]
    · rw [beq_eq_false_iff_ne.mpr h, beq_eq_false_iff_ne.mpr (by omega)]
  rw [show (3 : Int) = ((3 : Nat) : Int) from rfl, show (7 : Int) = ((7 : Nat) : Int) from rfl, show (11 : Int) = ((11 : Nat) : Int) from rfl, e, e, e, Bool.or_false]
theorem rgC4 {m : Nat} (h : m = 3 ∨ m = 7 ∨ m = 11) : RgC 3 (m : Int) 4 ((m - 3) / 4) := by
  rcases h with rfl | rfl | rfl <;> exact ⟨by decide, by decide, by decide +kernel, by decide +kernel⟩
theorem gNm_some {sc : ScM} {ws : List Str} {n i : Nat} {b : Str} (h : gNm sc ws n i = some b) : guessM sc ((ws.drop (3 + 4 * i)).take 4) n = .ok (b, n) := by
  unfold gNm at h
  have key : ∀ (l : List Str) (r : Str × Nat), guessM sc l n = .ok r → r.2 = n := by
    intro l r e
    unfold guessM at e
    split at e
    · split at e
      · split at e
        · rename_i r' e'
          unfold valueM at e'
          split at e'
          · cases e'; cases e; rfl
          · split at e'
            · cases e'; cases e; rfl
            · cases e'
        · cases e
      · cases e
    · cases e
  split at h
  · rename_i r e
    have k := key _ _ e
    cases h
    rw [e]
    congr 1
    obtain ⟨r1, r2⟩ := r
    dsimp only at k ⊢
    rw [k]
  · cases h
theorem guessM_err {sc : ScM} {l : List Str} {n e : Nat} (h : guessM sc l n = .error e) : e = n + 1 := by
  have hv : ∀ x, valueM sc x n = .error e → e = n + 1 := fun x h => by
    unfold valueM at h
    split at h
    · cases h
    · split at h
      · cases h
      · cases h
        rfl
  unfold guessM at h
  split at h
  · split at h
    · split at h
      · cases h
      · rename_i l' e'
        cases h
        exact hv _ e'
    · cases h
      rfl
  · cases h
    rfl
theorem gNm_none {sc : ScM} {ws : List Str} {n i : Nat} (h : gNm sc ws n i = none) : guessM sc ((ws.drop (3 + 4 * i)).take 4) n = .error (n + 1) := by
  unfold gNm at h
  split at h
  · cases h
  · rename_i e e'
    rw [e', guessM_err e']
theorem valueM_ok {sc : ScM} {x : Str} {n n' : Nat} {u : Unit} (h : valueM sc x n = .ok (u, n')) : n' = n := by
  unfold valueM at h
  split at h
  · cases h; rfl
  · split at h
    · cases h; rfl
    · cases h
theorem RepG.same {b : Str} {v : V} {H H' : Hp} (s : Same H H') (h : RepG b v H) : RepG b v H' := by
  obtain ⟨t, y, z, e, h⟩ := h
  exact ⟨t, y, z, e, s _ _ h⟩
theorem scReadAsk : FnScope ["lines", "scope", "words", "worth", "guesses", "at"] ["lines", "scope", "words"] (defScope sReadAsk) := ⟨rfl, rfl, rfl, by decide +kernel, rfl, by decide +kernel, by decide +kernel⟩
theorem ok_read_ask {f : Addr} {fd : FuncData} (F : Fun K "read_ask" "read_ask" sReadAsk f fd) (W : WK P w K mg base C CB CS) (hR : mg "range" = none) (hT : mg "tuple" = none) (GG0 : FnAt P w K mg base (L2.CX P w) 6 "read_guess" ["lines", "scope", "words"] (spGuess K C CB CS)) : FnOk P w K mg base (L2.CX P w) 7 f fd ["lines", "scope", "words"] (spWords3 K C CB CS askM) := by
  obtain ⟨L, S, T, V0⟩ := W
  refine F.okX scReadAsk (fun vs H Q E h => ?_) (fun cdv A outer s H vs Q E hr h => ?_)
  · obtain ⟨p, q, a, rows, n, sc, ws, rfl, _⟩ := h
    rfl
  · obtain ⟨p, q, a, rows, n, sc, ws, rfl, hL, hS, ha, hw, hne, k⟩ := h
    obtain ⟨fN, dN, mN, bN, GN⟩ := L.need
    obtain ⟨fV, dV, mV, kV, bV, GV⟩ := V0
    obtain ⟨fG, dG, mG, kG, bG, GG⟩ := GG0
    refine ⟨_, pss_cons (ps_expr (pe_meth (pv 0) L.cl mN GN (hr.mono (by decide)) bN .nil (pas (takes_of rfl rfl rfl rfl)) (pa_cons (pe_and (pe_cmpR op_in_seq (pe_callB call_len_seq (by rfl) T.len PySem.boot_len (pa_cons (pv 2) pa_nil)) (pe_tup (pa_cons pe_int (pa_cons pe_int (pa_cons pe_int pa_nil)))) rfl)
        (pe_one (pe_cmpR (op_inN (hu_of hr)) (pe_ix ix_list (pv 2) pe_int (fun _ _ => rfl)) (pe_fld (pv 1) rfl) rfl))) pa_nil)))
      (pss_cons (ps_set (i := 3) scReadAsk.nd rfl (Or.inl rfl) (pe_call GV (hr.mono (by decide)) rfl mV kV bV .nil (pas (takes_of rfl rfl rfl rfl)) (pa_cons (pv 0) (pa_cons (pv 1) (pa_cons (pe_ix ix_list (pv 2) pe_int (fun _ _ => rfl)) pa_nil)))))
      (pss_cons (ps_setLcX (EE := E) rfl rfl rfl (takes_of rfl rfl rfl rfl) (fun _ _ _ _ h => h) (i := 4) (own := [("at", 5)]) (g := gName 5) (tt := tYes) rfl scReadAsk.nd rfl rfl (sw_true rfl rfl rfl (by decide +kernel)) (pi_range3 rfl hR (pa_cons pe_int (pa_cons (pe_callB call_len_seq (by rfl) T.len PySem.boot_len (pa_cons (pv 2) pa_nil)) (pa_cons pe_int pa_nil))))
          (blkOk_by (own := [("at", 5)]) (N := ["lines", "scope", "words", "worth", "guesses", "at"]) (sc := defScope sReadAsk) (by decide +kernel)) (fun _ _ _ _ _ => pg_name (i := 5) scReadAsk.nd rfl (Or.inl rfl)) (fun _ _ _ _ _ => pts_nil)
          (fun _ _ _ _ _ _ hpx => by exact (pe_call GG hr rfl mG kG bG .nil hpx (pa_cons (pv 0) (pa_cons (pv 1) (pa_cons (pe_slice (show SlR _ (rSlL K) from sl_list) (pv 2) (po_some (pv 5)) (po_some (pe_op op_add (pv 5) pe_int))) pa_nil))))))
      (pss_cons (ps_expr (pe_meth (pv 0) L.cl mN GN (hr.mono (by decide)) bN .nil (pas (takes_of rfl rfl rfl rfl)) (pa_cons (pe_or (pe_cmpR op_lt (pe_callB call_len_seq (by rfl) T.len PySem.boot_len (pa_cons (pv 4) pa_nil)) pe_int (nomark _))
        (pe_one (pe_cmpR op_ne (pe_ix ix_tup (pe_ix ix_list (pv 4) pe_int (fun _ _ => rfl)) pe_int (fun _ _ => rfl)) (pe_ix ix_tup (pe_ix ix_list (pv 4) pe_int (fun _ _ => rfl)) pe_int (fun _ _ => rfl)) (nomark _)))) pa_nil)))
      (pss_one (ps_ret (pe_tup (pa_cons pe_str (pa_cons (pe_ix ix_list (pv 2) pe_int (fun _ _ => rfl)) (pa_cons (pv 3) (pa_cons (pe_callTy call_tuple_of (by rfl) hT (by decide +kernel) (pa_cons (pv 4) pa_nil)) (pa_cons (pe_op op_add (pe_fld (pv 0) rfl) pe_int) pa_nil))))))))))), ?_⟩
    obtain ⟨_, _, dx, r, hp, hr'⟩ := id hL
    refine ⟨_, rfl, p, dx, _, rfl, hp, lf_no _ _ (by decide +kernel) (by decide +kernel), _, rfl, a, _, rfl, .inl ha, (by decide), fun t1 ht1 => ?_⟩
    have s1 := Same.new (o := .tup [V.int 3, V.int 7, V.int 11]) ht1
    have ht2 : (upd H t1 (.tup [V.int 3, V.int 7, V.int 11])) t1 = some (.tup [V.int 3, V.int 7, V.int 11]) := upd_same
    generalize hH1 : upd H t1 (.tup [V.int 3, V.int 7, V.int 11]) = H1 at s1 ht2
    have hL1 := hL.same s1
    have ha1 := s1.seq ha
    have hS1 := Sc.kp hL (Kp.of s1) hS
    refine ⟨t1, _, rfl, .inr (SqT.of ht2), rfl, rfl, _, rfl, ?_⟩
    show (if (inV (V.int ((ws.map V.str).length : Int)) [V.int 3, V.int 7, V.int 11]) = true then _ else _)
    rw [inV3, List.length_map]
    cases c0 : (ws.length == 3 || (ws.length == 7 || ws.length == 11)) with
    | false =>
      refine iteF ?_
      show spNeed C CB [V.ref p, V.bl _] H1 (fun _ _ => _) _
      refine need_of (b := false) hL1 (Kp.of s1) _ k (fun e => ?_) (fun e => by cases e)
      unfold askM
      rw [c0]
      rfl
    | true =>
      have hlen : ws.length = 3 ∨ ws.length = 7 ∨ ws.length = 11 := by
        simpa only [Bool.or_eq_true, beq_iff_eq] using c0
      obtain ⟨dx2, vc, vk, va, vl, hq, a1, a2, a3, a4⟩ := hS1.ex
      refine iteT ⟨_, rfl, a, _, _, _, rfl, rfl, ha1, atI_nat (j := 1) (getS (by omega)), _, rfl, q, CS, dx2, _, _, rfl, hq, S.cl, S.n6, (by unfold scf; walk_at "lk"), _, _, rfl, a4, ?_⟩
      show spNeed C CB [V.ref p, V.bl _] H1 (fun _ _ => _) _
      refine need_of (b := sc.lets.contains (ws.getD 1 "")) hL1 (Kp.of s1) _ k (fun e => ?_) (fun e => ?_)
      · unfold askM
        rw [c0, e]
        rfl
      · have em : askM sc ws n = (match valueM sc (ws.getD 2 "") n with
            | .error l => .error l
            | .ok _ => if ((List.range ((ws.length - 3) / 4)).all fun i => (gNm sc ws n i).isSome) = true then (if (ws.length == 11 && gNm sc ws n 0 == gNm sc ws n 1) = true then .error (n + 1) else .ok ((), n)) else .error (n + 1)) := by
          unfold askM
          rw [c0, e]
          rfl
        refine ⟨_, rfl, _, rfl, _, rfl, a, _, _, _, rfl, rfl, ha1, atI_nat (j := 2) (getS (by omega)), ?_⟩
        refine ⟨p, q, rows, n, sc, _, rfl, hL1, hS1, (hw.word _ (getS_mem (by omega))).2, ?_⟩
        refine outs_of k (Kp.of s1) (fun l e1 => by rw [em, e1]) fun u n' e1 H2 vw k2 l2 _ => ?_
        obtain rfl := valueM_ok e1
        rw [e1] at em
        have k12 := (Kp.of s1).trans k2
        have ha2 := sql_kp hL1 k2 ha1
        have hS2 := Sc.kp hL1 k2 hS1
        refine ⟨_, rfl, a, _, rfl, .inl ha2, 3, _, 4, (ws.length - 3) / 4, (by rw [List.length_map]), rgC4 hlen, fun D hD => ?_⟩
        have hpD : D ≠ p := fun z => by
          obtain ⟨_, _, dx3, r3, hp3, _⟩ := id l2
          rw [z, hp3] at hD
          cases hD
        refine lc_rangeC (fun i H' => Kp p H2 H' ∧ Lns C H' p rows n' ∧ ∃ acc, H' D = some (.lst acc) ∧ acc.length = i ∧ ∀ j, j < i → ∃ b v, gNm sc ws n' j = some b ∧ acc[j]? = some v ∧ RepG b v H')
          ⟨Kp.upd_new l2 (Kp.refl p H2) hD, l2.upd_new (Kp.refl p H2) l2 hD, [], upd_same, rfl, fun j hj => absurd hj (Nat.not_lt_zero j)⟩ ?_ ?_
        · rintro i H3 hi ⟨k3, l3, acc, hacc, hal, hall⟩
          have ha3 := sql_kp l2 k3 ha2
          have hS3 := Sc.kp l2 k3 hS2
          have ei : (3 + (i : Int) * 4) = ((3 + 4 * i : Nat) : Int) := by omega
          have hb : 3 + 4 * i + 4 ≤ ws.length := by omega
          have ec : cutV (ws.map V.str) (some (3 + (i : Int) * 4)) (some (3 + (i : Int) * 4 + 4)) = ((ws.drop (3 + 4 * i)).take 4).map V.str := by
            rw [ei, show (((3 + 4 * i : Nat) : Int) + 4) = ((3 + 4 * i + 4 : Nat) : Int) from by omega, cutV_nat ws _ _ (by omega) hb, show 3 + 4 * i + 4 - (3 + 4 * i) = 4 from by omega]
          refine ⟨rfl, ?_⟩
          refine ⟨_, rfl, _, rfl, _, rfl, _, rfl, _, rfl, _, rfl, _, _, rfl, rfl, _, rfl, a, _, rfl, ha3, fun q5 hq5 => ?_⟩
          have s5 := Same.new (o := .lst (cutV (ws.map V.str) (some (3 + (i : Int) * 4)) (some (3 + (i : Int) * 4 + 4)))) hq5
          have hq6 : (upd H3 q5 (.lst (cutV (ws.map V.str) (some (3 + (i : Int) * 4)) (some (3 + (i : Int) * 4 + 4))))) q5 = some (.lst (((ws.drop (3 + 4 * i)).take 4).map V.str)) := by rw [upd_same, ec]
          generalize hH5 : upd H3 q5 (.lst (cutV (ws.map V.str) (some (3 + (i : Int) * 4)) (some (3 + (i : Int) * 4 + 4)))) = H5 at s5 hq6
          have l5 := l3.same s5
          refine ⟨p, q, q5, rows, n', sc, (ws.drop (3 + 4 * i)).take 4, rfl, l5, Sc.kp l3 (Kp.of s5) hS3, SqL.of hq6, ⟨by rw [List.length_take]; omega, fun x hx => hw.word x (List.mem_of_mem_drop (List.mem_of_mem_take hx))⟩, by rw [List.length_take, List.length_drop]; omega, ?_⟩
          cases hgi : gNm sc ws n' i with
          | none =>
            rw [gNm_none hgi]
            have em2 : askM sc ws n' = .error (n' + 1) := by
              have z : ((List.range ((ws.length - 3) / 4)).all fun i => (gNm sc ws n' i).isSome) = false := by
                cases q : ((List.range ((ws.length - 3) / 4)).all fun i => (gNm sc ws n' i).isSome) with
                | false => rfl
                | true =>
                  have q2 := List.all_eq_true.mp q i (List.mem_range.mpr hi)
                  rw [hgi] at q2
                  cases q2
              rw [em, z]
              rfl
            have z := outs_err k em2
            exact ⟨z.1, fun H6 d6 k6 h6 => z.2 H6 d6 (k12.trans (k3.trans ((Kp.of s5).trans k6))) h6⟩
          | some b0 =>
            have hb0 := hgi
            rw [gNm_some hb0]
            refine fun H6 v k6 l6 rep => ?_
            have k36 := (Kp.of s5).trans k6
            have k26 := k3.trans k36
            refine ⟨acc, k36.ne D _ hpD hacc, (by rw [sizeLine_eq]; omega), Kp.upd_new l2 k26 hD, l2.upd_new k26 l6 hD, acc ++ [v], upd_same, (by rw [List.length_append, hal]; rfl), fun j hj => ?_⟩
            have up : ∀ {b : Str} {v' : V} {t : Addr}, t ≠ D → ∀ {y z : V}, H6 t = some (.tup [.str b, y, z]) → (upd H6 D (.lst (acc ++ [v]))) t = some (.tup [.str b, y, z]) := fun ht _ _ e => by
              rw [upd_ne ht]
              exact e
            have rup : ∀ {b : Str} {v' : V}, RepG b v' H6 → RepG b v' (upd H6 D (.lst (acc ++ [v]))) := fun ⟨t, y, z, e, e2⟩ => by
              refine ⟨t, y, z, e, ?_⟩
              rw [upd_ne (ne_of e2 (k36.ne D _ hpD hacc) (by intro z; cases z))]
              exact e2
            by_cases hj2 : j < i
            · obtain ⟨b, v', e1, e2, t, y, z, e3, e4⟩ := hall j hj2
              refine ⟨b, v', e1, by rw [List.getElem?_append_left (by omega)]; exact e2, rup ⟨t, y, z, e3, k36.ne _ _ ?_ e4⟩⟩
              obtain ⟨_, _, dx3, r3, hp3, _⟩ := id l3
              exact ne_of e4 hp3 (by intro z; cases z)
            · have ej : j = i := by omega
              subst ej
              exact ⟨b0, v, hb0, by rw [List.getElem?_append_right (by omega), hal, Nat.sub_self]; rfl, rup rep⟩
        · rintro H3 ⟨k3, l3, acc, hacc, hal, hall⟩
          have call : ((List.range ((ws.length - 3) / 4)).all fun i => (gNm sc ws n' i).isSome) = true := List.all_eq_true.mpr fun j hj => by
            obtain ⟨b, v, g, _⟩ := hall j (List.mem_range.mp hj)
            rw [g]
            rfl
          rw [call] at em
          have em : askM sc ws n' = if (ws.length == 11 && gNm sc ws n' 0 == gNm sc ws n' 1) = true then .error (n' + 1) else .ok ((), n') := em
          obtain ⟨_, _, dx3, r3, hp3, _⟩ := id l3
          have k23 := k12.trans k3
          refine ⟨_, rfl, p, dx3, _, rfl, hp3, lf_no _ _ (by decide +kernel) (by decide +kernel), _, rfl, D, _, rfl, .inl (SqL.of hacc), _, _, rfl, rfl, _, rfl, ?_⟩
          have ha3 := sql_kp l2 k3 ha2
          refine ite2 (fun c2 => ?_) (fun c2 => ?_)
          · have hlt : acc.length < 2 := by
              have z := of_decide_eq_true c2
              omega
            have em1 : askM sc ws n' = .ok ((), n') := by
              rw [em, show (ws.length == 11) = false from beq_eq_false_iff_ne.mpr (by omega)]
              rfl
            show spNeed C CB [V.ref p, V.bl _] H3 (fun _ _ => _) _
            refine need_of (b := true) l3 k23 _ k (fun e => by cases e) (fun _ => ?_)
            · refine ⟨_, rfl, a, _, _, _, rfl, rfl, ha3, atI_nat (j := 1) (getS (by omega)), _, rfl, _, rfl, D, acc, rfl, .inl ⟨SqL.of hacc, fun l hl => ?_⟩⟩
              have s4 := Same.new (o := .tup acc) hl
              obtain ⟨_, _, dx7, r7, hp7, _⟩ := id (l3.same s4)
              refine ⟨_, rfl, p, C, dx7, _, _, rfl, hp7, L.cl, L.nA, lf_at _ _, _, _, rfl, rfl, (by show 5 ≤ sizeLine; decide), fun t ht => ?_⟩
              refine outs_ok k (a := ()) (n := n') em1 (k23.trans (Kp.of (s4.trans (Same.new ht)))) (l3.same (s4.trans (Same.new ht))) trivial

          · have h11 : ws.length = 11 := by
              have z : ¬ acc.length < 2 := fun z => c2 (decide_eq_true (by omega))
              omega
            have hal2 : acc.length = 2 := by omega
            obtain ⟨b0, v0, g0, e0, t0, y0, z0, rfl, r0⟩ := hall 0 (by omega)
            obtain ⟨b1, v1, g1, e1', t1', y1, z1, rfl, r1⟩ := hall 1 (by omega)
            refine ⟨_, rfl, D, _, _, _, rfl, rfl, SqL.of hacc, atI_nat (j := 0) e0, t0, _, _, _, rfl, rfl, SqT.of r0, atI_nat (j := 0) rfl, _, rfl, D, _, _, _, rfl, rfl, SqL.of hacc, atI_nat (j := 1) e1', t1', _, _, _, rfl, rfl, SqT.of r1, atI_nat (j := 0) rfl, rfl, ?_⟩
            have em1 : askM sc ws n' = if (b0 == b1) = true then .error (n' + 1) else .ok ((), n') := by
              rw [em, g0, g1, show (ws.length == 11) = true from beq_iff_eq.mpr h11, Bool.true_and]
              show (if (b0 == b1) = true then _ else _) = _
              rfl
            rw [dstr]
            show spNeed C CB [V.ref p, V.bl _] H3 (fun _ _ => _) _
            refine need_of (b := !(b0 == b1)) l3 k23 _ k (fun e => ?_) (fun e => ?_)
            · rw [em1, show (b0 == b1) = true from by simpa using e]
              rfl
            · have em2 : askM sc ws n' = .ok ((), n') := by
                rw [em1, show (b0 == b1) = false from by simpa using e]
                rfl
              refine ⟨_, rfl, a, _, _, _, rfl, rfl, ha3, atI_nat (j := 1) (getS (by omega)), _, rfl, _, rfl, D, acc, rfl, .inl ⟨SqL.of hacc, fun l hl => ?_⟩⟩
              have s4 := Same.new (o := .tup acc) hl
              obtain ⟨_, _, dx7, r7, hp7, _⟩ := id (l3.same s4)
              refine ⟨_, rfl, p, C, dx7, _, _, rfl, hp7, L.cl, L.nA, lf_at _ _, _, _, rfl, rfl, (by show 5 ≤ sizeLine; decide), fun t ht => ?_⟩
              refine outs_ok k (a := ()) (n := n') em2 (k23.trans (Kp.of (s4.trans (Same.new ht)))) (l3.same (s4.trans (Same.new ht))) trivial

end
end K6

/-! text L7x -/
set_option Elab.async false
set_option linter.all false
set_option maxRecDepth 100000
set_option maxHeartbeats 4000000
namespace K6
open PySem PySem.Spec PyProof.Rows L2
local macro_rules | `(tactic| walk_at "lk") => `(tactic| (repeat (first | with_reducible exact lk_hd _ _ _ | with_reducible exact lk_nil _ | refine lk_tl (by decide +kernel) ?_)))
abbrev sReadBlock : Stmt := top 15
abbrev sReadStatement : Stmt := top 16
abbrev sReadIf : Stmt := top 17
/-! ### the mirror -/
def loopM (st : Nat → Nat → Rd' Nat) (rows : List Str) (d : Nat) : Nat → Nat → Nat → Rd' Nat
  | 0, n, made => .ok (made, n)
  | f + 1, n, made => if (wordsM rows n d).length > 0 then (match st n made with
      | .ok r => loopM st rows d f r.2 r.1
      | .error l => .error l) else .ok (made, n)
def blockM (st : Nat → Nat → Rd' Nat) (rows : List Str) (d n made : Nat) : Rd' Nat := if (wordsM rows n d).length > 0 then loopM st rows d 8 n made else .error (n + 1)
def stepM (made n : Nat) (m : Rd' Unit) : Rd' Nat := match m with
  | .ok r => .ok (made, r.2 + 1)
  | .error l => .error l
def ifM (blk : Nat → Nat → Rd' Nat) (sc : ScM) (rows : List Str) (d ifs n made : Nat) : Rd' Nat :=
  let ws := wordsM rows n d
  if (decide (ifs < 2) && (ws.length == 4 && ws.getD 2 "" == ("=" : Str))) = true then (match valueM sc (ws.getD 1 "") n with
    | .error l => .error l
    | .ok _ => match valueM sc (ws.getD 3 "") n with
      | .error l => .error l
      | .ok _ => match blk (n + 1) made with
        | .error l => .error l
        | .ok r => if (wordsM rows r.2 d == [("else" : Str)]) = true then (match blk (r.2 + 1) made with
            | .error l => .error l
            | .ok r2 => .ok (max r.1 r2.1, r2.2)) else .ok (max r.1 made, r.2))
  else .error (n + 1)
def stmtM (blk : Nat → Nat → Rd' Nat) (sc : ScM) (rows : List Str) (d ifs n made : Nat) : Rd' Nat :=
  let ws := wordsM rows n d
  let w0 := ws.getD 0 ""
  if ws.length = 0 then .error 0 else
  if (w0 == ("if" : Str)) = true then ifM blk sc rows d ifs n made else
  if ([("set" : Str), "add"] : List Str).contains w0 = true then stepM made n (writeM sc ws n) else
  if sc.inHouse = true then stepM made n (endingM sc ws n) else
  if (w0 == ("ask" : Str)) = true then (if made < sc.most then stepM (made + 1) n (askM sc ws n) else .error (n + 1)) else
  stepM made n (shortM sc ws n)
def blockL (sc : ScM) (rows : List Str) : Nat → Nat → Nat → Nat → Nat → Rd' Nat
  | 0, _, _, _, _ => .error 0
  | lv + 1, d, ifs, n, made => blockM (fun n made => stmtM (fun n made => blockL sc rows lv (d + 1) (ifs + 1) n made) sc rows d ifs n made) rows d n made
def RepM (made : Nat) (v : V) (H : Hp) : Prop := ∃ (t : Addr) (y : V), v = .ref t ∧ H t = some (.tup [y, .int made])
theorem RepM.same {b : Nat} {v : V} {H H' : Hp} (s : Same H H') (h : RepM b v H) : RepM b v H' := by
  obtain ⟨t, y, e, h⟩ := h
  exact ⟨t, y, e, s _ _ h⟩
/-! ### promises -/
def spLv (K : PySem.W.Frag) (C CB CS : Addr) (M : ScM → List Str → Nat → Nat → Nat → Nat → Rd' Nat) (lv : Nat) (ne : Bool) : Sp := fun vs H Q E => ∃ (p q : Addr) (rows : List Str) (n : Nat) (sc : ScM) (d ifs made : Nat), vs = [.ref p, .ref q, .int d, .int ifs, .int made] ∧ Lns C H p rows n ∧ Sc K CS H q sc ∧ d + lv ≤ 8 ∧ ifs + lv = 3 ∧
  (ne = true → (wordsM rows n d).length > 0) ∧ Outs C CB p rows H Q E (M sc rows d ifs n made) RepM
abbrev blkM (lv : Nat) (sc : ScM) (rows : List Str) (d ifs n made : Nat) : Rd' Nat := blockL sc rows lv d ifs n made
abbrev stM (lv : Nat) (sc : ScM) (rows : List Str) (d ifs n made : Nat) : Rd' Nat := stmtM (fun n made => blockL sc rows lv (d + 1) (ifs + 1) n made) sc rows d ifs n made
abbrev iM (lv : Nat) (sc : ScM) (rows : List Str) (d ifs n made : Nat) : Rd' Nat := ifM (fun n made => blockL sc rows lv (d + 1) (ifs + 1) n made) sc rows d ifs n made
abbrev psB : List Str := ["lines", "scope", "depth", "ifs", "made"]
structure TC (mg : Str → Option Value) : Prop where
  tuple : mg "tuple" = none
  max : mg "max" = none
  gMS : ∃ t, mg "MOST_STATEMENTS" = some (.int 8 t)
  gMI : ∃ t, mg "MOST_IFS" = some (.int 2 t)
/-- behind cnt statements of a block -/
def BlkInv (C B p q : Addr) (H : Hp) (rows : List Str) (st : Nat → Nat → Rd' Nat) (d ifs n made cnt : Nat) (σ : L2.St) (H' : Hp) : Prop :=
  ∃ (n' made' : Nat) (acc : List V) (stv : Option V), σ = [some (.ref p), some (.ref q), some (.int d), some (.int ifs), some (.int made'), some (.ref B), stv] ∧ Kp p H H' ∧ Lns C H' p rows n' ∧ H' B = some (.lst acc) ∧ acc.length = cnt ∧
    (cnt = 0 → n' = n ∧ made' = made) ∧ (0 < cnt → (wordsM rows n d).length > 0) ∧ loopM st rows d 8 n made = loopM st rows d (8 - cnt) n' made'
section
variable {P : Program} {w : World} {K : PySem.W.Frag} {mg : Str → Option Value} {base : Heap} {C CB CS fB : Addr}
theorem scReadBlock : FnScope ["lines", "scope", "depth", "ifs", "made", "block", "statement"] psB (defScope sReadBlock) := ⟨rfl, rfl, rfl, by decide +kernel, rfl, by decide +kernel, by decide +kernel⟩
theorem Small.pos {C p : Addr} {H : Hp} {rows : List Str} {n d : Nat} (h : Lns C H p rows n) (e : (wordsM rows n d).length > 0) : n < rows.length := by
  rcases Nat.lt_or_ge n rows.length with z | z
  · exact z
  · unfold wordsM at e
    rw [List.getElem?_eq_none z] at e
    exact absurd (show 0 < 0 from e) (Nat.lt_irrefl 0)
theorem ok_read_block {lv : Nat} {f : Addr} {fd : FuncData} (F : FunD K "read_block" "read_block" (defArgs sReadBlock) (defBody sReadBlock) (defScope sReadBlock) [.int 0, .int 0] [] f fd) (W : WK P w K mg base C CB CS) (TT : TC mg)
    (ST : FnAt P w K mg base (L2.CX P w) (9 + 3 * lv) "read_statement" psB (spLv K C CB CS (stM lv) (lv + 1) true)) : FnOk P w K mg base (L2.CX P w) (9 + 3 * lv + 1) f fd psB (spLv K C CB CS (blkM (lv + 1)) (lv + 1) false) := by
  obtain ⟨L, S, T, V0⟩ := W
  refine F.ok scReadBlock (fun vs H Q E h => ?_) (fun cdv A outer s H vs Q E hr h => ?_)
  · obtain ⟨p, q, rows, n, sc, d, ifs, made, rfl, _⟩ := h
    rfl
  · obtain ⟨p, q, rows, n, sc, d, ifs, made, rfl, hL, hS, hd, hi, _, k⟩ := h
    obtain ⟨fN, dN, mN, bN, GN⟩ := L.need
    obtain ⟨fW, dW, mW, bW, GW⟩ := L.words
    obtain ⟨fS, dS, mS, kS, bS, GS⟩ := ST
    obtain ⟨t8, g8⟩ := TT.gMS
    have hr3 : Room 3 _ := hr.mono (by omega)
    have hr1 : Room 1 _ := hr.mono (by omega)
    refine ⟨_, pss_cons (ps_set (i := 5) scReadBlock.nd rfl (Or.inl rfl) (pe_lst pa_nil))
      (pss_cons (ps_while (passes_of rfl) (PW.pt (pw_and (pt_cmpR op_lt (pe_callB call_len_seq (by rfl) T.len PySem.boot_len (pa_cons (pv 5) pa_nil)) (pe_glob (v := .int 8) rfl g8 ⟨_, rfl⟩) (nomark _))
          (pw_and1 (pt_cmpR op_gt (pe_callB call_len_seq (by rfl) T.len PySem.boot_len (pa_cons (pe_meth (pv 0) L.cl mW GW hr1 bW .nil pass0 (pa_cons (pv 2) pa_nil)) pa_nil)) pe_int (nomark _)))))
        (pss_cons (ps_asg (pe_call GS hr rfl mS kS bS .nil (pas (takes_of rfl rfl rfl rfl)) (pa_cons (pv 0) (pa_cons (pv 1) (pa_cons (pv 2) (pa_cons (pv 3) (pa_cons (pv 4) pa_nil))))))
            (pg_tup (by rfl) (pgs_cons (pg_name (i := 6) scReadBlock.nd rfl (Or.inl rfl)) (pgs_cons (pg_name (i := 4) scReadBlock.nd rfl (Or.inl rfl)) pgs_nil))))
          (pss_one (ps_expr (pe_bm PySem.F.plainAttrs_list PySem.F.slot_list_append PySem.F.type_list_append mt_append (pv 5) (pa_cons (pv 6) pa_nil))))))
      (pss_cons (ps_expr (pe_meth (pv 0) L.cl mN GN hr3 bN .nil (pas (takes_of rfl rfl rfl rfl)) (pa_cons (pe_cmpR op_gt (pe_callB call_len_seq (by rfl) T.len PySem.boot_len (pa_cons (pv 5) pa_nil)) pe_int (nomark _)) pa_nil)))
      (pss_one (ps_ret (pe_tup (pa_cons (pe_callTy call_tuple_of (by rfl) TT.tuple (by decide +kernel) (pa_cons (pv 5) pa_nil)) (pa_cons (pv 4) pa_nil))))))), ?_⟩
    refine ⟨Nat.zero_le _, fun B hB => ?_⟩
    have ebl : blkM (lv + 1) sc rows d ifs n made = blockM (stM lv sc rows d ifs) rows d n made := rfl
    refine ⟨fun m σ H' => ∃ cnt, m = 8 - cnt ∧ cnt ≤ 8 ∧ BlkInv C B p q H rows (stM lv sc rows d ifs) d ifs n made cnt σ H',
      ⟨8, 0, rfl, Nat.zero_le _, n, made, [], none, rfl, Kp.upd_new hL (Kp.refl p H) hB, hL.upd_new (Kp.refl p H) hL hB, upd_same, rfl, fun _ => ⟨rfl, rfl⟩, fun z => absurd z (Nat.lt_irrefl 0), rfl⟩, ?_⟩
    rintro m σ H' ⟨cnt, rfl, hc8, n', made', acc, stv, rfl, k1, l1, hB', hal, hz, hpos, hloop⟩
    obtain ⟨_, _, dx, r, hp, hr'⟩ := id l1
    have hpB : B ≠ p := fun z => by
      obtain ⟨_, _, dx3, r3, hp3, _⟩ := id hL
      rw [z, hp3] at hB
      cases hB
    refine ⟨_, rfl, B, _, rfl, .inl (SqL.of hB'), _, _, rfl, rfl, _, rfl, ?_⟩
    refine ite2 (fun c1 => ?_) (fun c1 => ?_)
    · have hlt : cnt < 8 := by
        have z := of_decide_eq_true c1
        omega
      refine ⟨_, rfl, p, dx, _, rfl, hp, lf_no _ _ (by decide +kernel) (by decide +kernel), _, rfl, p, rows, n', d, rfl, l1, by omega, fun H3 q3 s3 hq30 hq3 => ?_⟩
      refine ⟨q3, _, rfl, .inl (SqL.of hq3), _, _, rfl, rfl, _, rfl, ?_⟩
      have l3 := l1.same s3
      have k3 := k1.trans (Kp.of s3)
      rw [List.length_map]
      refine ite2 (fun c2 => ?_) (fun c2 => ?_)
      · have hw : (wordsM rows n' d).length > 0 := by
          have z := of_decide_eq_true c2
          omega
        have hw0 : (wordsM rows n d).length > 0 := by
          rcases Nat.eq_zero_or_pos cnt with z | z
          · rw [← (hz z).1]
            exact hw
          · exact hpos z
        have em : blkM (lv + 1) sc rows d ifs n made = (match stM lv sc rows d ifs n' made' with
            | .ok r => loopM (stM lv sc rows d ifs) rows d (7 - cnt) r.2 r.1
            | .error l => .error l) := by
          rw [ebl]
          unfold blockM
          rw [if_pos hw0, hloop, show 8 - cnt = (7 - cnt) + 1 from by omega]
          show (if _ then _ else _) = _
          rw [if_pos hw]
        refine ⟨fun σ' H'' => BlkInv C B p q H rows (stM lv sc rows d ifs) d ifs n made (cnt + 1) σ' H'', fun σ' H'' hN => ⟨8 - (cnt + 1), by omega, cnt + 1, rfl, by omega, hN⟩, ?_⟩
        refine ⟨_, rfl, _, rfl, _, rfl, _, rfl, _, rfl, p, q, rows, n', sc, d, ifs, made', rfl, l3, Sc.kp hL k3 hS, by omega, by omega, fun _ => hw, ?_⟩
        refine outs_of k k3 (fun l e1 => by rw [em, e1]) fun made2 n2 e1 H4 v k4 l4 rep => ?_
        obtain ⟨t, y, rfl, ht⟩ := rep
        refine ⟨t, _, rfl, SqT.of ht, rfl, _, _, rfl, _, _, rfl, rfl, ?_⟩
        have k34 := (Kp.of s3).trans k4
        have hB4 := k34.ne B _ hpB hB'
        refine ⟨_, rfl, .inl ⟨rfl, _, SqL.of hB4⟩, _, rfl, B, _, _, rfl, rfl, hB4, (by rw [sizeLine_eq]; omega), ?_⟩
        have k14 := k3.trans k4
        refine ⟨n2, made2, acc ++ [y], some y, rfl, Kp.upd_new hL k14 hB, hL.upd_new k14 l4 hB, upd_same, (by rw [List.length_append, hal]; rfl), fun z => absurd z (by omega), fun _ => hw0, ?_⟩
        rw [hloop, show 8 - cnt = (8 - (cnt + 1)) + 1 from by omega]
        show (if _ then _ else _) = _
        rw [if_pos hw, e1]
      · have hw : ¬ (wordsM rows n' d).length > 0 := fun z => c2 (decide_eq_true (by omega))
        have hB3 := s3 _ _ hB'
        obtain ⟨_, _, dx5, r5, hp5, hr5⟩ := id l3
        refine ⟨_, rfl, p, dx5, _, rfl, hp5, lf_no _ _ (by decide +kernel) (by decide +kernel), _, rfl, B, _, rfl, .inl (SqL.of hB3), _, _, rfl, rfl, ?_⟩
        show spNeed C CB [V.ref p, V.bl _] H3 (fun _ _ => _) _
        refine need_of (b := decide ((0 : Int) < (acc.length : Int))) l3 k3 _ k (fun e => ?_) (fun e => ?_)
        · have z : cnt = 0 := by
            have z := of_decide_eq_false e
            omega
          obtain ⟨rfl, rfl⟩ := hz z
          rw [ebl]
          unfold blockM
          rw [if_neg hw]
        · have z : 0 < cnt := by
            have z := of_decide_eq_true e
            omega
          have em : blkM (lv + 1) sc rows d ifs n made = .ok (made', n') := by
            rw [ebl]
            unfold blockM
            rw [if_pos (hpos z), hloop]
            cases h9 : 8 - cnt with
            | zero => rfl
            | succ f9 =>
              show (if _ then _ else _) = _
              rw [if_neg hw]
          refine ⟨_, rfl, B, acc, rfl, .inl ⟨SqL.of hB3, fun l7 hl7 => ?_⟩⟩
          have s6 := Same.new (o := .tup acc) hl7
          refine ⟨_, rfl, (by show 2 ≤ sizeLine; decide), fun t8 ht8 => ?_⟩
          refine outs_ok k em (k3.trans (Kp.of (s6.trans (Same.new ht8)))) (l3.same (s6.trans (Same.new ht8))) ⟨t8, _, rfl, upd_same⟩
    · have h8 : cnt = 8 := by
        have z : ¬ acc.length < 8 := fun z => c1 (decide_eq_true (by omega))
        omega
      obtain ⟨_, _, dx5, r5, hp5, hr5⟩ := id l1
      refine ⟨_, rfl, p, dx5, _, rfl, hp5, lf_no _ _ (by decide +kernel) (by decide +kernel), _, rfl, B, _, rfl, .inl (SqL.of hB'), _, _, rfl, rfl, ?_⟩
      show spNeed C CB [V.ref p, V.bl _] H' (fun _ _ => _) _
      refine need_of (b := decide ((0 : Int) < (acc.length : Int))) l1 k1 _ k (fun e => ?_) (fun e => ?_)
      · have z : cnt = 0 := by
          have z := of_decide_eq_false e
          omega
        omega
      · have z : 0 < cnt := by
          have z := of_decide_eq_true e
          omega
        have em : blkM (lv + 1) sc rows d ifs n made = .ok (made', n') := by
          rw [ebl]
          unfold blockM
          rw [if_pos (hpos z), hloop]
          rw [h8]
          rfl
        refine ⟨_, rfl, B, acc, rfl, .inl ⟨SqL.of hB', fun l7 hl7 => ?_⟩⟩
        have s6 := Same.new (o := .tup acc) hl7
        refine ⟨_, rfl, (by show 2 ≤ sizeLine; decide), fun t8 ht8 => ?_⟩
        refine outs_ok k em (k1.trans (Kp.of (s6.trans (Same.new ht8)))) (l1.same (s6.trans (Same.new ht8))) ⟨t8, _, rfl, upd_same⟩
end
end K6

/-! text L8x -/
set_option Elab.async false
set_option linter.all false
set_option maxRecDepth 100000
set_option maxHeartbeats 4000000
namespace K6
open PySem PySem.Spec PyProof.Rows L2
local macro_rules | `(tactic| walk_at "lk") => `(tactic| (repeat (first | with_reducible exact lk_hd _ _ _ | with_reducible exact lk_nil _ | refine lk_tl (by decide +kernel) ?_)))
theorem writeM_ok {sc : ScM} {ws : List Str} {n n' : Nat} {u : Unit} (h : writeM sc ws n = .ok (u, n')) : n' = n := by
  unfold writeM at h
  split at h
  · split at h
    · exact valueM_ok h
    · cases h
  · cases h
theorem endingM_ok {sc : ScM} {ws : List Str} {n n' : Nat} {u : Unit} (h : endingM sc ws n = .ok (u, n')) : n' = n := by
  unfold endingM at h
  split at h
  · cases h; rfl
  · split at h
    · split at h
      · exact valueM_ok h
      · cases h
    · cases h
theorem shortM_ok {sc : ScM} {ws : List Str} {n n' : Nat} {u : Unit} (h : shortM sc ws n = .ok (u, n')) : n' = n := by
  unfold shortM at h
  split at h
  · cases h; rfl
  · split at h
    · split at h
      · cases h; rfl
      · cases h
    · cases h
theorem askM_ok {sc : ScM} {ws : List Str} {n n' : Nat} {u : Unit} (h : askM sc ws n = .ok (u, n')) : n' = n := by
  unfold askM at h
  split at h
  · split at h
    · cases h
    · split at h
      · split at h
        · cases h
        · cases h; rfl
      · cases h
  · cases h
theorem stepM_ok {made n : Nat} {m : Rd' Unit} {u : Unit} {n' : Nat} (h : m = .ok (u, n')) : stepM made n m = .ok (made, n' + 1) := by rw [h]; rfl
theorem stepM_err {made n : Nat} {m : Rd' Unit} {l : Nat} (h : m = .error l) : stepM made n m = .error l := by rw [h]; rfl
section
variable {P : Program} {w : World} {K : PySem.W.Frag} {mg : Str → Option Value} {base : Heap} {C CB CS fB : Addr}
theorem scReadStatement : FnScope ["lines", "scope", "depth", "ifs", "made", "words", "statement"] psB (defScope sReadStatement) := ⟨rfl, rfl, rfl, by decide +kernel, rfl, by decide +kernel, by decide +kernel⟩
abbrev ps3 : List Str := ["lines", "scope", "words"]
theorem ok_read_statement {lv : Nat} {f : Addr} {fd : FuncData} (F : Fun K "read_statement" "read_statement" sReadStatement f fd) (W : WK P w K mg base C CB CS)
    (RI : FnAt P w K mg base (L2.CX P w) (8 + 3 * lv) "read_if" psB (spLv K C CB CS (iM lv) (lv + 1) true))
    (RW : FnAt P w K mg base (L2.CX P w) 6 "read_write" ps3 (spWords3 K C CB CS writeM)) (RE : FnAt P w K mg base (L2.CX P w) 6 "read_ending" ps3 (spWords3 K C CB CS endingM))
    (RA : FnAt P w K mg base (L2.CX P w) 7 "read_ask" ps3 (spWords3 K C CB CS askM)) (RS : FnAt P w K mg base (L2.CX P w) 6 "read_short" ps3 (spWords3 K C CB CS shortM)) :
    FnOk P w K mg base (L2.CX P w) (8 + 3 * lv + 1) f fd psB (spLv K C CB CS (stM lv) (lv + 1) true) := by
  obtain ⟨L, S, T, V0⟩ := W
  refine F.okX scReadStatement (fun vs H Q E h => ?_) (fun cdv A outer s H vs Q E hr h => ?_)
  · obtain ⟨p, q, rows, n, sc, d, ifs, made, rfl, _⟩ := h
    rfl
  · obtain ⟨p, q, rows, n, sc, d, ifs, made, rfl, hL, hS, hd, hi, hne, k⟩ := h
    have hwn := hne rfl
    have hlt := Small.pos hL hwn
    obtain ⟨fN, dN, mN, bN, GN⟩ := L.need
    obtain ⟨fW, dW, mW, bW, GW⟩ := L.words
    obtain ⟨fS, dS, mS, bS, GS⟩ := L.step
    obtain ⟨f1, d1, m1, k1, b1, G1⟩ := RI
    obtain ⟨f2, d2, m2, k2, b2, G2⟩ := RW
    obtain ⟨f3, d3, m3, k3, b3, G3⟩ := RE
    obtain ⟨f4, d4, m4, k4, b4, G4⟩ := RA
    obtain ⟨f5, d5, m5, k5, b5, G5⟩ := RS
    have hr3 : Room 3 _ := hr.mono (by omega)
    have hr1 : Room 1 _ := hr.mono (by omega)
    have hr6 : Room 6 _ := hr.mono (by omega)
    have hr7 : Room 7 _ := hr.mono (by omega)
    refine ⟨_, pss_cons (ps_set (i := 5) scReadStatement.nd rfl (Or.inl rfl) (pe_meth (pv 0) L.cl mW GW hr1 bW .nil pass0 (pa_cons (pv 2) pa_nil)))
      (pss_cons (ps_if (pt_cmpR op_eq (pe_ix ix_list (pv 5) pe_int (fun _ _ => rfl)) pe_str (nomark _)) (pss_one (ps_ret (pe_call G1 hr rfl m1 k1 b1 .nil (pas (takes_of rfl rfl rfl rfl)) (pa_cons (pv 0) (pa_cons (pv 1) (pa_cons (pv 2) (pa_cons (pv 3) (pa_cons (pv 4) pa_nil)))))))) pss_nil)
      (pss_cons (ps_if (pt_cmpR (op_inN (hu_of hr)) (pe_ix ix_list (pv 5) pe_int (fun _ _ => rfl)) (pe_tup (pa_cons pe_str (pa_cons pe_str pa_nil))) rfl) (pss_one (ps_set (i := 6) scReadStatement.nd rfl (Or.inl rfl) (pe_call G2 hr6 rfl m2 k2 b2 .nil (pas (takes_of rfl rfl rfl rfl)) (pa_cons (pv 0) (pa_cons (pv 1) (pa_cons (pv 5) pa_nil)))))) (pss_one (ps_if (pt_val (pe_fld (pv 1) rfl)) (pss_one (ps_set (i := 6) scReadStatement.nd rfl (Or.inl rfl) (pe_call G3 hr6 rfl m3 k3 b3 .nil (pas (takes_of rfl rfl rfl rfl)) (pa_cons (pv 0) (pa_cons (pv 1) (pa_cons (pv 5) pa_nil)))))) (pss_one (ps_if (pt_cmpR op_eq (pe_ix ix_list (pv 5) pe_int (fun _ _ => rfl)) pe_str (nomark _)) (pss_cons (ps_expr (pe_meth (pv 0) L.cl mN GN hr3 bN .nil (pas (takes_of rfl rfl rfl rfl)) (pa_cons (pe_cmpR op_lt (pv 4) (pe_fld (pv 1) rfl) (nomark _)) pa_nil)))
      (pss_cons (ps_aug (i := 4) scReadStatement.nd rfl (Or.inl rfl) pe_int ip_add)
      (pss_one (ps_set (i := 6) scReadStatement.nd rfl (Or.inl rfl) (pe_call G4 hr7 rfl m4 k4 b4 .nil (pas (takes_of rfl rfl rfl rfl)) (pa_cons (pv 0) (pa_cons (pv 1) (pa_cons (pv 5) pa_nil)))))))) (pss_one (ps_set (i := 6) scReadStatement.nd rfl (Or.inl rfl) (pe_call G5 hr6 rfl m5 k5 b5 .nil (pas (takes_of rfl rfl rfl rfl)) (pa_cons (pv 0) (pa_cons (pv 1) (pa_cons (pv 5) pa_nil)))))))))))
      (pss_cons (ps_expr (pe_meth0 (pv 0) L.cl mS GS hr1 bS .nil pass0))
      (pss_one (ps_ret (pe_tup (pa_cons (pv 6) (pa_cons (pv 4) pa_nil)))))))), ?_⟩
    obtain ⟨_, _, dx, r, hp, hr'⟩ := id hL
    refine ⟨_, rfl, p, dx, _, rfl, hp, lf_no _ _ (by decide +kernel) (by decide +kernel), _, rfl, p, rows, n, d, rfl, hL, by omega, fun H1 q1 s1 hq0 hq1 => ?_⟩
    have hL1 := hL.same s1
    have hS1 := Sc.kp hL (Kp.of s1) hS
    have hwd : Wds (wordsM rows n d) := ⟨hL.1.many n d, hL.1.word n d⟩
    have hnn : wordsM rows n d ≠ [] := fun z => by rw [z] at hwn; exact absurd hwn (Nat.lt_irrefl 0)
    have hne0 : ¬ (wordsM rows n d).length = 0 := by omega
    generalize hws : wordsM rows n d = ws at hq1 hwd hnn hwn hne0
    have e0 : stM lv sc rows d ifs n made = stmtM (fun n made => blockL sc rows lv (d + 1) (ifs + 1) n made) sc rows d ifs n made := rfl
    unfold stmtM at e0
    simp only [hws] at e0
    rw [if_neg hne0] at e0
    refine ⟨_, rfl, q1, _, _, _, rfl, rfl, SqL.of hq1, atI_nat (j := 0) (getS hwn), rfl, _, rfl, ?_⟩
    rw [dstr]
    refine ite2 (fun c1 => ?_) (fun c1 => ?_)
    · rw [if_pos c1] at e0
      refine ⟨_, rfl, _, rfl, _, rfl, _, rfl, _, rfl, p, q, rows, n, sc, d, ifs, made, rfl, hL1, hS1, hd, hi, fun _ => by rw [hws]; exact hwn, ?_⟩
      refine outs_of k (Kp.of s1) (fun l e1 => e0.trans e1) fun made2 n2 e1 H4 v k4 l4 rep => ?_
      exact outs_ok k (e0.trans e1) ((Kp.of s1).trans k4) l4 rep
    · rw [if_neg c1] at e0
      refine ⟨_, rfl, q1, _, _, _, rfl, rfl, SqL.of hq1, atI_nat (j := 0) (getS hwn), (by decide), fun t2 ht2 => ?_⟩
      have s2 := Same.new (o := .tup [V.str "set", V.str "add"]) ht2
      have ht3 : (upd H1 t2 (.tup [V.str "set", V.str "add"])) t2 = some (.tup [V.str "set", V.str "add"]) := upd_same
      generalize hH2 : upd H1 t2 (.tup [V.str "set", V.str "add"]) = H2 at s2 ht3
      have hL2 := hL1.same s2
      have hS2 := Sc.kp hL1 (Kp.of s2) hS1
      have hq2 := s2 _ _ hq1
      have s12 := s1.trans s2
      refine ⟨_, [("set" : Str), "add"], rfl, ⟨t2, rfl, .inr (.inr (SqT.of ht3))⟩, _, rfl, ?_⟩
      refine ite2 (fun c2 => ?_) (fun c2 => ?_)
      · rw [if_pos (show ([("set" : Str), "add"] : List Str).contains (ws.getD 0 "") = true from c2)] at e0
        refine ⟨_, rfl, _, rfl, _, rfl, p, q, q1, rows, n, sc, ws, rfl, hL2, hS2, SqL.of hq2, hwd, hnn, ?_⟩
        refine outs_of k (Kp.of s12) (fun l e1 => e0.trans (stepM_err e1)) fun u n' e1 H4 v k4 l4 _ => ?_
        obtain rfl := writeM_ok e1
        have em := e0.trans (stepM_ok e1)
        obtain ⟨_, _, dx5, r5, hp5, hr5⟩ := id l4
        refine ⟨_, rfl, p, dx5, _, rfl, hp5, lf_no _ _ (by decide +kernel) (by decide +kernel), p, rows, n', rfl, l4, hlt, fun H5 k5 l5 => ?_⟩
        refine ⟨_, rfl, _, rfl, (by show 2 ≤ sizeLine; decide), fun t8 ht8 => ?_⟩
        exact outs_ok k em ((Kp.of s12).trans (k4.trans (k5.trans (Kp.of (Same.new ht8))))) (l5.same (Same.new ht8)) ⟨t8, _, rfl, upd_same⟩
      · rw [if_neg (show ¬ ([("set" : Str), "add"] : List Str).contains (ws.getD 0 "") = true from c2)] at e0
        obtain ⟨dx2, vc, vk, va, vl, hq, a1, a2, a3, a4⟩ := hS2.ex
        refine ⟨_, rfl, q, CS, dx2, _, _, rfl, hq, S.cl, S.n5, (by unfold scf; walk_at "lk"), _, rfl, ?_⟩
        refine ite2 (fun c3 => ?_) (fun c3 => ?_)
        · rw [if_pos c3] at e0
          refine ⟨_, rfl, _, rfl, _, rfl, p, q, q1, rows, n, sc, ws, rfl, hL2, hS2, SqL.of hq2, hwd, hnn, ?_⟩
          refine outs_of k (Kp.of s12) (fun l e1 => e0.trans (stepM_err e1)) fun u n' e1 H4 v k4 l4 _ => ?_
          obtain rfl := endingM_ok e1
          have em := e0.trans (stepM_ok e1)
          obtain ⟨_, _, dx5, r5, hp5, hr5⟩ := id l4
          refine ⟨_, rfl, p, dx5, _, rfl, hp5, lf_no _ _ (by decide +kernel) (by decide +kernel), p, rows, n', rfl, l4, hlt, fun H5 k5 l5 => ?_⟩
          refine ⟨_, rfl, _, rfl, (by show 2 ≤ sizeLine; decide), fun t8 ht8 => ?_⟩
          exact outs_ok k em ((Kp.of s12).trans (k4.trans (k5.trans (Kp.of (Same.new ht8))))) (l5.same (Same.new ht8)) ⟨t8, _, rfl, upd_same⟩
        · rw [if_neg c3] at e0
          refine ⟨_, rfl, q1, _, _, _, rfl, rfl, SqL.of hq2, atI_nat (j := 0) (getS hwn), rfl, _, rfl, ?_⟩
          rw [dstr]
          refine ite2 (fun c4 => ?_) (fun c4 => ?_)
          · rw [if_pos c4] at e0
            obtain ⟨_, _, dx6, r6, hp6, hr6⟩ := id hL2
            refine ⟨_, rfl, p, dx6, _, rfl, hp6, lf_no _ _ (by decide +kernel) (by decide +kernel), _, rfl, _, rfl, q, CS, dx2, _, _, rfl, hq, S.cl, S.n7, (by unfold scf; walk_at "lk"), _, _, rfl, rfl, ?_⟩
            show spNeed C CB [V.ref p, V.bl _] H2 (fun _ _ => _) _
            refine need_of (b := decide ((made : Int) < (sc.most : Int))) hL2 (Kp.of s12) _ k (fun e => ?_) (fun e => ?_)
            · rw [e0, if_neg (fun z => absurd e (by rw [decide_eq_true (by omega)]; decide))]
            · have z := of_decide_eq_true e
              rw [if_pos (by omega)] at e0
              refine ⟨_, rfl, _, _, rfl, rfl, ?_⟩
              refine ⟨_, rfl, _, rfl, _, rfl, p, q, q1, rows, n, sc, ws, rfl, hL2, hS2, SqL.of hq2, hwd, hnn, ?_⟩
              refine outs_of k (Kp.of s12) (fun l e1 => e0.trans (stepM_err e1)) fun u n' e1 H4 v k4 l4 _ => ?_
              obtain rfl := askM_ok e1
              have em := e0.trans (stepM_ok e1)
              obtain ⟨_, _, dx5, r5, hp5, hr5⟩ := id l4
              refine ⟨_, rfl, p, dx5, _, rfl, hp5, lf_no _ _ (by decide +kernel) (by decide +kernel), p, rows, n', rfl, l4, hlt, fun H5 k5 l5 => ?_⟩
              refine ⟨_, rfl, _, rfl, (by show 2 ≤ sizeLine; decide), fun t8 ht8 => ?_⟩
              exact outs_ok k em ((Kp.of s12).trans (k4.trans (k5.trans (Kp.of (Same.new ht8))))) (l5.same (Same.new ht8)) ⟨t8, _, rfl, upd_same⟩
          · rw [if_neg c4] at e0
            refine ⟨_, rfl, _, rfl, _, rfl, p, q, q1, rows, n, sc, ws, rfl, hL2, hS2, SqL.of hq2, hwd, hnn, ?_⟩
            refine outs_of k (Kp.of s12) (fun l e1 => e0.trans (stepM_err e1)) fun u n' e1 H4 v k4 l4 _ => ?_
            obtain rfl := shortM_ok e1
            have em := e0.trans (stepM_ok e1)
            obtain ⟨_, _, dx5, r5, hp5, hr5⟩ := id l4
            refine ⟨_, rfl, p, dx5, _, rfl, hp5, lf_no _ _ (by decide +kernel) (by decide +kernel), p, rows, n', rfl, l4, hlt, fun H5 k5 l5 => ?_⟩
            refine ⟨_, rfl, _, rfl, (by show 2 ≤ sizeLine; decide), fun t8 ht8 => ?_⟩
            exact outs_ok k em ((Kp.of s12).trans (k4.trans (k5.trans (Kp.of (Same.new ht8))))) (l5.same (Same.new ht8)) ⟨t8, _, rfl, upd_same⟩
theorem scReadIf : FnScope ["lines", "scope", "depth", "ifs", "made", "words", "left", "right", "block", "most", "other", "other_most"] psB (defScope sReadIf) := ⟨rfl, rfl, rfl, by decide +kernel, rfl, by decide +kernel, by decide +kernel⟩
theorem ok_read_if {lv : Nat} {f : Addr} {fd : FuncData} (F : Fun K "read_if" "read_if" sReadIf f fd) (W : WK P w K mg base C CB CS) (TT : TC mg)
    (RB : FnAt P w K mg base (L2.CX P w) (7 + 3 * lv) "read_block" psB (spLv K C CB CS (blkM lv) lv false)) :
    FnOk P w K mg base (L2.CX P w) (7 + 3 * lv + 1) f fd psB (spLv K C CB CS (iM lv) (lv + 1) true) := by
  obtain ⟨L, S, T, V0⟩ := W
  refine F.okX scReadIf (fun vs H Q E h => ?_) (fun cdv A outer s H vs Q E hr h => ?_)
  · obtain ⟨p, q, rows, n, sc, d, ifs, made, rfl, _⟩ := h
    rfl
  · obtain ⟨p, q, rows, n, sc, d, ifs, made, rfl, hL, hS, hd, hi, hne, k⟩ := h
    have hwn := hne rfl
    have hlt := Small.pos hL hwn
    obtain ⟨fN, dN, mN, bN, GN⟩ := L.need
    obtain ⟨fW, dW, mW, bW, GW⟩ := L.words
    obtain ⟨fS, dS, mS, bS, GS⟩ := L.step
    obtain ⟨fV, dV, mV, kV, bV, GV⟩ := V0
    obtain ⟨fB, dB, mB, kB, bB, GB⟩ := RB
    obtain ⟨t2, g2⟩ := TT.gMI
    have hr3 : Room 3 _ := hr.mono (by omega)
    have hr1 : Room 1 _ := hr.mono (by omega)
    have hr5 : Room 5 _ := hr.mono (by omega)
    refine ⟨_, pss_cons (ps_set (i := 5) scReadIf.nd rfl (Or.inl rfl) (pe_meth (pv 0) L.cl mW GW hr1 bW .nil pass0 (pa_cons (pv 2) pa_nil)))
      (pss_cons (ps_expr (pe_meth (pv 0) L.cl mN GN hr3 bN .nil (pas (takes_of rfl rfl rfl rfl)) (pa_cons (pe_and (pe_cmpR op_lt (pv 3) (pe_glob (v := .int 2) rfl g2 ⟨_, rfl⟩) (nomark _)) (pe_and (pe_cmpR op_eq (pe_callB call_len_seq (by rfl) T.len PySem.boot_len (pa_cons (pv 5) pa_nil)) pe_int (nomark _)) (pe_one (pe_cmpR op_eq (pe_ix ix_list (pv 5) pe_int (fun _ _ => rfl)) pe_str (nomark _))))) pa_nil)))
      (pss_cons (ps_set (i := 6) scReadIf.nd rfl (Or.inl rfl) (pe_call GV hr5 rfl mV kV bV .nil (pas (takes_of rfl rfl rfl rfl)) (pa_cons (pv 0) (pa_cons (pv 1) (pa_cons (pe_ix ix_list (pv 5) pe_int (fun _ _ => rfl)) pa_nil)))))
      (pss_cons (ps_set (i := 7) scReadIf.nd rfl (Or.inl rfl) (pe_call GV hr5 rfl mV kV bV .nil (pas (takes_of rfl rfl rfl rfl)) (pa_cons (pv 0) (pa_cons (pv 1) (pa_cons (pe_ix ix_list (pv 5) pe_int (fun _ _ => rfl)) pa_nil)))))
      (pss_cons (ps_expr (pe_meth0 (pv 0) L.cl mS GS hr1 bS .nil pass0))
      (pss_cons (ps_asg (pe_call GB hr rfl mB kB bB .nil (pas (takes_of rfl rfl rfl rfl)) (pa_cons (pv 0) (pa_cons (pv 1) (pa_cons (pe_op op_add (pv 2) pe_int) (pa_cons (pe_op op_add (pv 3) pe_int) (pa_cons (pv 4) pa_nil)))))) (pg_tup (by rfl) (pgs_cons (pg_name (i := 8) scReadIf.nd rfl (Or.inl rfl)) (pgs_cons (pg_name (i := 9) scReadIf.nd rfl (Or.inl rfl)) pgs_nil))))
      (pss_cons (ps_par (i := 10) (j := 11) (by rfl) scReadIf.nd rfl rfl (by decide) rfl rfl (pa_cons (pe_tup pa_nil) (pa_cons (pv 4) pa_nil)) (by rfl))
      (pss_cons (ps_if (pt_cmpR (op_eqD hr.units) (pe_meth (pv 0) L.cl mW GW hr1 bW .nil pass0 (pa_cons (pv 2) pa_nil)) (pe_lst (pa_cons pe_str pa_nil)) (nomark _)) (pss_cons (ps_expr (pe_meth0 (pv 0) L.cl mS GS hr1 bS .nil pass0))
      (pss_one (ps_asg (pe_call GB hr rfl mB kB bB .nil (pas (takes_of rfl rfl rfl rfl)) (pa_cons (pv 0) (pa_cons (pv 1) (pa_cons (pe_op op_add (pv 2) pe_int) (pa_cons (pe_op op_add (pv 3) pe_int) (pa_cons (pv 4) pa_nil)))))) (pg_tup (by rfl) (pgs_cons (pg_name (i := 10) scReadIf.nd rfl (Or.inl rfl)) (pgs_cons (pg_name (i := 11) scReadIf.nd rfl (Or.inl rfl)) pgs_nil)))))) pss_nil)
      (pss_one (ps_ret (pe_tup (pa_cons (pe_tup (pa_cons pe_str (pa_cons (pv 6) (pa_cons (pv 7) (pa_cons (pv 8) (pa_cons (pv 10) pa_nil)))))) (pa_cons (pe_callB (call_max2 rfl) (by rfl) TT.max (by decide +kernel) (pa_cons (pv 9) (pa_cons (pv 11) pa_nil))) pa_nil)))))))))))), ?_⟩
    obtain ⟨_, _, dx, r, hp, hr'⟩ := id hL
    refine ⟨_, rfl, p, dx, _, rfl, hp, lf_no _ _ (by decide +kernel) (by decide +kernel), _, rfl, p, rows, n, d, rfl, hL, by omega, fun H1 q1 s1 hq0 hq1 => ?_⟩
    have hL1 := hL.same s1
    have hS1 := Sc.kp hL (Kp.of s1) hS
    have hwd : Wds (wordsM rows n d) := ⟨hL.1.many n d, hL.1.word n d⟩
    have e0 : iM lv sc rows d ifs n made = ifM (fun n made => blockL sc rows lv (d + 1) (ifs + 1) n made) sc rows d ifs n made := rfl
    unfold ifM at e0
    dsimp only at e0
    generalize hws : wordsM rows n d = ws at hq1 hwd hwn e0
    obtain ⟨_, _, dx1, r1, hp1, _⟩ := id hL1
    refine ⟨_, rfl, p, dx1, _, rfl, hp1, lf_no _ _ (by decide +kernel) (by decide +kernel), _, rfl, _, _, rfl, rfl, _, rfl, ?_⟩
    have nope : ∀ {Qx : VK}, (decide (ifs < 2) && (ws.length == 4 && ws.getD 2 "" == ("=" : Str))) = false → spNeed C CB [.ref p, .bl false] H1 Qx E := fun e => by
      refine need_of (b := false) hL1 (Kp.of s1) _ k (fun _ => ?_) (fun z => by cases z)
      rw [e0, e]
      rfl
    by_cases c1 : ifs < 2
    · rw [show decide (((ifs : Nat) : Int) < 2) = true from decide_eq_true (by omega)]
      refine iteT ⟨_, rfl, q1, _, rfl, .inl (SqL.of hq1), rfl, _, rfl, ?_⟩
      rw [show decide (V.int ((ws.map V.str).length : Int) = V.int 4) = decide (ws.length = 4) from dlen _ 4]
      by_cases c2 : ws.length = 4
      · rw [decide_eq_true c2]
        obtain ⟨x0, x1, x2, x3, rfl⟩ := len4 c2
        refine iteT ⟨_, rfl, q1, _, _, _, rfl, rfl, SqL.of hq1, atI_nat (j := 2) rfl, rfl, ?_⟩
        rw [dstr]
        show spNeed C CB [V.ref p, V.bl _] H1 (fun _ _ => _) _
        refine need_of (b := x2 == ("=" : Str)) hL1 (Kp.of s1) _ k (fun e => ?_) (fun e => ?_)
        · rw [e0, decide_eq_true c1]
          show (if (true && (true && (x2 == ("=" : Str)))) = true then _ else _) = _
          rw [e]
          rfl
        · have e1 : iM lv sc rows d ifs n made = (match valueM sc x1 n with
              | .error l => .error l
              | .ok _ => match valueM sc x3 n with
                | .error l => .error l
                | .ok _ => match blkM lv sc rows (d + 1) (ifs + 1) (n + 1) made with
                  | .error l => .error l
                  | .ok r => if (wordsM rows r.2 d == [("else" : Str)]) = true then (match blkM lv sc rows (d + 1) (ifs + 1) (r.2 + 1) made with
                      | .error l => .error l
                      | .ok r2 => .ok (max r.1 r2.1, r2.2)) else .ok (max r.1 made, r.2)) := by
            rw [e0, decide_eq_true c1]
            show (if (true && (true && (x2 == ("=" : Str)))) = true then _ else _) = _
            rw [e]
            rfl
          -- left, right
          refine ⟨_, rfl, _, rfl, _, rfl, q1, _, _, _, rfl, rfl, SqL.of hq1, atI_nat (j := 1) rfl, p, q, rows, n, sc, x1, rfl, hL1, hS1, (hwd.word x1 (by simp)).2, ?_⟩
          refine outs_of k (Kp.of s1) (fun l ev => by rw [e1, ev]) fun u n' ev H2 v2 k2 l2 _ => ?_
          obtain rfl := valueM_ok ev
          rw [ev] at e1
          have k12 := (Kp.of s1).trans k2
          have hq2 := sql_kp (K := K) hL1 k2 (SqL.of hq1)
          have hS2 := Sc.kp hL1 k2 hS1
          refine ⟨_, rfl, _, rfl, _, rfl, q1, _, _, _, rfl, rfl, hq2, atI_nat (j := 3) rfl, p, q, rows, n', sc, x3, rfl, l2, hS2, (hwd.word x3 (by simp)).2, ?_⟩
          refine outs_of k k12 (fun l ev => by rw [e1, ev]) fun u n2 ev H3 v3 k3 l3 _ => ?_
          obtain rfl := valueM_ok ev
          rw [ev] at e1
          have k13 := k12.trans k3
          have hS3 := Sc.kp l2 k3 hS2
          -- step
          obtain ⟨_, _, dx3, r3, hp3, _⟩ := id l3
          refine ⟨_, rfl, p, dx3, _, rfl, hp3, lf_no _ _ (by decide +kernel) (by decide +kernel), p, rows, n2, rfl, l3, hlt, fun H4 k4 l4 => ?_⟩
          have k14 := k13.trans k4
          have hS4 := Sc.kp l3 k4 hS3
          -- the block
          refine ⟨_, rfl, _, rfl, _, rfl, _, _, rfl, rfl, _, rfl, _, _, rfl, rfl, _, rfl, ?_⟩
          refine ⟨p, q, rows, n2 + 1, sc, d + 1, ifs + 1, made, rfl, l4, hS4, by omega, by omega, (fun z => by cases z), ?_⟩
          refine outs_of k k14 (fun l eb => by rw [e1]; show (match blkM lv sc rows (d + 1) (ifs + 1) (n2 + 1) made with | .error l => _ | .ok r => _) = _; rw [eb]) fun most n5 eb H5 v5 k5 l5 rep => ?_
          have e2 : iM lv sc rows d ifs n2 made = if (wordsM rows n5 d == [("else" : Str)]) = true then (match blkM lv sc rows (d + 1) (ifs + 1) (n5 + 1) made with
                      | .error l => .error l
                      | .ok r2 => .ok (max most r2.1, r2.2)) else .ok (max most made, n5) := by
            rw [e1]
            show (match blkM lv sc rows (d + 1) (ifs + 1) (n2 + 1) made with | .error l => _ | .ok r => _) = _
            rw [eb]
          have k15 := k14.trans k5
          have hS5 := Sc.kp l4 k5 hS4
          obtain ⟨tt, y5, rfl, ht5⟩ := rep
          refine ⟨tt, _, rfl, SqT.of ht5, rfl, _, _, rfl, _, _, rfl, rfl, ?_⟩
          refine ⟨Nat.zero_le _, fun t6 ht6 => ⟨_, rfl, _, _, rfl, ?_⟩⟩
          have s6 := Same.new (o := .tup []) ht6
          generalize hH6 : upd H5 t6 (.tup []) = H6 at s6
          have l6 := l5.same s6
          have hS6 := Sc.kp l5 (Kp.of s6) hS5
          have k16 := k15.trans (Kp.of s6)
          -- else
          obtain ⟨_, _, dx6, r6, hp6, _⟩ := id l6
          refine ⟨_, rfl, p, dx6, _, rfl, hp6, lf_no _ _ (by decide +kernel) (by decide +kernel), _, rfl, p, rows, n5, d, rfl, l6, by omega, fun H7 q7 s7 hq70 hq7 => ?_⟩
          have l7 := l6.same s7
          have hS7 := Sc.kp l6 (Kp.of s7) hS6
          have k17 := k16.trans (Kp.of s7)
          refine ⟨(by decide), fun q8 hq8 => ⟨_, _, dp_strs (l := wordsM rows n5 d) ((Same.new hq8).seq (SqL.of hq7)), dp_strs (l := [("else" : Str)]) (SqL.of upd_same), shaped_strs _ (fun y hy => (hL.1.word n5 d y hy).1), shaped_strs _ (fun y hy => by rw [List.mem_singleton.mp hy]; decide +kernel), ?_⟩⟩
          rw [eqv_strs]
          refine ⟨_, rfl, ?_⟩
          have s8 := Same.new (o := .lst [V.str "else"]) hq8
          generalize hH8 : upd H7 q8 (.lst [V.str "else"]) = H8 at s8
          have l8 := l7.same s8
          have hS8 := Sc.kp l7 (Kp.of s8) hS7
          have k18 := k17.trans (Kp.of s8)
          refine ite2 (fun c3 => ?_) (fun c3 => ?_)
          · rw [if_pos c3] at e2
            have hlt5 : n5 < rows.length := Small.pos l8 (d := d) (by
              rw [eq_of_beq c3]
              decide)
            obtain ⟨_, _, dx8, r8, hp8, _⟩ := id l8
            refine ⟨_, rfl, p, dx8, _, rfl, hp8, lf_no _ _ (by decide +kernel) (by decide +kernel), p, rows, n5, rfl, l8, hlt5, fun H9 k9 l9 => ?_⟩
            have k19 := k18.trans k9
            have hS9 := Sc.kp l8 k9 hS8
            refine ⟨_, rfl, _, rfl, _, rfl, _, _, rfl, rfl, _, rfl, _, _, rfl, rfl, _, rfl, ?_⟩
            refine ⟨p, q, rows, n5 + 1, sc, d + 1, ifs + 1, made, rfl, l9, hS9, by omega, by omega, (fun z => by cases z), ?_⟩
            refine outs_of k k19 (fun l eb => by rw [e2, eb]) fun om n10 eb H10 v10 k10 l10 rep => ?_
            rw [eb] at e2
            have k110 := k19.trans k10
            obtain ⟨tt2, y10, rfl, ht10⟩ := rep
            refine ⟨tt2, _, rfl, SqT.of ht10, rfl, _, _, rfl, _, _, rfl, rfl, ?_⟩
            refine ⟨_, rfl, _, rfl, _, rfl, _, rfl, (by show 5 ≤ sizeLine; decide), fun ta hta => ?_⟩
            refine ⟨_, rfl, _, rfl, _, _, rfl, ?_⟩
            rw [show (if ((om : Nat) : Int) > ((most : Nat) : Int) then ((om : Nat) : Int) else ((most : Nat) : Int)) = ((max most om : Nat) : Int) from by split <;> omega]
            refine ⟨(by show 2 ≤ sizeLine; decide), fun tb htb => ?_⟩
            exact outs_ok k e2 (k110.trans (Kp.of ((Same.new hta).trans (Same.new htb)))) (l10.same ((Same.new hta).trans (Same.new htb))) ⟨tb, _, rfl, upd_same⟩
          · rw [if_neg c3] at e2
            refine ⟨_, rfl, _, rfl, _, rfl, _, rfl, (by show 5 ≤ sizeLine; decide), fun ta hta => ?_⟩
            refine ⟨_, rfl, _, rfl, _, _, rfl, ?_⟩
            rw [show (if ((made : Nat) : Int) > ((most : Nat) : Int) then ((made : Nat) : Int) else ((most : Nat) : Int)) = ((max most made : Nat) : Int) from by split <;> omega]
            refine ⟨(by show 2 ≤ sizeLine; decide), fun tb htb => ?_⟩
            exact outs_ok k e2 (k18.trans (Kp.of ((Same.new hta).trans (Same.new htb)))) (l8.same ((Same.new hta).trans (Same.new htb))) ⟨tb, _, rfl, upd_same⟩
      · rw [decide_eq_false c2]
        refine iteF ?_
        show spNeed C CB [V.ref p, V.bl _] H1 (fun _ _ => _) _
        refine nope ?_
        rw [show (ws.length == 4) = false from beq_eq_false_iff_ne.mpr c2]
        simp
    · rw [show decide (((ifs : Nat) : Int) < 2) = false from decide_eq_false (by omega)]
      refine iteF ?_
      show spNeed C CB [V.ref p, V.bl _] H1 (fun _ _ => _) _
      refine nope ?_
      rw [decide_eq_false c1]
      simp
end
end K6

/-! text L9x -/
set_option Elab.async false
set_option linter.all false
set_option maxRecDepth 100000
set_option maxHeartbeats 4000000
namespace K6
open PySem PySem.Spec PyProof.Rows L2
local macro_rules | `(tactic| walk_at "lk") => `(tactic| (repeat (first | with_reducible exact lk_hd _ _ _ | with_reducible exact lk_nil _ | refine lk_tl (by decide +kernel) ?_)))
abbrev sReadFirst : Stmt := top 33
abbrev sReadLine : Stmt := top 34
abbrev sReadCells : Stmt := top 35
/-! ### the mirror -/
def firstM (rows : List Str) (n : Nat) : Rd' Nat := match wordsM rows n 0 with
  | [a, b] => if (a == ("worths" : Str) && ([("2" : Str), "3", "4"] : List Str).contains b) = true then .ok (b.cps.getD 0 0 - 48, n + 1) else .error (n + 1)
  | _ => .error (n + 1)
theorem firstM_no {rows : List Str} {n : Nat} (h : ¬ (wordsM rows n 0).length = 2) : firstM rows n = .error (n + 1) := by
  unfold firstM
  split
  · rename_i e
    rw [e] at h
    exact absurd rfl h
  · rfl
theorem first_int : ∀ b ∈ ([("2" : Str), "3", "4"] : List Str), PySem.intText? b = some ((b.cps.getD 0 0 - 48 : Nat) : Int) ∧ b.length ≤ 640 ∧ b.cps.getD 0 0 - 48 ≤ 4 := by decide +kernel
def lineM (rows : List Str) (n d : Nat) (ws : List Str) : Rd' Bool := if (wordsM rows n d == ws) = true then .ok (true, n + 1) else .ok (false, n)
def cellLoop (rows : List Str) (worths : Nat) : Nat → List (Str × Nat) → Nat → Rd' (List (Str × Nat))
  | 0, acc, n => .ok (acc, n)
  | f + 1, acc, n => if ((wordsM rows n 1).head? == some ("cell" : Str)) = true then (match wordsM rows n 1 with
      | [_, a, b] => (match newNameM a (acc.map (·.1)) n with
        | .error l => .error l
        | .ok _ => match readWorthM b worths n with
          | .error l => .error l
          | .ok r => cellLoop rows worths f (acc ++ [(a, r.1)]) (n + 1))
      | _ => .error (n + 1)) else .ok (acc, n)
def cellsM (rows : List Str) (worths most n : Nat) : Rd' (List (Str × Nat)) := cellLoop rows worths most [] n
def cellKv (cs : List (Str × Nat)) : List (Key × V) := cs.map fun c => (Sum.inr c.1, V.int (c.2 : Nat))
def RepC (cs : List (Str × Nat)) (v : V) (H : Hp) : Prop := ∃ a, v = .ref a ∧ H a = some (.dK (cellKv cs))
theorem cellKv_keys (cs : List (Str × Nat)) : (cellKv cs).map (·.1) = (cs.map (·.1)).map Sum.inr := by
  unfold cellKv
  rw [List.map_map, List.map_map]
  rfl
theorem putK_new {kvs : List (Key × V)} {k : Key} {v : V} {ns : List Str} {x : Str} (e : kvs.map (·.1) = ns.map Sum.inr) (hk : k = Sum.inr x) (h : ns.contains x = false) : putK kvs k v = kvs ++ [(k, v)] := by
  unfold putK
  rw [if_neg]
  subst hk
  intro z
  obtain ⟨p, hp, hz⟩ := List.any_eq_true.mp z
  have e2 : (Sum.inr x : Key) ∈ kvs.map (·.1) := by
    rw [← of_decide_eq_true hz]
    exact List.mem_map_of_mem hp
  rw [e] at e2
  obtain ⟨y, hy, e3⟩ := List.mem_map.mp e2
  have e4 : y = x := Sum.inr.inj e3
  subst e4
  have : ns.contains y = true := List.contains_iff_mem.mpr hy
  rw [this] at h
  cases h
section
variable {P : Program} {w : World} {K : PySem.W.Frag} {mg : Str → Option Value} {base : Heap} {C CB CS fB : Addr}
def spFirst (C CB : Addr) : Sp := fun vs H Q E => ∃ (p : Addr) (rows : List Str) (n : Nat), vs = [.ref p] ∧ Lns C H p rows n ∧ Outs C CB p rows H Q E (firstM rows n) fun z v _ => v = .int (z : Nat) ∧ z ≤ 4
theorem scReadFirst : FnScope ["lines", "words"] ["lines"] (defScope sReadFirst) := ⟨rfl, rfl, rfl, by decide +kernel, rfl, by decide +kernel, by decide +kernel⟩
theorem ok_read_first_line {f : Addr} {fd : FuncData} (F : Fun K "read_first_line" "read_first_line" sReadFirst f fd) (L : LX P w K mg base C CB) (T : TN K mg) : FnOk P w K mg base (L2.CX P w) 4 f fd ["lines"] (spFirst C CB) := by
  refine F.okX scReadFirst (fun vs H Q E h => ?_) (fun cdv A outer s H vs Q E hr h => ?_)
  · obtain ⟨p, rows, n, rfl, _⟩ := h
    rfl
  · obtain ⟨p, rows, n, rfl, hL, k⟩ := h
    obtain ⟨fN, dN, mN, bN, GN⟩ := L.need
    obtain ⟨fW, dW, mW, bW, GW⟩ := L.words
    obtain ⟨fS, dS, mS, bS, GS⟩ := L.step
    have hr3 : Room 3 _ := hr
    have hr1 : Room 1 _ := hr.mono (by omega)
    refine ⟨_, pss_cons (ps_set (i := 1) scReadFirst.nd rfl (Or.inl rfl) (pe_meth (pv 0) L.cl mW GW hr1 bW .nil pass0 (pa_cons pe_int pa_nil)))
      (pss_cons (ps_expr (pe_meth (pv 0) L.cl mN GN hr3 bN .nil (pas (takes_of rfl rfl rfl rfl)) (pa_cons (pe_and (pe_cmpR op_eq (pe_callB call_len_seq (by rfl) T.len PySem.boot_len (pa_cons (pv 1) pa_nil)) pe_int (nomark _)) (pe_and (pe_cmpR op_eq (pe_ix ix_list (pv 1) pe_int (fun _ _ => rfl)) pe_str (nomark _)) (pe_one (pe_cmpR (op_inN (hu_of hr)) (pe_ix ix_list (pv 1) pe_int (fun _ _ => rfl)) (pe_tup (pa_cons pe_str (pa_cons pe_str (pa_cons pe_str pa_nil)))) rfl)))) pa_nil)))
      (pss_cons (ps_expr (pe_meth0 (pv 0) L.cl mS GS hr1 bS .nil pass0))
      (pss_one (ps_ret (pe_callTy call_int_str (by rfl) T.int (by decide +kernel) (pa_cons (pe_ix ix_list (pv 1) pe_int (fun _ _ => rfl)) pa_nil)))))), ?_⟩
    obtain ⟨_, _, dx, r, hp, hr'⟩ := id hL
    refine ⟨_, rfl, p, dx, _, rfl, hp, lf_no _ _ (by decide +kernel) (by decide +kernel), p, rows, n, 0, rfl, hL, by omega, fun H1 q1 s1 hq0 hq1 => ?_⟩
    have hL1 := hL.same s1
    obtain ⟨_, _, dx1, r1, hp1, _⟩ := id hL1
    refine ⟨_, rfl, p, dx1, _, rfl, hp1, lf_no _ _ (by decide +kernel) (by decide +kernel), _, rfl, q1, _, rfl, .inl (SqL.of hq1), rfl, _, rfl, ?_⟩
    rw [show decide (V.int (((wordsM rows n 0).map V.str).length : Int) = V.int 2) = decide ((wordsM rows n 0).length = 2) from dlen _ 2]
    by_cases c2 : (wordsM rows n 0).length = 2
    · rw [decide_eq_true c2]
      have hlt := Small.pos hL (d := 0) (n := n) (by omega)
      obtain ⟨x0, x1, ew⟩ := len2 c2
      have em : firstM rows n = if (x0 == ("worths" : Str) && ([("2" : Str), "3", "4"] : List Str).contains x1) = true then .ok (x1.cps.getD 0 0 - 48, n + 1) else .error (n + 1) := by
        unfold firstM
        rw [ew]
      rw [ew] at hq1
      refine iteT ⟨_, rfl, q1, _, _, _, rfl, rfl, SqL.of hq1, atI_nat (j := 0) rfl, rfl, _, rfl, ?_⟩
      rw [dstr]
      cases c0 : x0 == ("worths" : Str) with
      | false =>
        refine iteF ?_
        show spNeed C CB [V.ref p, V.bl _] H1 (fun _ _ => _) _
        refine need_of (b := false) hL1 (Kp.of s1) _ k (fun e => ?_) (fun e => by cases e)
        rw [em, c0]
        rfl
      | true =>
        refine iteT ⟨_, rfl, q1, _, _, _, rfl, rfl, SqL.of hq1, atI_nat (j := 1) rfl, (by decide), fun t2 ht2 => ?_⟩
        have s2 := Same.new (o := .tup [V.str "2", V.str "3", V.str "4"]) ht2
        have ht3 : (upd H1 t2 (.tup [V.str "2", V.str "3", V.str "4"])) t2 = some (.tup [V.str "2", V.str "3", V.str "4"]) := upd_same
        generalize hH2 : upd H1 t2 (.tup [V.str "2", V.str "3", V.str "4"]) = H2 at s2 ht3
        have hL2 := hL1.same s2
        have s12 := s1.trans s2
        refine ⟨x1, [("2" : Str), "3", "4"], rfl, ⟨t2, rfl, .inr (.inr (SqT.of ht3))⟩, ?_⟩
        show spNeed C CB [V.ref p, V.bl _] H2 (fun _ _ => _) _
        refine need_of (b := ([("2" : Str), "3", "4"] : List Str).contains x1) hL2 (Kp.of s12) _ k (fun e => ?_) (fun e => ?_)
        · rw [em, c0, e]
          rfl
        · obtain ⟨i1, i2, i3⟩ := first_int x1 (List.contains_iff_mem.mp e)
          obtain ⟨_, _, dx3, r3, hp3, _⟩ := id hL2
          refine ⟨_, rfl, p, dx3, _, rfl, hp3, lf_no _ _ (by decide +kernel) (by decide +kernel), p, rows, n, rfl, hL2, hlt, fun H3 k3 l3 => ?_⟩
          have hq3 := sql_kp (K := K) hL2 k3 (SqL.of (s2 _ _ hq1))
          refine ⟨_, rfl, q1, _, _, _, rfl, rfl, hq3, atI_nat (j := 1) rfl, _, _, rfl, i1, i2, ?_⟩
          refine outs_ok k (a := x1.cps.getD 0 0 - 48) (n := n + 1) ?_ ((Kp.of s12).trans k3) l3 ⟨rfl, i3⟩
          rw [em, c0, e]
          rfl
    · rw [decide_eq_false c2]
      refine iteF ?_
      show spNeed C CB [V.ref p, V.bl _] H1 (fun _ _ => _) _
      exact need_of (b := false) hL1 (Kp.of s1) _ k (fun _ => firstM_no c2) (fun e => by cases e)
/-! read_line -/
def spLine (K : PySem.W.Frag) (C CB : Addr) : Sp := fun vs H Q E => ∃ (p a : Addr) (rows : List Str) (n d : Nat) (ws : List Str), vs = [.ref p, .int d, .ref a] ∧ Lns C H p rows n ∧ d ≤ 8 ∧ SqL K H a (ws.map V.str) ∧ (∀ x ∈ ws, PyData.strOk x = true) ∧ ws ≠ [] ∧
  Outs C CB p rows H Q E (lineM rows n d ws) fun z v _ => v = .bl z
theorem scReadLine : FnScope ["lines", "depth", "words", "holds"] ["lines", "depth", "words"] (defScope sReadLine) := ⟨rfl, rfl, rfl, by decide +kernel, rfl, by decide +kernel, by decide +kernel⟩
theorem ok_read_line {f : Addr} {fd : FuncData} (F : Fun K "read_line" "read_line" sReadLine f fd) (L : LX P w K mg base C CB) : FnOk P w K mg base (L2.CX P w) 2 f fd ["lines", "depth", "words"] (spLine K C CB) := by
  refine F.okX scReadLine (fun vs H Q E h => ?_) (fun cdv A outer s H vs Q E hr h => ?_)
  · obtain ⟨p, a, rows, n, d, ws, rfl, _⟩ := h
    rfl
  · obtain ⟨p, a, rows, n, d, ws, rfl, hL, hd, ha, hok, hne, k⟩ := h
    obtain ⟨fW, dW, mW, bW, GW⟩ := L.words
    obtain ⟨fS, dS, mS, bS, GS⟩ := L.step
    have hr1 : Room 1 _ := hr
    refine ⟨_, pss_cons (ps_set (i := 3) scReadLine.nd rfl (Or.inl rfl) (pe_cmpR (op_eqD hr.units) (pe_meth (pv 0) L.cl mW GW hr1 bW .nil pass0 (pa_cons (pv 1) pa_nil)) (pv 2) (nomark _)))
      (pss_cons (ps_if (pt_val (pv 3)) (pss_one (ps_expr (pe_meth0 (pv 0) L.cl mS GS hr1 bS .nil pass0))) pss_nil)
      (pss_one (ps_ret (pv 3)))), ?_⟩
    obtain ⟨_, _, dx, r, hp, hr'⟩ := id hL
    refine ⟨_, rfl, p, dx, _, rfl, hp, lf_no _ _ (by decide +kernel) (by decide +kernel), _, rfl, p, rows, n, d, rfl, hL, by omega, fun H1 q1 s1 hq0 hq1 => ?_⟩
    have hL1 := hL.same s1
    refine ⟨_, rfl, _, _, dp_strs (l := wordsM rows n d) (SqL.of hq1), dp_strs (l := ws) (s1.seq ha), shaped_strs _ (fun y hy => (hL.1.word n d y hy).1), shaped_strs _ hok, ?_⟩
    rw [eqv_strs]
    refine ⟨_, rfl, _, rfl, ?_⟩
    refine ite2 (fun c => ?_) (fun c => ?_)
    · have hlt : n < rows.length := Small.pos hL (d := d) (by
        rw [eq_of_beq c]
        cases ws with
        | nil => exact absurd rfl hne
        | cons a b => exact Nat.succ_pos _)
      obtain ⟨_, _, dx3, r3, hp3, _⟩ := id hL1
      refine ⟨_, rfl, p, dx3, _, rfl, hp3, lf_no _ _ (by decide +kernel) (by decide +kernel), p, rows, n, rfl, hL1, hlt, fun H3 k3 l3 => ?_⟩
      refine ⟨_, rfl, ?_⟩
      refine outs_ok k (a := true) (n := n + 1) ?_ ((Kp.of s1).trans k3) l3 (by rw [c])
      unfold lineM
      rw [if_pos c]
    · refine ⟨_, rfl, ?_⟩
      refine outs_ok k (a := false) (n := n) ?_ (Kp.of s1) hL1 (by rw [Bool.eq_false_iff.mpr c])
      unfold lineM
      rw [if_neg c]
end
end K6

/-! text L10x -/
set_option Elab.async false
set_option linter.all false
set_option maxRecDepth 100000
set_option maxHeartbeats 4000000
namespace K6
open PySem PySem.Spec PyProof.Rows L2
local macro_rules | `(tactic| walk_at "lk") => `(tactic| (repeat (first | with_reducible exact lk_hd _ _ _ | with_reducible exact lk_nil _ | refine lk_tl (by decide +kernel) ?_)))
section
variable {P : Program} {w : World} {K : PySem.W.Frag} {mg : Str → Option Value} {base : Heap} {C CB CS fB : Addr}
abbrev NN (P : Program) (w : World) (K : PySem.W.Frag) (mg : Str → Option Value) (base : Heap) (C CB : Addr) : Prop := FnAt P w K mg base (L2.CX P w) 4 "read_new_name" ["lines", "word", "taken"] (spReadNewName K C CB)
abbrev RWo (P : Program) (w : World) (K : PySem.W.Frag) (mg : Str → Option Value) (base : Heap) (C CB : Addr) : Prop := FnAt P w K mg base (L2.CX P w) 4 "read_worth" ["lines", "word", "worths"] (spReadWorth C CB)
def spCells (C CB : Addr) : Sp := fun vs H Q E => ∃ (p : Addr) (rows : List Str) (n N M : Nat), vs = [.ref p, .int N, .int M] ∧ Lns C H p rows n ∧ N ≤ 10 ∧ M ≤ 10 ∧ Outs C CB p rows H Q E (cellsM rows N M n) RepC
def CellInv (C D p : Addr) (H : Hp) (rows : List Str) (n N M cnt : Nat) (σ : L2.St) (H' : Hp) : Prop :=
  ∃ (n' : Nat) (acc : List (Str × Nat)) (a b : Option V), σ = [some (.ref p), some (.int N), some (.int M), some (.ref D), a, b] ∧ Kp p H H' ∧ Lns C H' p rows n' ∧ H' D = some (.dK (cellKv acc)) ∧ acc.length = cnt ∧
    cellsM rows N M n = cellLoop rows N (M - cnt) acc n'
theorem newName_ok {x y : Str} {ns : List Str} {n n' : Nat} (h : newNameM x ns n = .ok (y, n')) : n' = n ∧ y = x ∧ ns.contains x = false ∧ isNameM x = true := by
  unfold newNameM at h
  split at h
  · rename_i e
    cases h
    rw [Bool.and_eq_true] at e
    refine ⟨rfl, rfl, ?_, e.1⟩
    simpa using e.2
  · cases h
theorem readWorth_ok {x : Str} {N n n' z : Nat} (h : readWorthM x N n = .ok (z, n')) : n' = n := by
  unfold readWorthM at h
  split at h
  · cases h; rfl
  · cases h
theorem scReadCells : FnScope ["lines", "worths", "most", "cells", "words", "name"] ["lines", "worths", "most"] (defScope sReadCells) := ⟨rfl, rfl, rfl, by decide +kernel, rfl, by decide +kernel, by decide +kernel⟩
theorem ok_read_cells {f : Addr} {fd : FuncData} (F : Fun K "read_cells" "read_cells" sReadCells f fd) (L : LX P w K mg base C CB) (T : TN K mg) (N1 : NN P w K mg base C CB) (W1 : RWo P w K mg base C CB) : FnOk P w K mg base (L2.CX P w) 5 f fd ["lines", "worths", "most"] (spCells C CB) := by
  refine F.okX scReadCells (fun vs H Q E h => ?_) (fun cdv A outer s H vs Q E hr h => ?_)
  · obtain ⟨p, rows, n, N, M, rfl, _⟩ := h
    rfl
  · obtain ⟨p, rows, n, N, M, rfl, hL, hN, hM, k⟩ := h
    obtain ⟨fN, dN, mN, bN, GN⟩ := L.need
    obtain ⟨fW, dW, mW, bW, GW⟩ := L.words
    obtain ⟨fS, dS, mS, bS, GS⟩ := L.step
    obtain ⟨fB, dB, mB, bB, GB⟩ := L.begins
    obtain ⟨f1, d1, m1, k1, b1, G1⟩ := N1
    obtain ⟨f2, d2, m2, k2, b2, G2⟩ := W1
    have hr3 : Room 3 _ := hr.mono (by omega)
    have hr2 : Room 2 _ := hr.mono (by omega)
    have hr1 : Room 1 _ := hr.mono (by omega)
    refine ⟨_, pss_cons (ps_set (i := 3) scReadCells.nd rfl (Or.inl rfl) pe_dnewK)
      (pss_cons (ps_while (passes_of rfl) (PW.pt (pw_and (pt_cmpR op_lt (pe_callB call_lenD (by rfl) T.len PySem.boot_len (pa_cons (pv 3) pa_nil)) (pv 2) (nomark _)) (pw_and1 (pt_val (pe_meth (pv 0) L.cl mB GB hr2 bB .nil pass0 (pa_cons pe_int (pa_cons pe_str pa_nil))))))) (pss_cons (ps_set (i := 4) scReadCells.nd rfl (Or.inl rfl) (pe_meth (pv 0) L.cl mW GW hr1 bW .nil pass0 (pa_cons pe_int pa_nil)))
      (pss_cons (ps_expr (pe_meth (pv 0) L.cl mN GN hr3 bN .nil (pas (takes_of rfl rfl rfl rfl)) (pa_cons (pe_cmpR op_eq (pe_callB call_len_seq (by rfl) T.len PySem.boot_len (pa_cons (pv 4) pa_nil)) pe_int (nomark _)) pa_nil)))
      (pss_cons (ps_set (i := 5) scReadCells.nd rfl (Or.inl rfl) (pe_call G1 hr rfl m1 k1 b1 .nil (pas (takes_of rfl rfl rfl rfl)) (pa_cons (pv 0) (pa_cons (pe_ix ix_list (pv 4) pe_int (fun _ _ => rfl)) (pa_cons (pv 3) pa_nil)))))
      (pss_cons (ps_dput (hu_of hr) (pv 3) (pv 5) (pe_call G2 hr rfl m2 k2 b2 .nil (pas (takes_of rfl rfl rfl rfl)) (pa_cons (pv 0) (pa_cons (pe_ix ix_list (pv 4) pe_int (fun _ _ => rfl)) (pa_cons (pv 1) pa_nil)))) rfl)
      (pss_one (ps_expr (pe_meth0 (pv 0) L.cl mS GS hr1 bS .nil pass0))))))))
      (pss_one (ps_ret (pv 3)))), ?_⟩
    intro D hD
    have hpD : D ≠ p := fun z => by
      obtain ⟨_, _, dx3, r3, hp3, _⟩ := id hL
      rw [z, hp3] at hD
      cases hD
    refine ⟨fun m σ H' => ∃ cnt, m = M - cnt ∧ cnt ≤ M ∧ CellInv C D p H rows n N M cnt σ H',
      ⟨M, 0, rfl, Nat.zero_le _, n, [], none, none, rfl, Kp.upd_new hL (Kp.refl p H) hD, hL.upd_new (Kp.refl p H) hL hD, upd_same, rfl, rfl⟩, ?_⟩
    rintro m σ H' ⟨cnt, rfl, hcM, n', acc, va, vb, rfl, kk1, l1, hD', hal, hloop⟩
    obtain ⟨_, _, dx, r, hp, hr'⟩ := id l1
    have hkl : (cellKv acc).length = cnt := by
      unfold cellKv
      rw [List.length_map, hal]
    refine ⟨_, rfl, D, _, rfl, hD', _, rfl, _, _, rfl, rfl, _, rfl, ?_⟩
    rw [hkl]
    refine ite2 (fun c1 => ?_) (fun c1 => ?_)
    · have hlt : cnt < M := by
        have z := of_decide_eq_true c1
        omega
      have hl2 : cellLoop rows N (M - cnt) acc n' = if ((wordsM rows n' 1).head? == some ("cell" : Str)) = true then (match wordsM rows n' 1 with
          | [_, a, b] => (match newNameM a (acc.map (·.1)) n' with
            | .error l => .error l
            | .ok _ => match readWorthM b N n' with
              | .error l => .error l
              | .ok r => cellLoop rows N (M - (cnt + 1)) (acc ++ [(a, r.1)]) (n' + 1))
          | _ => .error (n' + 1)) else .ok (acc, n') := by
        rw [show M - cnt = (M - (cnt + 1)) + 1 from by omega]
        rfl
      refine ⟨_, rfl, p, dx, _, rfl, hp, lf_no _ _ (by decide +kernel) (by decide +kernel), p, rows, n', 1, _, rfl, l1, by omega, (by decide +kernel), fun H2 s2 => ⟨_, rfl, ?_⟩⟩
      have l2 := l1.same s2
      have kk2 := kk1.trans (Kp.of s2)
      have hD2 := s2 _ _ hD'
      refine ite2 (fun c2 => ?_) (fun c2 => ?_)
      · rw [if_pos c2] at hl2
        have hwpos : (wordsM rows n' 1).length > 0 := by
          cases e : wordsM rows n' 1 with
          | nil => rw [e] at c2; cases c2
          | cons a b => exact Nat.succ_pos _
        have hln := Small.pos l2 (d := 1) hwpos
        refine ⟨fun σ' H'' => CellInv C D p H rows n N M (cnt + 1) σ' H'', fun σ' H'' hN => ⟨M - (cnt + 1), by omega, cnt + 1, rfl, by omega, hN⟩, ?_⟩
        obtain ⟨_, _, dx2, r2, hp2, _⟩ := id l2
        refine ⟨_, rfl, p, dx2, _, rfl, hp2, lf_no _ _ (by decide +kernel) (by decide +kernel), p, rows, n', 1, rfl, l2, by omega, fun H3 q3 s3 hq30 hq3 => ?_⟩
        have l3 := l2.same s3
        have kk3 := kk2.trans (Kp.of s3)
        have hD3 := s3 _ _ hD2
        obtain ⟨_, _, dx3, r3, hp3, _⟩ := id l3
        refine ⟨_, rfl, p, dx3, _, rfl, hp3, lf_no _ _ (by decide +kernel) (by decide +kernel), _, rfl, q3, _, rfl, .inl (SqL.of hq3), rfl, ?_⟩
        rw [show decide (V.int (((wordsM rows n' 1).map V.str).length : Int) = V.int 3) = decide ((wordsM rows n' 1).length = 3) from dlen _ 3]
        show spNeed C CB [V.ref p, V.bl _] H3 (fun _ _ => _) _
        refine need_of (b := decide ((wordsM rows n' 1).length = 3)) l3 kk3 _ k (fun e => ?_) (fun e => ?_)
        · rw [hloop, hl2]
          have e2 := of_decide_eq_false e
          split
          · rename_i e3
            rw [e3] at e2
            exact absurd rfl e2
          · rfl
        · obtain ⟨x0, x1, x2, ew⟩ := len3 (of_decide_eq_true e)
          have hw1 := hL.1.word n' 1 x1 (by rw [ew]; simp)
          have hw2 := hL.1.word n' 1 x2 (by rw [ew]; simp)
          have em : cellsM rows N M n = (match newNameM x1 (acc.map (·.1)) n' with
            | .error l => .error l
            | .ok _ => match readWorthM x2 N n' with
              | .error l => .error l
              | .ok r => cellLoop rows N (M - (cnt + 1)) (acc ++ [(x1, r.1)]) (n' + 1)) := by
            rw [hloop, hl2, ew]
          rw [ew] at hq3
          refine ⟨_, rfl, _, rfl, q3, _, _, _, rfl, rfl, SqL.of hq3, atI_nat (j := 1) rfl, _, rfl, p, rows, n', x1, _, acc.map (·.1), rfl, l3, hw1.2, ⟨D, rfl, .inl ⟨_, hD3, cellKv_keys acc⟩⟩, ?_⟩
          refine outs_of k kk3 (fun l ev => by rw [em, ev]) fun y n4 ev H4 v4 kk4 l4 rep => ?_
          obtain ⟨rfl, rfl, hfresh, _⟩ := newName_ok ev
          rw [ev] at em
          subst rep
          have kk34 := kk3.trans kk4
          have hq4 := sql_kp (K := K) l3 kk4 (SqL.of hq3)
          refine ⟨_, rfl, _, rfl, q3, _, _, _, rfl, rfl, hq4, atI_nat (j := 2) rfl, _, rfl, p, rows, n4, N, x2, rfl, l4, hw2.2, hN, ?_⟩
          refine outs_of k kk34 (fun l e5 => by rw [em, e5]) fun z n5 e5 H5 v5 kk5 l5 rep => ?_
          obtain rfl := readWorth_ok e5
          rw [e5] at em
          subst rep
          have kk35 := kk34.trans kk5
          have hD5 := kk5.ne D _ hpD (kk4.ne D _ hpD hD3)
          refine ⟨_, rfl, _, rfl, D, _, rfl, DPut.k (k := Sum.inr y) hD5 (by rw [hkl, sizeLine_eq]; omega), ?_⟩
          rw [putK_new (cellKv_keys acc) rfl hfresh]
          have l6 := hL.upd_new kk35 l5 hD (o := .dK (cellKv acc ++ [(Sum.inr y, V.int z)]))
          have kk6 := Kp.upd_new hL kk35 hD (o := .dK (cellKv acc ++ [(Sum.inr y, V.int z)]))
          obtain ⟨_, _, dx6, r6, hp6, _⟩ := id l6
          refine ⟨_, rfl, p, dx6, _, rfl, hp6, lf_no _ _ (by decide +kernel) (by decide +kernel), p, rows, n5, rfl, l6, hln, fun H7 kk7 l7 => ?_⟩
          refine ⟨n5 + 1, acc ++ [(y, z)], _, _, rfl, kk6.trans kk7, l7, ?_, (by rw [List.length_append, hal]; rfl), em⟩
          have e7 := kk7.ne D _ hpD upd_same
          rw [e7]
          unfold cellKv
          rw [List.map_append]
          rfl
      · rw [if_neg c2] at hl2
        refine ⟨_, rfl, ?_⟩
        exact outs_ok k (hloop.trans hl2) kk2 l2 ⟨D, rfl, hD2⟩
    · have hl2 : cellLoop rows N (M - cnt) acc n' = .ok (acc, n') := by
        have z : ¬ cnt < M := fun z => c1 (decide_eq_true (by omega))
        rw [show M - cnt = 0 from by omega]
        rfl
      refine ⟨_, rfl, ?_⟩
      exact outs_ok k (hloop.trans hl2) kk1 l1 ⟨D, rfl, hD'⟩
end
end K6

/-! text L11x -/
set_option Elab.async false
set_option linter.all false
set_option maxRecDepth 100000
set_option maxHeartbeats 4000000
namespace K6
open PySem PySem.Spec PyProof.Rows L2
local macro_rules | `(tactic| walk_at "lk") => `(tactic| (repeat (first | with_reducible exact lk_hd _ _ _ | with_reducible exact lk_nil _ | refine lk_tl (by decide +kernel) ?_)))
abbrev sReadShows : Stmt := top 37
abbrev sReadUnsure : Stmt := top 38
def unsLoop (rows : List Str) (cells : List Str) (worths : Nat) : Nat → Nat → Rd' Unit
  | 0, n => .ok ((), n)
  | f + 1, n => if ((wordsM rows n 1).head? == some ("unsure" : Str)) = true then (match wordsM rows n 1 with
      | [_, a, b, c] => if (cells.contains a && b == ("=" : Str)) = true then (match readWorthM c worths n with
          | .error l => .error l
          | .ok _ => unsLoop rows cells worths f (n + 1)) else .error (n + 1)
      | _ => .error (n + 1)) else .ok ((), n)
def unsureM (rows : List Str) (cells : List Str) (worths n : Nat) : Rd' Unit := unsLoop rows cells worths 2 n
def showsM (rows : List Str) (cells : List Str) (n : Nat) : Rd' Unit :=
  let ws := wordsM rows n 1
  if ((ws.length == 2 || ws.length == 3) && ws.getD 0 "" == ("show" : Str)) = true then (if (ws.drop 1).all (fun x => cells.contains x) = true then (if (ws.length == 2 || !(ws.getD 1 "" == ws.getD 2 "")) = true then .ok ((), n + 1) else .error (n + 1)) else .error (n + 1)) else .error (n + 1)
structure TM (mg : Str → Option Value) : Prop where
  gU : ∃ t, mg "MOST_UNSURE" = some (.int 2 t)
  gA : ∃ t, mg "MOST_ASKS" = some (.int 3 t)
  gC : ∃ t, mg "MOST_CELLS" = some (.int 4 t)
  gH : ∃ t, mg "MOST_HOUSE_CELLS" = some (.int 2 t)
  gD : ∃ t, mg "MOST_DEEDS" = some (.int 3 t)
  gAD : ∃ t, mg "MOST_ASKS_OF_DEED" = some (.int 2 t)
  gAO : ∃ t, mg "MOST_ASKS_OF_OTHERS" = some (.int 1 t)
  tuple : mg "tuple" = none
  list : mg "list" = none
  range : mg "range" = none
section
variable {P : Program} {w : World} {K : PySem.W.Frag} {mg : Str → Option Value} {base : Heap} {C CB CS fB : Addr}
def spUnsure (K : PySem.W.Frag) (C CB : Addr) : Sp := fun vs H Q E => ∃ (p : Addr) (rows : List Str) (n N : Nat) (cv : V) (cells : List Str), vs = [.ref p, .int N, cv] ∧ Lns C H p rows n ∧ N ≤ 10 ∧ Nm K H cv cells ∧ Outs C CB p rows H Q E (unsureM rows cells N n) fun _ _ _ => True
def UnsInv (C D p : Addr) (H : Hp) (rows cells : List Str) (cv : V) (n N cnt : Nat) (σ : L2.St) (H' : Hp) : Prop :=
  ∃ (n' : Nat) (acc : List V) (a : Option V), σ = [some (.ref p), some (.int N), some cv, some (.ref D), a] ∧ Kp p H H' ∧ Lns C H' p rows n' ∧ H' D = some (.lst acc) ∧ acc.length = cnt ∧
    unsureM rows cells N n = unsLoop rows cells N (2 - cnt) n'
theorem scReadUnsure : FnScope ["lines", "worths", "cells", "unsure", "words"] ["lines", "worths", "cells"] (defScope sReadUnsure) := ⟨rfl, rfl, rfl, by decide +kernel, rfl, by decide +kernel, by decide +kernel⟩
theorem ok_read_unsure {f : Addr} {fd : FuncData} (F : Fun K "read_unsure" "read_unsure" sReadUnsure f fd) (L : LX P w K mg base C CB) (T : TN K mg) (M : TM mg) (W1 : RWo P w K mg base C CB) : FnOk P w K mg base (L2.CX P w) 5 f fd ["lines", "worths", "cells"] (spUnsure K C CB) := by
  refine F.okX scReadUnsure (fun vs H Q E h => ?_) (fun cdv A outer s H vs Q E hr h => ?_)
  · obtain ⟨p, rows, n, N, cv, cells, rfl, _⟩ := h
    rfl
  · obtain ⟨p, rows, n, N, cv, cells, rfl, hL, hN, hC, k⟩ := h
    obtain ⟨fN, dN, mN, bN, GN⟩ := L.need
    obtain ⟨fW, dW, mW, bW, GW⟩ := L.words
    obtain ⟨fS, dS, mS, bS, GS⟩ := L.step
    obtain ⟨fB, dB, mB, bB, GB⟩ := L.begins
    obtain ⟨f2, d2, m2, k2, b2, G2⟩ := W1
    obtain ⟨tU, gU⟩ := M.gU
    have hr3 : Room 3 _ := hr.mono (by omega)
    have hr2 : Room 2 _ := hr.mono (by omega)
    have hr1 : Room 1 _ := hr.mono (by omega)
    refine ⟨_, pss_cons (ps_set (i := 3) scReadUnsure.nd rfl (Or.inl rfl) (pe_lst pa_nil))
      (pss_cons (ps_while (passes_of rfl) (PW.pt (pw_and (pt_cmpR op_lt (pe_callB call_len_seq (by rfl) T.len PySem.boot_len (pa_cons (pv 3) pa_nil)) (pe_glob (v := .int 2) rfl gU ⟨_, rfl⟩) (nomark _)) (pw_and1 (pt_val (pe_meth (pv 0) L.cl mB GB hr2 bB .nil pass0 (pa_cons pe_int (pa_cons pe_str pa_nil))))))) (pss_cons (ps_set (i := 4) scReadUnsure.nd rfl (Or.inl rfl) (pe_meth (pv 0) L.cl mW GW hr1 bW .nil pass0 (pa_cons pe_int pa_nil)))
      (pss_cons (ps_expr (pe_meth (pv 0) L.cl mN GN hr3 bN .nil (pas (takes_of rfl rfl rfl rfl)) (pa_cons (pe_and (pe_cmpR op_eq (pe_callB call_len_seq (by rfl) T.len PySem.boot_len (pa_cons (pv 4) pa_nil)) pe_int (nomark _)) (pe_and (pe_cmpR (op_inN (hu_of hr)) (pe_ix ix_list (pv 4) pe_int (fun _ _ => rfl)) (pv 2) rfl) (pe_one (pe_cmpR op_eq (pe_ix ix_list (pv 4) pe_int (fun _ _ => rfl)) pe_str (nomark _))))) pa_nil)))
      (pss_cons (ps_expr (pe_bm PySem.F.plainAttrs_list PySem.F.slot_list_append PySem.F.type_list_append mt_append (pv 3) (pa_cons (pe_tup (pa_cons (pe_ix ix_list (pv 4) pe_int (fun _ _ => rfl)) (pa_cons (pe_call G2 hr rfl m2 k2 b2 .nil (pas (takes_of rfl rfl rfl rfl)) (pa_cons (pv 0) (pa_cons (pe_ix ix_list (pv 4) pe_int (fun _ _ => rfl)) (pa_cons (pv 1) pa_nil)))) pa_nil))) pa_nil)))
      (pss_one (ps_expr (pe_meth0 (pv 0) L.cl mS GS hr1 bS .nil pass0)))))))
      (pss_one (ps_ret (pe_callTy call_tuple_of (by rfl) M.tuple (by decide +kernel) (pa_cons (pv 3) pa_nil))))), ?_⟩
    refine ⟨Nat.zero_le _, fun D hD => ?_⟩
    have hpD : D ≠ p := fun z => by
      obtain ⟨_, _, dx3, r3, hp3, _⟩ := id hL
      rw [z, hp3] at hD
      cases hD
    refine ⟨fun m σ H' => ∃ cnt, m = 2 - cnt ∧ cnt ≤ 2 ∧ UnsInv C D p H rows cells cv n N cnt σ H',
      ⟨2, 0, rfl, Nat.zero_le _, n, [], none, rfl, Kp.upd_new hL (Kp.refl p H) hD, hL.upd_new (Kp.refl p H) hL hD, upd_same, rfl, rfl⟩, ?_⟩
    rintro m σ H' ⟨cnt, rfl, hcM, n', acc, va, rfl, kk1, l1, hD', hal, hloop⟩
    obtain ⟨_, _, dx, r, hp, hr'⟩ := id l1
    have fin : ∀ H2 : Hp, Kp p H H2 → Lns C H2 p rows n' → H2 D = some (.lst acc) → unsLoop rows cells N (2 - cnt) n' = .ok ((), n') → ∀ l, H2 l = none → Q (.ref l) (upd H2 l (.tup acc)) := fun H2 kk2 l2 _ e l hl =>
      outs_ok k (hloop.trans e) (kk2.trans (Kp.of (Same.new hl))) (l2.same (Same.new hl)) trivial
    refine ⟨_, rfl, D, _, rfl, .inl (SqL.of hD'), _, _, rfl, rfl, _, rfl, ?_⟩
    refine ite2 (fun c1 => ?_) (fun c1 => ?_)
    · have hlt : cnt < 2 := by
        have z := of_decide_eq_true c1
        omega
      have hl2 : unsLoop rows cells N (2 - cnt) n' = if ((wordsM rows n' 1).head? == some ("unsure" : Str)) = true then (match wordsM rows n' 1 with
          | [_, a, b, c] => if (cells.contains a && b == ("=" : Str)) = true then (match readWorthM c N n' with
              | .error l => .error l
              | .ok _ => unsLoop rows cells N (2 - (cnt + 1)) (n' + 1)) else .error (n' + 1)
          | _ => .error (n' + 1)) else .ok ((), n') := by
        rw [show 2 - cnt = (2 - (cnt + 1)) + 1 from by omega]
        rfl
      refine ⟨_, rfl, p, dx, _, rfl, hp, lf_no _ _ (by decide +kernel) (by decide +kernel), p, rows, n', 1, _, rfl, l1, by omega, (by decide +kernel), fun H2 s2 => ⟨_, rfl, ?_⟩⟩
      have l2 := l1.same s2
      have kk2 := kk1.trans (Kp.of s2)
      have hD2 := s2 _ _ hD'
      refine ite2 (fun c2 => ?_) (fun c2 => ?_)
      · rw [if_pos c2] at hl2
        have hwpos : (wordsM rows n' 1).length > 0 := by
          cases e : wordsM rows n' 1 with
          | nil => rw [e] at c2; cases c2
          | cons a b => exact Nat.succ_pos _
        have hln := Small.pos l2 (d := 1) hwpos
        refine ⟨fun σ' H'' => UnsInv C D p H rows cells cv n N (cnt + 1) σ' H'', fun σ' H'' hN => ⟨2 - (cnt + 1), by omega, cnt + 1, rfl, by omega, hN⟩, ?_⟩
        obtain ⟨_, _, dx2, r2, hp2, _⟩ := id l2
        refine ⟨_, rfl, p, dx2, _, rfl, hp2, lf_no _ _ (by decide +kernel) (by decide +kernel), p, rows, n', 1, rfl, l2, by omega, fun H3 q3 s3 hq30 hq3 => ?_⟩
        have l3 := l2.same s3
        have kk3 := kk2.trans (Kp.of s3)
        have hD3 := s3 _ _ hD2
        have hC3 := nm_kp hL kk3 hC
        obtain ⟨_, _, dx3, r3, hp3, _⟩ := id l3
        refine ⟨_, rfl, p, dx3, _, rfl, hp3, lf_no _ _ (by decide +kernel) (by decide +kernel), _, rfl, q3, _, rfl, .inl (SqL.of hq3), rfl, _, rfl, ?_⟩
        rw [show decide (V.int (((wordsM rows n' 1).map V.str).length : Int) = V.int 4) = decide ((wordsM rows n' 1).length = 4) from dlen _ 4]
        by_cases c4 : (wordsM rows n' 1).length = 4
        · rw [decide_eq_true c4]
          obtain ⟨x0, x1, x2, x3, ew⟩ := len4 c4
          have hw3 := hL.1.word n' 1 x3 (by rw [ew]; simp)
          rw [ew] at hq3 hl2
          have hl2 : unsLoop rows cells N (2 - cnt) n' = if (cells.contains x1 && x2 == ("=" : Str)) = true then (match readWorthM x3 N n' with
              | .error l => .error l
              | .ok _ => unsLoop rows cells N (2 - (cnt + 1)) (n' + 1)) else .error (n' + 1) := hl2
          refine iteT ⟨_, rfl, q3, _, _, _, rfl, rfl, SqL.of hq3, atI_nat (j := 1) rfl, _, rfl, x1, cells, rfl, hC3, _, rfl, ?_⟩
          show (if cells.contains x1 = true then _ else _)
          cases c5 : cells.contains x1 with
          | false =>
            refine iteF ?_
            show spNeed C CB [V.ref p, V.bl _] H3 (fun _ _ => _) _
            refine need_of (b := false) l3 kk3 _ k (fun e => ?_) (fun e => by cases e)
            rw [hloop, hl2, c5]
            rfl
          | true =>
            refine iteT ⟨_, rfl, q3, _, _, _, rfl, rfl, SqL.of hq3, atI_nat (j := 2) rfl, rfl, ?_⟩
            rw [dstr]
            show spNeed C CB [V.ref p, V.bl _] H3 (fun _ _ => _) _
            refine need_of (b := x2 == ("=" : Str)) l3 kk3 _ k (fun e => ?_) (fun e => ?_)
            · rw [hloop, hl2, c5, e]
              rfl
            · have em : unsureM rows cells N n = (match readWorthM x3 N n' with
                | .error l => .error l
                | .ok _ => unsLoop rows cells N (2 - (cnt + 1)) (n' + 1)) := by
                rw [hloop, hl2, c5, e]
                rfl
              refine ⟨_, rfl, .inl ⟨rfl, _, SqL.of hD3⟩, _, rfl, q3, _, _, _, rfl, rfl, SqL.of hq3, atI_nat (j := 1) rfl, _, rfl, _, rfl, q3, _, _, _, rfl, rfl, SqL.of hq3, atI_nat (j := 3) rfl, _, rfl, p, rows, n', N, x3, rfl, l3, hw3.2, hN, ?_⟩
              refine outs_of k kk3 (fun l ev => by rw [em, ev]) fun z n5 ev H5 v5 kk5 l5 rep => ?_
              obtain rfl := readWorth_ok ev
              rw [ev] at em
              have kk35 := kk3.trans kk5
              have hD5 := kk5.ne D _ hpD hD3
              refine ⟨(by show 2 ≤ sizeLine; decide), fun t6 ht6 => ?_⟩
              have s6 := Same.new (o := .tup [V.str x1, v5]) ht6
              generalize hH6 : upd H5 t6 (.tup [V.str x1, v5]) = H6 at s6
              have hD6 := s6 _ _ hD5
              refine ⟨D, _, _, rfl, rfl, hD6, (by rw [sizeLine_eq]; omega), ?_⟩
              have kk36 := kk35.trans (Kp.of s6)
              have l7 := hL.upd_new kk36 (l5.same s6) hD (o := .lst (acc ++ [V.ref t6]))
              have kk7 := Kp.upd_new hL kk36 hD (o := .lst (acc ++ [V.ref t6]))
              obtain ⟨_, _, dx6, r6, hp6, _⟩ := id l7
              refine ⟨_, rfl, p, dx6, _, rfl, hp6, lf_no _ _ (by decide +kernel) (by decide +kernel), p, rows, n5, rfl, l7, hln, fun H8 kk8 l8 => ?_⟩
              exact ⟨n5 + 1, acc ++ [V.ref t6], _, rfl, kk7.trans kk8, l8, kk8.ne D _ hpD upd_same, (by rw [List.length_append, hal]; rfl), em⟩
        · rw [decide_eq_false c4]
          refine iteF ?_
          show spNeed C CB [V.ref p, V.bl _] H3 (fun _ _ => _) _
          refine need_of (b := false) l3 kk3 _ k (fun e => ?_) (fun e => by cases e)
          rw [hloop, hl2]
          split
          · rename_i e3
            rw [e3] at c4
            exact absurd rfl c4
          · rfl
      · rw [if_neg c2] at hl2
        exact ⟨_, rfl, D, _, rfl, .inl ⟨SqL.of hD2, fin H2 kk2 l2 hD2 hl2⟩⟩
    · have hl2 : unsLoop rows cells N (2 - cnt) n' = .ok ((), n') := by
        have z : ¬ acc.length < 2 := fun z => c1 (decide_eq_true (by omega))
        rw [show 2 - cnt = 0 from by omega]
        rfl
      exact ⟨_, rfl, D, _, rfl, .inl ⟨SqL.of hD', fin H' kk1 l1 hD' hl2⟩⟩
/-! read_shows -/
def spShows (K : PySem.W.Frag) (C CB : Addr) : Sp := fun vs H Q E => ∃ (p : Addr) (rows : List Str) (n : Nat) (cv : V) (cells : List Str), vs = [.ref p, cv] ∧ Lns C H p rows n ∧ Nm K H cv cells ∧ Outs C CB p rows H Q E (showsM rows cells n) fun _ _ _ => True
theorem scReadShows : FnScope ["lines", "cells", "words", "shows", "name"] ["lines", "cells"] (defScope sReadShows) := ⟨rfl, rfl, rfl, by decide +kernel, rfl, by decide +kernel, by decide +kernel⟩
theorem inV2 (m : Nat) : inV (V.int (m : Int)) [V.int 2, V.int 3] = (m == 2 || m == 3) := by
  show (((2 : Int) == (m : Int)) || (((3 : Int) == (m : Int)) || false)) = _
  have e : ∀ j : Nat, ((j : Int) == (m : Int)) = (m == j) := fun j => by
    by_cases h : m = j
    · rw [h, beq_self_eq_true, beq_self_eq_true]
    · rw [beq_eq_false_iff_ne.mpr h, beq_eq_false_iff_ne.mpr (by omega)]
  rw [show (2 : Int) = ((2 : Nat) : Int) from rfl, show (3 : Int) = ((3 : Nat) : Int) from rfl, e, e, Bool.or_false]
theorem cut_from (ws : List Str) (a : Nat) (h : a ≤ ws.length) : cutV (ws.map V.str) (some ((a : Nat) : Int)) none = (ws.drop a).map V.str := by
  unfold cutV
  rw [HT.sIx_nat, HT.sIx_none, List.length_map, Nat.min_eq_left h, ← List.map_drop, List.take_of_length_le]
  rw [List.length_map, List.length_drop]
  exact Nat.le_refl _
theorem ok_read_shows {f : Addr} {fd : FuncData} (F : Fun K "read_shows" "read_shows" sReadShows f fd) (L : LX P w K mg base C CB) (T : TN K mg) (M : TM mg) : FnOk P w K mg base (L2.CX P w) 4 f fd ["lines", "cells"] (spShows K C CB) := by
  refine F.okX scReadShows (fun vs H Q E h => ?_) (fun cdv A outer s H vs Q E hr h => ?_)
  · obtain ⟨p, rows, n, cv, cells, rfl, _⟩ := h
    rfl
  · obtain ⟨p, rows, n, cv, cells, rfl, hL, hC, k⟩ := h
    obtain ⟨fN, dN, mN, bN, GN⟩ := L.need
    obtain ⟨fW, dW, mW, bW, GW⟩ := L.words
    obtain ⟨fS, dS, mS, bS, GS⟩ := L.step
    have hr3 : Room 3 _ := hr.mono (by omega)
    have hr1 : Room 1 _ := hr.mono (by omega)
    refine ⟨_, pss_cons (ps_set (i := 2) scReadShows.nd rfl (Or.inl rfl) (pe_meth (pv 0) L.cl mW GW hr1 bW .nil pass0 (pa_cons pe_int pa_nil)))
      (pss_cons (ps_expr (pe_meth (pv 0) L.cl mN GN hr3 bN .nil (pas (takes_of rfl rfl rfl rfl)) (pa_cons (pe_and (pe_cmpR op_in_seq (pe_callB call_len_seq (by rfl) T.len PySem.boot_len (pa_cons (pv 2) pa_nil)) (pe_tup (pa_cons pe_int (pa_cons pe_int pa_nil))) rfl) (pe_one (pe_cmpR op_eq (pe_ix ix_list (pv 2) pe_int (fun _ _ => rfl)) pe_str (nomark _)))) pa_nil)))
      (pss_cons (ps_set (i := 3) scReadShows.nd rfl (Or.inl rfl) (pe_slice sl_list (pv 2) (po_some pe_int) po_none))
      (pss_cons (ps_expr (pe_meth (pv 0) L.cl mN GN hr3 bN .nil (pas (takes_of rfl rfl rfl rfl)) (pa_cons (pe_callB (cr_all rfl) (by rfl) T.all (by decide +kernel) (pa_cons (pe_lc (own := [("name", 4)]) (g := gName 4) (tt := tYes) rfl scReadShows.nd (pi_list (pv 3)) (blkOk_by (own := [("name", 4)]) (N := ["lines", "cells", "words", "shows", "name"]) (sc := defScope sReadShows) (by decide +kernel)) (fun _ _ _ _ _ => pg_name (i := 4) scReadShows.nd rfl (Or.inl rfl)) (fun _ _ _ _ _ => pts_nil) (fun _ _ _ _ _ => pe_cmpR (show OpR _ _ (rInN K false) from op_inN (hu_of hr)) (pv 4) (pv 1) rfl)) pa_nil)) pa_nil)))
      (pss_cons (ps_expr (pe_meth (pv 0) L.cl mN GN hr3 bN .nil (pas (takes_of rfl rfl rfl rfl)) (pa_cons (pe_or (pe_cmpR op_eq (pe_callB call_len_seq (by rfl) T.len PySem.boot_len (pa_cons (pv 3) pa_nil)) pe_int (nomark _)) (pe_one (pe_cmpR op_ne (pe_ix ix_list (pv 3) pe_int (fun _ _ => rfl)) (pe_ix ix_list (pv 3) pe_int (fun _ _ => rfl)) (nomark _)))) pa_nil)))
      (pss_cons (ps_expr (pe_meth0 (pv 0) L.cl mS GS hr1 bS .nil pass0))
      (pss_one (ps_ret (pe_callTy call_tuple_of (by rfl) M.tuple (by decide +kernel) (pa_cons (pv 3) pa_nil))))))))), ?_⟩
    obtain ⟨_, _, dx, r, hp, hr'⟩ := id hL
    refine ⟨_, rfl, p, dx, _, rfl, hp, lf_no _ _ (by decide +kernel) (by decide +kernel), p, rows, n, 1, rfl, hL, by omega, fun H1 q1 s1 hq0 hq1 => ?_⟩
    have hL1 := hL.same s1
    have e0 : showsM rows cells n = showsM rows cells n := rfl
    conv at e0 => rhs; unfold showsM
    dsimp only at e0
    generalize hws : wordsM rows n 1 = ws at hq1 e0
    obtain ⟨_, _, dx1, r1, hp1, _⟩ := id hL1
    refine ⟨_, rfl, p, dx1, _, rfl, hp1, lf_no _ _ (by decide +kernel) (by decide +kernel), _, rfl, q1, _, rfl, .inl (SqL.of hq1), (by decide), fun t2 ht2 => ?_⟩
    have s2 := Same.new (o := .tup [V.int 2, V.int 3]) ht2
    have ht3 : (upd H1 t2 (.tup [V.int 2, V.int 3])) t2 = some (.tup [V.int 2, V.int 3]) := upd_same
    generalize hH2 : upd H1 t2 (.tup [V.int 2, V.int 3]) = H2 at s2 ht3
    have l2 := hL1.same s2
    have hq2 := s2 _ _ hq1
    have s12 := s1.trans s2
    refine ⟨t2, _, rfl, .inr (SqT.of ht3), rfl, rfl, _, rfl, ?_⟩
    show (if (inV (V.int ((ws.map V.str).length : Int)) [V.int 2, V.int 3]) = true then _ else _)
    rw [inV2, List.length_map]
    cases c0 : (ws.length == 2 || ws.length == 3) with
    | false =>
      refine iteF ?_
      show spNeed C CB [V.ref p, V.bl _] H2 (fun _ _ => _) _
      refine need_of (b := false) l2 (Kp.of s12) _ k (fun e => ?_) (fun e => by cases e)
      rw [e0, c0]
      rfl
    | true =>
      have hlen : ws.length = 2 ∨ ws.length = 3 := by simpa only [Bool.or_eq_true, beq_iff_eq] using c0
      refine iteT ⟨_, rfl, q1, _, _, _, rfl, rfl, SqL.of hq2, atI_nat (j := 0) (getS (by omega)), rfl, ?_⟩
      rw [dstr]
      show spNeed C CB [V.ref p, V.bl _] H2 (fun _ _ => _) _
      refine need_of (b := ws.getD 0 "" == ("show" : Str)) l2 (Kp.of s12) _ k (fun e => ?_) (fun e => ?_)
      · rw [e0, c0, e]
        rfl
      · have e1 : showsM rows cells n = (if (ws.drop 1).all (fun x => cells.contains x) = true then (if (ws.length == 2 || !(ws.getD 1 "" == ws.getD 2 "")) = true then .ok ((), n + 1) else .error (n + 1)) else .error (n + 1)) := by
          rw [e0, c0, e]
          rfl
        have hlt : n < rows.length := Small.pos hL (d := 1) (by rw [hws]; omega)
        refine ⟨_, rfl, _, rfl, q1, _, rfl, SqL.of hq2, fun q3 hq3 => ?_⟩
        have s3 := Same.new (o := .lst (cutV (ws.map V.str) (some 1) none)) hq3
        have hq4 : (upd H2 q3 (.lst (cutV (ws.map V.str) (some 1) none))) q3 = some (.lst ((ws.drop 1).map V.str)) := by
          rw [upd_same, show (some (1 : Int)) = some ((1 : Nat) : Int) from rfl, cut_from ws 1 (by omega)]
        generalize hH3 : upd H2 q3 (.lst (cutV (ws.map V.str) (some 1) none)) = H3 at s3 hq4
        have l3 := l2.same s3
        have s13 := s12.trans s3
        have hC3 := nm_kp hL (Kp.of s13) hC
        obtain ⟨_, _, dx3, r3, hp3, _⟩ := id l3
        refine ⟨_, rfl, p, dx3, _, rfl, hp3, lf_no _ _ (by decide +kernel) (by decide +kernel), _, rfl, q3, rfl, ⟨_, SqL.of hq4⟩, fun D hD => ?_⟩
        refine lc_list (K := K) (a := q3) (xs := (ws.drop 1).map V.str) (fun i H' => Same H3 H' ∧ H' D = some (.lst (((ws.drop 1).take i).map fun x => V.bl (cells.contains x)))) ⟨Same.new hD, upd_same⟩ (fun i H' _ ⟨s, _⟩ => s.seq (SqL.of hq4)) ?_ ?_
        · rintro i x H' hx ⟨sx, hx2⟩
          obtain ⟨y, hy, rfl⟩ : ∃ y, (ws.drop 1)[i]? = some y ∧ x = V.str y := by
            rw [List.getElem?_map] at hx
            cases e : (ws.drop 1)[i]? with
            | none =>
              rw [e] at hx
              cases hx
            | some y =>
              rw [e] at hx
              exact ⟨y, rfl, (Option.some.inj hx).symm⟩
          refine ⟨rfl, ?_⟩
          refine ⟨_, rfl, _, rfl, y, cells, rfl, nm_kp l3 (Kp.of sx) hC3, _, hx2, (by rw [List.length_map, List.length_take, List.length_drop, sizeLine_eq]; omega), ?_⟩
          refine ⟨fun b o e => ?_, ?_⟩
          · rw [upd_ne (fun z => by
              rw [z] at e
              rw [hD] at e
              cases e)]
            exact sx b o e
          · rw [upd_same, List.take_add_one, List.map_append, hy]
            rfl
        · rintro H' ⟨sx, hx2⟩
          rw [List.length_map, List.take_length] at hx2
          have l4 := l3.same sx
          have s14 := s13.trans sx
          refine ⟨D, (ws.drop 1).map fun x => cells.contains x, rfl, SqL.of (by rw [hx2, List.map_map]; rfl), ?_⟩
          have ea : ((ws.drop 1).map fun x => cells.contains x).all id = (ws.drop 1).all (fun x => cells.contains x) := by
            rw [List.all_map]
            rfl
          rw [ea]
          show spNeed C CB [V.ref p, V.bl _] H' (fun _ _ => _) _
          refine need_of (b := (ws.drop 1).all (fun x => cells.contains x)) l4 (Kp.of s14) _ k (fun e => ?_) (fun e => ?_)
          · rw [e1, e]
            rfl
          · have e2 : showsM rows cells n = (if (ws.length == 2 || !(ws.getD 1 "" == ws.getD 2 "")) = true then .ok ((), n + 1) else .error (n + 1)) := by
              rw [e1, e]
              rfl
            have hq5 := sx _ _ hq4
            obtain ⟨_, _, dx4, r4, hp4, _⟩ := id l4
            have fin : (ws.length == 2 || !(ws.getD 1 "" == ws.getD 2 "")) = true → ∀ H5, Kp p H' H5 → Lns C H5 p rows (n + 1) → ∀ l, H5 l = none → Q (.ref l) (upd H5 l (.tup ((ws.drop 1).map V.str))) := fun ee H5 k5 l5 l hl =>
              outs_ok k (by rw [e2, ee]; rfl) ((Kp.of s14).trans (k5.trans (Kp.of (Same.new hl)))) (l5.same (Same.new hl)) trivial
            have hdl : ((ws.drop 1).map V.str).length = ws.length - 1 := by rw [List.length_map, List.length_drop]
            refine ⟨_, rfl, p, dx4, _, rfl, hp4, lf_no _ _ (by decide +kernel) (by decide +kernel), _, rfl, q3, _, rfl, .inl (SqL.of hq5), rfl, _, rfl, ?_⟩
            rw [show decide (V.int (((ws.drop 1).map V.str).length : Int) = V.int 1) = decide ((ws.drop 1).length = 1) from dlen _ 1]
            by_cases c6 : ws.length = 2
            · rw [show decide ((ws.drop 1).length = 1) = true from decide_eq_true (by rw [List.length_drop]; omega)]
              refine iteT ?_
              show spNeed C CB [V.ref p, V.bl _] H' (fun _ _ => _) _
              refine need_of (b := true) l4 (Kp.of s14) _ k (fun e => by cases e) (fun _ => ?_)
              refine ⟨_, rfl, p, dx4, _, rfl, hp4, lf_no _ _ (by decide +kernel) (by decide +kernel), p, rows, n, rfl, l4, hlt, fun H5 k5 l5 => ?_⟩
              exact ⟨_, rfl, q3, _, rfl, .inl ⟨sql_kp (K := K) l4 k5 (SqL.of hq5), fin (by rw [show (ws.length == 2) = true from beq_iff_eq.mpr c6]; rfl) H5 k5 l5⟩⟩
            · have h3 : ws.length = 3 := by omega
              rw [show decide ((ws.drop 1).length = 1) = false from decide_eq_false (by rw [List.length_drop]; omega)]
              obtain ⟨x0, x1, x2, rfl⟩ := len3 h3
              refine iteF ⟨_, rfl, q3, _, _, _, rfl, rfl, SqL.of hq5, atI_nat (j := 0) rfl, _, rfl, q3, _, _, _, rfl, rfl, SqL.of hq5, atI_nat (j := 1) rfl, rfl, ?_⟩
              rw [dstr]
              show spNeed C CB [V.ref p, V.bl _] H' (fun _ _ => _) _
              refine need_of (b := !(x1 == x2)) l4 (Kp.of s14) _ k (fun e => ?_) (fun e => ?_)
              · rw [e2]
                show (if (false || !(x1 == x2)) = true then _ else _) = _
                rw [e]
                rfl
              · refine ⟨_, rfl, p, dx4, _, rfl, hp4, lf_no _ _ (by decide +kernel) (by decide +kernel), p, rows, n, rfl, l4, hlt, fun H5 k5 l5 => ?_⟩
                exact ⟨_, rfl, q3, _, rfl, .inl ⟨sql_kp (K := K) l4 k5 (SqL.of hq5), fin e H5 k5 l5⟩⟩
end
end K6

/-! text L12x -/
set_option Elab.async false
set_option linter.all false
set_option maxRecDepth 100000
set_option maxHeartbeats 4000000
namespace L2
open PySem PySem.Spec PyProof.Rows
section
variable {X : Cx}
/-- name = {..} on one line, the name a local -/
theorem ps_setDc {i : Nat} {y : Str} {py : Pos} {kx vx tg iter : Expr} {ifs : List Expr} {scope : Scope} {own : List (Str × Nat)} {pos spos : Pos} {wi : TI} {g : TG} {tt : TT} {tk tv : TE} (hc : X.calm = true) (hN : X.N.Nodup) (hy : X.N[i]? = some y) (hyl : X.env.scope.names.lookup y = some .local)
    (hsw : swapsWith (.DictComp kx vx [⟨tg, iter, ifs, 0⟩] scope pos) (some (.Name y py)) spos.line X.env = pure true) (hi : PI X tg iter wi) (ok : BlkOk X.N X.env.scope scope own)
    (hg : ∀ (s : Shared) (H : Hp) (C : Addr) (cl : List (Str × Addr)) (fp : List Addr), PG (X.blk s H scope (compEnvC scope cl C X.env) fp) tg g) (ht : ∀ (s : Shared) (H : Hp) (C : Addr) (cl : List (Str × Addr)) (fp : List Addr), PTs (X.blk s H scope (compEnvC scope cl C X.env) fp) ifs tt)
    (hk : ∀ (s : Shared) (H : Hp) (C : Addr) (cl : List (Str × Addr)) (fp : List Addr), PE (X.blk s H scope (compEnvC scope cl C X.env) fp) kx tk)
    (he : ∀ (s : Shared) (H : Hp) (C : Addr) (cl : List (Str × Addr)) (fp : List Addr), PE (X.blk s H scope (compEnvC scope cl C X.env) fp) vx tv) (hs : ∀ x, foldedSetIterable iter X.env x = pure x := by intro _; rfl) :
    PS X (.Assign [.Name y py] (.DictComp kx vx [⟨tg, iter, ifs, 0⟩] scope pos) spos) (tAsg (tDc wi g tt tk tv (own.map (·.2))) (gName i)) := by
  refine ⟨fun pins s σ H D I h => ?_⟩
  rw [exec_Assign_Name_used _ _ _ _ hsw]
  refine wpAny_bind (wpAny_standAt (wpAny_bind ?_))
  show wpAny _ X.A (do let _ ← comprehension (.DictComp kx vx [⟨tg, iter, ifs, 0⟩] scope pos) scope X.env (firstIterPos [⟨tg, iter, ifs, 0⟩] pos) newDict false (eval iter X.env) (some (assign (.Name y py) X.env))) _ _ s
  have h : tDc wi g tt tk tv (own.map (·.2)) σ H (fun x H1 => gName i x σ H1 D.nx) := h
  refine wpAny_bind (thn (dc_core (Qf := fun _ s' => SP X pins D .next s') hc hN I hi ok hg ht hk he hs h fun L C s' m H' I' q hn f => ?_) fun _ s' hq => wpAny_pure (wpAny_pure hq))
  show wpAny _ _ (assign (.Name y py) X.env (.ref L)) _ _ _
  refine wpAny_assign_Name (store_ok2 (v := V.ref L) I' hN hy (.inl hyl) rfl (fun s2 I2 ⟨a, sb, ha⟩ => ?_) (.inr hyl))
  obtain ⟨f0, f1, f2, f3, f4, f5⟩ := f
  have haC : C ≠ a := by
    rcases ha with z | z
    · rw [z]; exact f1
    · exact fun e => f4 y a z e.symm
  refine ⟨m, hn.sameBut sb haC, fun h3 sb3 => ?_⟩
  exact ⟨_, H', I2.turned (t' := s2.toks) (fun b o hb e => (sb3.2 b hb).trans e) f0 f1 f3 f4 f5, q⟩
theorem swD_true {kx vx : Expr} {gs : List Comprehension} {scope : Scope} {pos py : Pos} {y : Str} {l : Nat} {env : Env} (hk : env.scope.kind = .function) (hy : env.scope.names.lookup y = some .local) (hl : (py.line == pos.line) = true)
    (ha : (scope.names.any fun (n, k) => n == y && (k == .local || k == .cell)) = false) : swapsWith (.DictComp kx vx gs scope pos) (some (.Name y py)) l env = pure true := by
  have ky : env.kindOf y = some .local := hy
  have hb : env.blockKind = .function := by unfold Env.blockKind; rw [hk]; rfl
  unfold swapsWith
  simp only [hb, ky, ha, Expr.pos, hl]
  rfl
theorem dc_list {K : PySem.W.Frag} {a : Addr} {xs : List V} {g : TG} {tt : TT} {tk tv : TE} {vs : List Nat} {σ : L2.St} {H1 : Hp} {D : Addr} {Qd : Hp → Prop} (Pv : Nat → Hp → Prop) (h0 : Pv 0 (upd H1 D (.dK []))) (hl : ∀ i H, i ≤ xs.length → Pv i H → SqL K H a xs)
    (hs : ∀ i x H, xs[i]? = some x → Pv i H → g x (wipe σ vs) H fun σ2 H2 => wipe σ2 vs = wipe σ vs ∧ tt σ2 H2 fun b H3 =>
      if b = true then tk σ2 H3 fun y H4 => tv σ2 H4 fun z H5 => ∃ kvs k, y = kV k ∧ H5 D = some (.dK kvs) ∧ kvs.length < sizeLine ∧ Pv (i + 1) (upd H5 D (.dK (putK kvs k z))) else Pv (i + 1) H3) (hd : ∀ H, Pv xs.length H → Qd H) :
    ∃ W : Nat → Nat → Hp → Prop, (∃ m, W 0 m (upd H1 D (.dK []))) ∧ ∀ i m H, W i m H →
      ((Itl K a).stop i H ∧ Qd H) ∨ ((Itl K a).go i H ∧ ∃ Nx : Hp → Prop, (∀ H', Nx H' → ∃ m', m' < m ∧ W (i + 1) m' H') ∧ ∀ x H', (Itl K a).yld i H x H' → g x (wipe σ vs) H' fun σ2 H2 => wipe σ2 vs = wipe σ vs ∧ tt σ2 H2 fun b H3 =>
        if b = true then tk σ2 H3 fun y H4 => tv σ2 H4 fun z H5 => ∃ kvs k, y = kV k ∧ H5 D = some (.dK kvs) ∧ kvs.length < sizeLine ∧ Nx (upd H5 D (.dK (putK kvs k z))) else Nx H3) := by
  refine ⟨fun i m H => m = xs.length - i ∧ i ≤ xs.length ∧ Pv i H, ⟨xs.length, by simp, Nat.zero_le _, h0⟩, ?_⟩
  rintro i m H ⟨rfl, hi, p⟩
  have q := hl i H hi p
  by_cases hlt : i < xs.length
  · refine .inr ⟨⟨xs, xs[i], q, by simp [hlt]⟩, Pv (i + 1), fun H' p' => ⟨xs.length - (i + 1), by omega, rfl, hlt, p'⟩, fun x H' y => ?_⟩
    obtain ⟨e, y⟩ := y
    subst e
    exact hs i x _ (y xs q) p
  · have e : i = xs.length := by omega
    subst e
    exact .inl ⟨⟨xs, q, Nat.le_refl _⟩, hd H p⟩
end
end L2
namespace K6
open PySem PySem.Spec PyProof.Rows L2
local macro_rules | `(tactic| walk_at "lk") => `(tactic| (repeat (first | with_reducible exact lk_hd _ _ _ | with_reducible exact lk_nil _ | refine lk_tl (by decide +kernel) ?_)))
abbrev sReadChoices : Stmt := top 40
def chLoop (rows : List Str) (word : Str) (choices : List Str) : Nat → List Str → Nat → Rd' Unit
  | 0, _, _ => .error 0
  | f + 1, left, n => if ((wordsM rows n 1).head? == some word) = true then (match wordsM rows n 1 with
      | [_, a, b] => if (left.contains a && choices.contains b) = true then chLoop rows word choices f (left.drop (left.idxOf a + 1)) (n + 1) else .error (n + 1)
      | _ => .error (n + 1)) else .ok ((), n)
def choicesM (rows : List Str) (word : Str) (names choices : List Str) (n : Nat) : Rd' Unit := chLoop rows word choices (names.length + 1) names n
/-- a dict whose keys are these names -/
def RepK (names : List Str) (v : V) (H : Hp) : Prop := ∃ a kvs, v = .ref a ∧ H a = some (.dK kvs) ∧ kvs.map (·.1) = names.map Sum.inr
/-- its values are texts -/
def AllS (kvs : List (Key × V)) : Prop := ∀ kv ∈ kvs, ∃ z : Str, kv.2 = V.str z
theorem allS_put {kvs : List (Key × V)} {k : Key} {z : Str} (h : AllS kvs) : AllS (putK kvs k (V.str z)) := by
  unfold putK
  split
  · intro kv hkv
    obtain ⟨a, ha, rfl⟩ := List.mem_map.mp hkv
    split
    · exact ⟨z, rfl⟩
    · exact h a ha
  · intro kv hkv
    rcases List.mem_append.mp hkv with hkv | hkv
    · exact h kv hkv
    · rw [List.mem_singleton.mp hkv]
      exact ⟨z, rfl⟩
/-- a new one -/
def RepKF (H0 : Hp) (names : List Str) (v : V) (H : Hp) : Prop := ∃ a kvs, v = .ref a ∧ H0 a = none ∧ H a = some (.dK kvs) ∧ kvs.map (·.1) = names.map Sum.inr ∧ AllS kvs
def RepKS (names : List Str) (v : V) (H : Hp) : Prop := ∃ a kvs, v = .ref a ∧ H a = some (.dK kvs) ∧ kvs.map (·.1) = names.map Sum.inr ∧ AllS kvs
theorem RepKS.k {H : Hp} {names : List Str} {v : V} (h : RepKS names v H) : RepK names v H := by
  obtain ⟨a, kvs, e, h1, h2, _⟩ := h
  exact ⟨a, kvs, e, h1, h2⟩
theorem putK_keys {kvs : List (Key × V)} {ns : List Str} {x : Str} {v : V} (e : kvs.map (·.1) = ns.map Sum.inr) (h : ns.contains x = true) : (putK kvs (Sum.inr x) v).map (·.1) = ns.map Sum.inr := by
  unfold putK
  have hm : (Sum.inr x : Key) ∈ kvs.map (·.1) := by
    rw [e]
    exact List.mem_map_of_mem (List.contains_iff_mem.mp h)
  obtain ⟨q, hq, e2⟩ := List.mem_map.mp hm
  rw [if_pos (List.any_eq_true.mpr ⟨q, hq, decide_eq_true e2⟩), List.map_map, ← e]
  refine List.map_congr_left fun a _ => ?_
  show (if a.1 = Sum.inr x then (a.1, v) else a).1 = a.1
  split <;> rfl
theorem putK_len {kvs : List (Key × V)} {ns : List Str} {x : Str} {v : V} (e : kvs.map (·.1) = ns.map Sum.inr) (h : ns.contains x = true) : (putK kvs (Sum.inr x) v).length = kvs.length := by
  have := congrArg List.length (putK_keys (v := v) e h)
  rw [List.length_map, List.length_map] at this
  have e2 := congrArg List.length e
  rw [List.length_map, List.length_map] at e2
  omega
section
variable {P : Program} {w : World} {K : PySem.W.Frag} {mg : Str → Option Value} {base : Heap} {C CB CS fB : Addr}
def spChoices (K : PySem.W.Frag) (C CB : Addr) : Sp := fun vs H Q E => ∃ (p a : Addr) (rows : List Str) (n : Nat) (word plain : Str) (names choices : List Str) (cv : V), vs = [.ref p, .str word, .ref a, cv, .str plain] ∧ Lns C H p rows n ∧ PyData.strOk word = true ∧ SqL K H a (names.map V.str) ∧ names.length ≤ 1000 ∧ names.Nodup ∧ Nm K H cv choices ∧
  Outs C CB p rows H Q E (choicesM rows word names choices n) fun _ => RepKF H names
def ChInv (K : PySem.W.Frag) (C D p a : Addr) (H : Hp) (rows : List Str) (word plain : Str) (names choices : List Str) (cv : V) (n cnt : Nat) (σ : L2.St) (H' : Hp) : Prop :=
  ∃ (n' : Nat) (l : Addr) (left : List Str) (kvs : List (Key × V)) (sw sn : Option V), σ = [some (.ref p), some (.str word), some (.ref a), some cv, some (.str plain), some (.ref D), some (.ref l), sw, sn] ∧ Kp p H H' ∧ Lns C H' p rows n' ∧ H' D = some (.dK kvs) ∧ (kvs.map (·.1) = names.map Sum.inr ∧ AllS kvs) ∧
    SqL K H' l (left.map V.str) ∧ left.length + cnt ≤ names.length ∧ (∀ x ∈ left, x ∈ names) ∧ choicesM rows word names choices n = chLoop rows word choices (names.length + 1 - cnt) left n'
theorem scReadChoices : FnScope ["lines", "word", "names", "choices", "plain", "found", "left", "words", "name"] ["lines", "word", "names", "choices", "plain"] (defScope sReadChoices) := ⟨rfl, rfl, rfl, by decide +kernel, rfl, by decide +kernel, by decide +kernel⟩
theorem ok_read_choices {f : Addr} {fd : FuncData} (F : Fun K "read_choices_of" "read_choices_of" sReadChoices f fd) (L : LX P w K mg base C CB) (T : TN K mg) (M : TM mg) : FnOk P w K mg base (L2.CX P w) 4 f fd ["lines", "word", "names", "choices", "plain"] (spChoices K C CB) := by
  refine F.okX scReadChoices (fun vs H Q E h => ?_) (fun cdv A outer s H vs Q E hr h => ?_)
  · obtain ⟨p, a, rows, n, word, plain, names, choices, cv, rfl, _⟩ := h
    rfl
  · obtain ⟨p, a, rows, n, word, plain, names, choices, cv, rfl, hL, hwd, ha, hnl, hnd, hC, k⟩ := h
    obtain ⟨fN, dN, mN, bN, GN⟩ := L.need
    obtain ⟨fW, dW, mW, bW, GW⟩ := L.words
    obtain ⟨fS, dS, mS, bS, GS⟩ := L.step
    obtain ⟨fB, dB, mB, bB, GB⟩ := L.begins
    have hr3 : Room 3 _ := hr.mono (by omega)
    have hr2 : Room 2 _ := hr.mono (by omega)
    have hr1 : Room 1 _ := hr.mono (by omega)
    refine ⟨_, pss_cons (ps_setDc (i := 5) (own := [("name", 8)]) (g := gName 8) (tt := tYes) rfl scReadChoices.nd rfl rfl (swD_true rfl rfl rfl (by decide +kernel)) (pi_list (pv 2)) (blkOk_by (own := [("name", 8)]) (N := ["lines", "word", "names", "choices", "plain", "found", "left", "words", "name"]) (sc := defScope sReadChoices) (by decide +kernel)) (fun _ _ _ _ _ => pg_name (i := 8) scReadChoices.nd rfl (Or.inl rfl)) (fun _ _ _ _ _ => pts_nil) (fun _ _ _ _ _ => (pv 8)) (fun _ _ _ _ _ => (pv 4)))
      (pss_cons (ps_set (i := 6) scReadChoices.nd rfl (Or.inl rfl) (pe_callTy call_list_of (by rfl) M.list (by decide +kernel) (pa_cons (pv 2) pa_nil)))
      (pss_cons (ps_while (passes_of rfl) (pt_val (pe_meth (pv 0) L.cl mB GB hr2 bB .nil pass0 (pa_cons pe_int (pa_cons (pv 1) pa_nil)))) (pss_cons (ps_set (i := 7) scReadChoices.nd rfl (Or.inl rfl) (pe_meth (pv 0) L.cl mW GW hr1 bW .nil pass0 (pa_cons pe_int pa_nil)))
      (pss_cons (ps_expr (pe_meth (pv 0) L.cl mN GN hr3 bN .nil (pas (takes_of rfl rfl rfl rfl)) (pa_cons (pe_and (pe_cmpR op_eq (pe_callB call_len_seq (by rfl) T.len PySem.boot_len (pa_cons (pv 7) pa_nil)) pe_int (nomark _)) (pe_and (pe_cmpR (op_inN (hu_of hr)) (pe_ix ix_list (pv 7) pe_int (fun _ _ => rfl)) (pv 6) rfl) (pe_one (pe_cmpR (op_inN (hu_of hr)) (pe_ix ix_list (pv 7) pe_int (fun _ _ => rfl)) (pv 3) rfl)))) pa_nil)))
      (pss_cons (ps_dput (hu_of hr) (pv 5) (pe_ix ix_list (pv 7) pe_int (fun _ _ => rfl)) (pe_ix ix_list (pv 7) pe_int (fun _ _ => rfl)) rfl)
      (pss_cons (ps_set (i := 6) scReadChoices.nd rfl (Or.inl rfl) (pe_slice sl_list (pv 6) (po_some (pe_op op_add (pe_bm PySem.F.plainAttrs_list PySem.F.slot_list_index PySem.F.type_list_index mt_index (pv 6) (pa_cons (pe_ix ix_list (pv 7) pe_int (fun _ _ => rfl)) pa_nil)) pe_int)) po_none))
      (pss_one (ps_expr (pe_meth0 (pv 0) L.cl mS GS hr1 bS .nil pass0))))))))
      (pss_one (ps_ret (pv 5))))), ?_⟩
    refine ⟨_, rfl, a, rfl, ⟨_, ha⟩, fun D hD => ?_⟩
    have hk0 : ∀ i, (((names.take i).map fun x => ((Sum.inr x : Key), V.str plain))).map (·.1) = (names.take i).map Sum.inr := fun i => by
      rw [List.map_map]
      rfl
    refine dc_list (K := K) (a := a) (xs := names.map V.str) (fun i H' => Same H H' ∧ H' D = some (.dK ((names.take i).map fun x => ((Sum.inr x : Key), V.str plain)))) ⟨Same.new hD, upd_same⟩ (fun i H' _ ⟨s, _⟩ => s.seq ha) ?_ ?_
    · rintro i x H' hx ⟨sx, hx2⟩
      obtain ⟨y, hy, rfl⟩ : ∃ y, names[i]? = some y ∧ x = V.str y := by
        rw [List.getElem?_map] at hx
        cases e : names[i]? with
        | none =>
          rw [e] at hx
          cases hx
        | some y =>
          rw [e] at hx
          exact ⟨y, rfl, (Option.some.inj hx).symm⟩
      have hfresh : (names.take i).contains y = false := by
        cases e : (names.take i).contains y with
        | false => rfl
        | true =>
          have hm := List.contains_iff_mem.mp e
          obtain ⟨j, hj, e2⟩ := List.getElem_of_mem hm
          rw [List.length_take] at hj
          rw [List.getElem_take] at e2
          have e3 : names[j]? = some y := by rw [List.getElem?_eq_getElem (by omega), e2]
          have := nd_ix hnd e3 hy
          omega
      refine ⟨rfl, ?_⟩
      refine ⟨_, rfl, _, rfl, _, Sum.inr y, rfl, hx2, (by rw [List.length_map, List.length_take, sizeLine_eq]; omega), fun b o e => ?_, ?_⟩
      · rw [upd_ne (fun z => by
          rw [z] at e
          rw [hD] at e
          cases e)]
        exact sx b o e
      · rw [upd_same, putK_new (hk0 i) rfl hfresh, List.take_add_one, List.map_append, hy]
        rfl
    · rintro H1 ⟨s1, hD1⟩
      rw [List.length_map, List.take_length] at hD1
      have l1 := hL.same s1
      refine ⟨_, rfl, a, _, rfl, .inl (s1.seq ha), fun l0 hl0 => ?_⟩
      have s2 := Same.new (o := .lst (names.map V.str)) hl0
      have hl00 : (upd H1 l0 (.lst (names.map V.str))) l0 = some (.lst (names.map V.str)) := upd_same
      generalize hH2 : upd H1 l0 (.lst (names.map V.str)) = H2 at s2 hl00
      have l2 := l1.same s2
      have hpD : D ≠ p := fun z => by
        obtain ⟨_, _, dx3, r3, hp3, _⟩ := id hL
        rw [z, hp3] at hD
        cases hD
      refine ⟨fun m σ H' => ∃ cnt, m = names.length + 1 - cnt ∧ cnt ≤ names.length ∧ ChInv K C D p a H rows word plain names choices cv n cnt σ H',
        ⟨names.length + 1, 0, rfl, Nat.zero_le _, n, l0, names, _, none, none, rfl, Kp.of (s1.trans s2), l2, s2 _ _ hD1, ?_, SqL.of hl00, Nat.le_refl _, fun _ h => h, rfl⟩, ?_⟩
      · refine ⟨by rw [List.map_map]; rfl, fun kv hkv => ?_⟩
        obtain ⟨x, _, rfl⟩ := List.mem_map.mp hkv
        exact ⟨plain, rfl⟩
      rintro m σ H' ⟨cnt, rfl, hcM, n', lA, left, kvs, sw, sn, rfl, kk1, l1', hD', ⟨hks, hSt⟩, hlA, hll, hsub, hloop⟩
      have hkl : kvs.length = names.length := by
        have e := congrArg List.length hks
        rw [List.length_map, List.length_map] at e
        exact e
      have hl2 : chLoop rows word choices (names.length + 1 - cnt) left n' = if ((wordsM rows n' 1).head? == some word) = true then (match wordsM rows n' 1 with
          | [_, a, b] => if (left.contains a && choices.contains b) = true then chLoop rows word choices (names.length + 1 - (cnt + 1)) (left.drop (left.idxOf a + 1)) (n' + 1) else .error (n' + 1)
          | _ => .error (n' + 1)) else .ok ((), n') := by
        rw [show names.length + 1 - cnt = (names.length + 1 - (cnt + 1)) + 1 from by omega]
        rfl
      obtain ⟨_, _, dx, r, hp, hr'⟩ := id l1'
      refine ⟨_, rfl, p, dx, _, rfl, hp, lf_no _ _ (by decide +kernel) (by decide +kernel), _, rfl, p, rows, n', 1, _, rfl, l1', by omega, hwd, fun H2 s2 => ⟨_, rfl, ?_⟩⟩
      have l2 := l1'.same s2
      have kk2 := kk1.trans (Kp.of s2)
      have hD2 := s2 _ _ hD'
      refine ite2 (fun c2 => ?_) (fun c2 => ?_)
      · rw [if_pos c2] at hl2
        have hwpos : (wordsM rows n' 1).length > 0 := by
          cases e : wordsM rows n' 1 with
          | nil => rw [e] at c2; cases c2
          | cons a b => exact Nat.succ_pos _
        have hln := Small.pos l2 (d := 1) hwpos
        refine ⟨fun σ' H'' => cnt + 1 ≤ names.length ∧ ChInv K C D p a H rows word plain names choices cv n (cnt + 1) σ' H'', fun σ' H'' hN => ⟨names.length + 1 - (cnt + 1), by omega, cnt + 1, rfl, hN.1, hN.2⟩, ?_⟩
        obtain ⟨_, _, dx2, r2, hp2, _⟩ := id l2
        refine ⟨_, rfl, p, dx2, _, rfl, hp2, lf_no _ _ (by decide +kernel) (by decide +kernel), p, rows, n', 1, rfl, l2, by omega, fun H3 q3 s3 hq30 hq3 => ?_⟩
        have l3 := l2.same s3
        have kk3 := kk2.trans (Kp.of s3)
        have hD3 := s3 _ _ hD2
        have hC3 := nm_kp hL kk3 hC
        have hlA3 := s3.seq (s2.seq hlA)
        obtain ⟨_, _, dx3, r3, hp3, _⟩ := id l3
        refine ⟨_, rfl, p, dx3, _, rfl, hp3, lf_no _ _ (by decide +kernel) (by decide +kernel), _, rfl, q3, _, rfl, .inl (SqL.of hq3), rfl, _, rfl, ?_⟩
        rw [show decide (V.int (((wordsM rows n' 1).map V.str).length : Int) = V.int 3) = decide ((wordsM rows n' 1).length = 3) from dlen _ 3]
        by_cases c4 : (wordsM rows n' 1).length = 3
        · rw [decide_eq_true c4]
          obtain ⟨x0, x1, x2, ew⟩ := len3 c4
          rw [ew] at hq3 hl2
          have hl2 : chLoop rows word choices (names.length + 1 - cnt) left n' = if (left.contains x1 && choices.contains x2) = true then chLoop rows word choices (names.length + 1 - (cnt + 1)) (left.drop (left.idxOf x1 + 1)) (n' + 1) else .error (n' + 1) := hl2
          refine iteT ⟨_, rfl, q3, _, _, _, rfl, rfl, SqL.of hq3, atI_nat (j := 1) rfl, _, rfl, x1, left, rfl, ⟨lA, rfl, .inr (.inl hlA3)⟩, _, rfl, ?_⟩
          show (if left.contains x1 = true then _ else _)
          cases c5 : left.contains x1 with
          | false =>
            refine iteF ?_
            show spNeed C CB [V.ref p, V.bl _] H3 (fun _ _ => _) _
            refine need_of (b := false) l3 kk3 _ k (fun e => ?_) (fun e => by cases e)
            rw [hloop, hl2, c5]
            rfl
          | true =>
            refine iteT ⟨_, rfl, q3, _, _, _, rfl, rfl, SqL.of hq3, atI_nat (j := 2) rfl, _, rfl, x2, choices, rfl, hC3, ?_⟩
            show spNeed C CB [V.ref p, V.bl _] H3 (fun _ _ => _) _
            refine need_of (b := choices.contains x2) l3 kk3 _ k (fun e => ?_) (fun e => ?_)
            · rw [hloop, hl2, c5, e]
              rfl
            · have em : choicesM rows word names choices n = chLoop rows word choices (names.length + 1 - (cnt + 1)) (left.drop (left.idxOf x1 + 1)) (n' + 1) := by
                rw [hloop, hl2, c5, e]
                rfl
              have hmem := List.contains_iff_mem.mp c5
              have hin : names.contains x1 = true := List.contains_iff_mem.mpr (hsub _ hmem)
              have hj : left.idxOf x1 < left.length := List.idxOf_lt_length_iff.mpr hmem
              refine ⟨_, rfl, q3, _, _, _, rfl, rfl, SqL.of hq3, atI_nat (j := 2) rfl, _, rfl, _, rfl, q3, _, _, _, rfl, rfl, SqL.of hq3, atI_nat (j := 1) rfl, D, _, rfl, DPut.k (k := Sum.inr x1) hD3 (by rw [hkl, sizeLine_eq]; omega), ?_⟩
              have l4 := hL.upd_new kk3 l3 hD (o := .dK (putK kvs (Sum.inr x1) (V.str x2)))
              have kk4 := Kp.upd_new hL kk3 hD (o := .dK (putK kvs (Sum.inr x1) (V.str x2)))
              have hD4 : (upd H3 D (.dK (putK kvs (Sum.inr x1) (V.str x2)))) D = some (.dK (putK kvs (Sum.inr x1) (V.str x2))) := upd_same
              have hlA4 : SqL K (upd H3 D (.dK (putK kvs (Sum.inr x1) (V.str x2)))) lA (left.map V.str) := by
                have ne : ∀ {o : HO}, (∀ kv, o ≠ .dK kv) → H3 lA = some o → lA ≠ D := fun hn h z => by
                  rw [z, hD3] at h
                  exact hn _ (Option.some.inj h).symm
                rcases hlA3 with (h | ⟨o, h⟩) | h
                · exact .inl (.inl (by rw [upd_ne (ne (by intro _ z; cases z) h)]; exact h))
                · exact .inl (.inr ⟨o, by rw [upd_ne (ne (by intro _ z; cases z) h)]; exact h⟩)
                · exact .inr h
              have hq4 : (upd H3 D (.dK (putK kvs (Sum.inr x1) (V.str x2)))) q3 = some (.lst ([x0, x1, x2].map V.str)) := by
                rw [upd_ne (ne_of hq3 hD3 (by intro z; cases z))]
                exact hq3
              generalize hH4 : upd H3 D (.dK (putK kvs (Sum.inr x1) (V.str x2))) = H4 at l4 kk4 hD4 hlA4 hq4
              refine ⟨_, rfl, _, rfl, .inl ⟨rfl, _, hlA4⟩, _, rfl, q3, _, _, _, rfl, rfl, SqL.of hq4, atI_nat (j := 1) rfl, lA, _, V.str x1, left.idxOf x1, V.str x1, rfl, rfl, hlA4, rfl, flatS _, ?_, ?_, ?_, _, _, rfl, rfl, _, rfl, lA, _, rfl, hlA4, fun l5 hl5 => ?_⟩
              · rw [List.getElem?_map, List.getElem?_eq_getElem hj, List.getElem_idxOf hj]
                rfl
              · show (x1 == x1) = true
                exact beq_self_eq_true x1
              · intro m' z' hm hz
                rw [List.getElem?_map, List.getElem?_eq_getElem (by omega)] at hz
                obtain rfl := Option.some.inj hz
                show (left[m'] == x1) = false
                have := List.not_of_lt_findIdx (p := (· == x1)) (xs := left) hm
                simpa using this
              · have s5 := Same.new (o := .lst (cutV (left.map V.str) (some (((left.idxOf x1 : Nat) : Int) + 1)) none)) hl5
                have hl6 : (upd H4 l5 (.lst (cutV (left.map V.str) (some (((left.idxOf x1 : Nat) : Int) + 1)) none))) l5 = some (.lst ((left.drop (left.idxOf x1 + 1)).map V.str)) := by
                  rw [upd_same, show (((left.idxOf x1 : Nat) : Int) + 1) = ((left.idxOf x1 + 1 : Nat) : Int) from rfl, cut_from left _ (by omega)]
                generalize hH5 : upd H4 l5 (.lst (cutV (left.map V.str) (some (((left.idxOf x1 : Nat) : Int) + 1)) none)) = H5 at s5 hl6
                have l6 := l4.same s5
                obtain ⟨_, _, dx6, r6, hp6, _⟩ := id l6
                refine ⟨_, rfl, p, dx6, _, rfl, hp6, lf_no _ _ (by decide +kernel) (by decide +kernel), p, rows, n', rfl, l6, hln, fun H7 kk7 l7 => ?_⟩
                refine ⟨by omega, n' + 1, l5, _, _, _, _, rfl, kk4.trans ((Kp.of s5).trans kk7), l7, kk7.ne D _ hpD (s5 _ _ hD4), ⟨putK_keys hks hin, allS_put hSt⟩, sql_kp l6 kk7 (SqL.of hl6), ?_, fun x hx => hsub x (List.mem_of_mem_drop hx), em⟩
                rw [List.length_drop]
                omega
        · rw [decide_eq_false c4]
          refine iteF ?_
          show spNeed C CB [V.ref p, V.bl _] H3 (fun _ _ => _) _
          refine need_of (b := false) l3 kk3 _ k (fun e => ?_) (fun e => by cases e)
          rw [hloop, hl2]
          split
          · rename_i e3
            rw [e3] at c4
            exact absurd rfl c4
          · rfl
      · rw [if_neg c2] at hl2
        exact ⟨_, rfl, outs_ok k (hloop.trans hl2) kk2 l2 ⟨D, _, rfl, hD, hD2, hks, hSt⟩⟩
end
end K6

/-! text L13x -/
set_option Elab.async false
set_option linter.all false
set_option maxRecDepth 100000
set_option maxHeartbeats 4000000
namespace K6
open PySem PySem.Spec PyProof.Rows L2
local macro_rules | `(tactic| walk_at "lk") => `(tactic| (repeat (first | with_reducible exact lk_hd _ _ _ | with_reducible exact lk_nil _ | refine lk_tl (by decide +kernel) ?_)))
abbrev sScopeInit : Stmt := inClass (top 14) 0
abbrev psS : List Str := ["self", "worths", "cells", "known", "asks", "in_house", "lets", "most"]
def spScope (CS : Addr) : Sp := fun vs H Q _ => ∃ (q dx : Addr) (sc : ScM) (vc vk va vl : V), vs = [.ref q, .int sc.worths, vc, vk, va, .bl sc.inHouse, vl, .int sc.most] ∧ H q = some (.ins CS dx []) ∧ Q .non (upd H q (.ins CS dx (scf sc vc vk va vl)))
section
variable {P : Program} {w : World} {K : PySem.W.Frag} {mg : Str → Option Value} {base : Heap} {C CB CS fB : Addr}
theorem scScopeInit : FnScope psS psS (defScope sScopeInit) := ⟨rfl, rfl, rfl, by decide +kernel, rfl, by decide +kernel, by decide +kernel⟩
theorem ok_scope_init {kws : List (Str × V)} {f : Addr} {fd : FuncData} (F : FunD K "__init__" "Scope.__init__" (defArgs sScopeInit) (defBody sScopeInit) (defScope sScopeInit) [] kws f fd) (S : SX K CS) : FnOk P w K mg base CX0 1 f fd psS (spScope CS) := by
  refine F.ok scScopeInit (fun vs H Q E h => ?_) (fun cdv A outer s H vs Q E hr h => ?_)
  · obtain ⟨q, dx, sc, vc, vk, va, vl, rfl, _⟩ := h
    rfl
  · obtain ⟨q, dx, sc, vc, vk, va, vl, rfl, hq, k⟩ := h
    refine ⟨_, pss_cons (ps_fld (pv 0) (pv 1) rfl)
      (pss_cons (ps_fld (pv 0) (pv 2) rfl)
      (pss_cons (ps_fld (pv 0) (pv 3) rfl)
      (pss_cons (ps_fld (pv 0) (pv 4) rfl)
      (pss_cons (ps_fld (pv 0) (pv 5) rfl)
      (pss_cons (ps_fld (pv 0) (pv 6) rfl)
      (pss_one (ps_fld (pv 0) (pv 7) rfl))))))), ?_⟩
    refine ⟨_, rfl, _, rfl, q, CS, dx, _, rfl, hq, S.cl, S.n1, (by show 0 < 1000; decide), ?_⟩
    rw [show putF "worths" (V.int sc.worths) ([] : List (Str × V)) = [(("worths" : Str), V.int sc.worths)] from putF_nil _ _]
    refine ⟨_, rfl, _, rfl, q, CS, dx, _, rfl, upd_same, S.cl, S.n2, (by show 1 < 1000; decide), ?_⟩
    rw [show putF "cells" (vc) ([(("worths" : Str), V.int sc.worths)] : List (Str × V)) = [(("worths" : Str), V.int sc.worths), (("cells" : Str), vc)] from (putF_tl (by decide +kernel) (putF_nil _ _))]
    rw [upd_upd]
    refine ⟨_, rfl, _, rfl, q, CS, dx, _, rfl, upd_same, S.cl, S.n3, (by show 2 < 1000; decide), ?_⟩
    rw [show putF "known" (vk) ([(("worths" : Str), V.int sc.worths), (("cells" : Str), vc)] : List (Str × V)) = [(("worths" : Str), V.int sc.worths), (("cells" : Str), vc), (("known" : Str), vk)] from (putF_tl (by decide +kernel) (putF_tl (by decide +kernel) (putF_nil _ _)))]
    rw [upd_upd]
    refine ⟨_, rfl, _, rfl, q, CS, dx, _, rfl, upd_same, S.cl, S.n4, (by show 3 < 1000; decide), ?_⟩
    rw [show putF "asks" (va) ([(("worths" : Str), V.int sc.worths), (("cells" : Str), vc), (("known" : Str), vk)] : List (Str × V)) = [(("worths" : Str), V.int sc.worths), (("cells" : Str), vc), (("known" : Str), vk), (("asks" : Str), va)] from (putF_tl (by decide +kernel) (putF_tl (by decide +kernel) (putF_tl (by decide +kernel) (putF_nil _ _))))]
    rw [upd_upd]
    refine ⟨_, rfl, _, rfl, q, CS, dx, _, rfl, upd_same, S.cl, S.n5, (by show 4 < 1000; decide), ?_⟩
    rw [show putF "in_house" (V.bl sc.inHouse) ([(("worths" : Str), V.int sc.worths), (("cells" : Str), vc), (("known" : Str), vk), (("asks" : Str), va)] : List (Str × V)) = [(("worths" : Str), V.int sc.worths), (("cells" : Str), vc), (("known" : Str), vk), (("asks" : Str), va), (("in_house" : Str), V.bl sc.inHouse)] from (putF_tl (by decide +kernel) (putF_tl (by decide +kernel) (putF_tl (by decide +kernel) (putF_tl (by decide +kernel) (putF_nil _ _)))))]
    rw [upd_upd]
    refine ⟨_, rfl, _, rfl, q, CS, dx, _, rfl, upd_same, S.cl, S.n6, (by show 5 < 1000; decide), ?_⟩
    rw [show putF "lets" (vl) ([(("worths" : Str), V.int sc.worths), (("cells" : Str), vc), (("known" : Str), vk), (("asks" : Str), va), (("in_house" : Str), V.bl sc.inHouse)] : List (Str × V)) = [(("worths" : Str), V.int sc.worths), (("cells" : Str), vc), (("known" : Str), vk), (("asks" : Str), va), (("in_house" : Str), V.bl sc.inHouse), (("lets" : Str), vl)] from (putF_tl (by decide +kernel) (putF_tl (by decide +kernel) (putF_tl (by decide +kernel) (putF_tl (by decide +kernel) (putF_tl (by decide +kernel) (putF_nil _ _))))))]
    rw [upd_upd]
    refine ⟨_, rfl, _, rfl, q, CS, dx, _, rfl, upd_same, S.cl, S.n7, (by show 6 < 1000; decide), ?_⟩
    rw [show putF "most" (V.int sc.most) ([(("worths" : Str), V.int sc.worths), (("cells" : Str), vc), (("known" : Str), vk), (("asks" : Str), va), (("in_house" : Str), V.bl sc.inHouse), (("lets" : Str), vl)] : List (Str × V)) = [(("worths" : Str), V.int sc.worths), (("cells" : Str), vc), (("known" : Str), vk), (("asks" : Str), va), (("in_house" : Str), V.bl sc.inHouse), (("lets" : Str), vl), (("most" : Str), V.int sc.most)] from (putF_tl (by decide +kernel) (putF_tl (by decide +kernel) (putF_tl (by decide +kernel) (putF_tl (by decide +kernel) (putF_tl (by decide +kernel) (putF_tl (by decide +kernel) (putF_nil _ _)))))))]
    rw [upd_upd]
    exact k
end
end K6

/-! text L14x -/
set_option Elab.async false
set_option linter.all false
set_option maxRecDepth 100000
set_option maxHeartbeats 4000000
namespace K6
open PySem PySem.Spec PyProof.Rows L2
local macro_rules | `(tactic| walk_at "lk") => `(tactic| (repeat (first | with_reducible exact lk_hd _ _ _ | with_reducible exact lk_nil _ | refine lk_tl (by decide +kernel) ?_)))
/-! ### Lines() -/
section
variable {P : Program} {w : World} {K : PySem.W.Frag} {mg : Str → Option Value} {base : Heap} {C CB CS fB : Addr}
theorem scLInit : FnScope ["self", "text"] ["self", "text"] (defScope sLInit) := ⟨rfl, rfl, rfl, by decide +kernel, rfl, by decide +kernel, by decide +kernel⟩
theorem ok_linit {f : Addr} {fd : FuncData} (F : Fun K "__init__" "Lines.__init__" sLInit f fd) (cl : Cls K C) (nR : NoAttr K C "rows") (nA : NoAttr K C "at") : FnOk P w K mg base CX0 1 f fd ["self", "text"] (spLInit C) := by
  refine F.ok scLInit (fun vs H Q E h => ?_) (fun cdv A outer s H vs Q E hr h => ?_)
  · obtain ⟨p, dx, x, rfl, _⟩ := h
    rfl
  · obtain ⟨p, dx, x, rfl, hp, hx, hs, k⟩ := h
    refine ⟨_, pss_cons (ps_fld (pv 0) (pe_split (pv 1) pe_str) rfl) (pss_one (ps_fld (pv 0) pe_int rfl)), ?_⟩
    refine ⟨_, rfl, ⟨_, rfl⟩, _, _, rfl, rfl, (by decide +kernel), (by rw [sizeLine_eq]; omega), fun r hr0 => ?_⟩
    have npr : p ≠ r := ne_of_none hp hr0
    refine ⟨_, rfl, p, C, dx, [], rfl, (by rw [upd_ne npr]; exact hp), cl, nR, (by show 0 < 1000; decide), _, rfl, p, C, dx, _, rfl, upd_same, cl, nA, (by show 1 < 1000; decide), ?_⟩
    rw [upd_upd, lf_put0]
    refine k _ ⟨fun b o hb e => ?_, fun C' dx' r' n' e => ?_⟩ ⟨hs, Nat.zero_le _, dx, r, upd_same, by rw [upd_ne npr.symm, upd_same]⟩
    · rw [upd_ne hb, upd_ne (ne_of_none e hr0)]
      exact e
    · rw [hp] at e
      injection e with e
      injection e with _ _ e3
      cases e3
end
/-! ### Scope(..) -/
/-- the class Scope, its calls -/
structure SMk (P : Program) (w : World) (K : PySem.W.Frag) (mg : Str → Option Value) (base : Heap) (CS : Addr) : Prop where
  gS : mg "Scope" = some (.ref CS)
  ex : ∃ (f : Addr) (fd : FuncData) (eT : Addr) (mv1 mv2 : List Value), Mk K CS f ∧ FnOk P w K mg base CX0 1 f fd psS (spScope CS) ∧ (∀ H, SqT K H eT []) ∧ KBn K fd psS 5 ["in_house"] (fun us ws => us ++ ws ++ mv1) (fun vs zs => vs ++ zs ++ [V.ref eT, V.int 0]) ∧
    KBn K fd psS 5 ["lets", "most"] (fun us ws => us ++ mv2 ++ ws) (fun vs zs => vs ++ [V.bl false] ++ zs)
theorem kb_house {K : PySem.W.Frag} {eT : Addr} {f : Addr} {fd : FuncData} (F : FunD K "__init__" "Scope.__init__" (defArgs sScopeInit) (defBody sScopeInit) (defScope sScopeInit) [] [("in_house", V.bl false), ("lets", V.ref eT), ("most", V.int 0)] f fd) :
    ∃ mv1, KBn K fd psS 5 ["in_house"] (fun us ws => us ++ ws ++ mv1) (fun vs zs => vs ++ zs ++ [V.ref eT, V.int 0]) :=
  F.kbinds0 5 ["in_house"] [("lets", V.ref eT), ("most", V.int 0)] (fun us mv ws => us ++ ws ++ mv) (by simp) (by simp) (fun h1 h2 h3 => (h1.append h3).append h2) fun D doc pm an cdv ct us mv ws h1 h2 h3 => by
    match us, h1, mv, h2, ws, h3 with
    | [a, b, c, d, e], _, [m1, m2], _, [w1], _ => exact ⟨_, _, _, _, _, _, rfl, rfl, _, _, _, _, _, _, rfl, rfl, rfl⟩
theorem kb_screen {K : PySem.W.Frag} {eT : Addr} {f : Addr} {fd : FuncData} (F : FunD K "__init__" "Scope.__init__" (defArgs sScopeInit) (defBody sScopeInit) (defScope sScopeInit) [] [("in_house", V.bl false), ("lets", V.ref eT), ("most", V.int 0)] f fd) :
    ∃ mv2, KBn K fd psS 5 ["lets", "most"] (fun us ws => us ++ mv2 ++ ws) (fun vs zs => vs ++ [V.bl false] ++ zs) :=
  F.kbinds0 5 ["lets", "most"] [("in_house", V.bl false)] (fun us mv ws => us ++ mv ++ ws) (by simp) (by simp) (fun h1 h2 h3 => (h1.append h2).append h3) fun D doc pm an cdv ct us mv ws h1 h2 h3 => by
    match us, h1, mv, h2, ws, h3 with
    | [a, b, c, d, e], _, [m1], _, [w1, w2], _ => exact ⟨_, _, _, _, _, _, rfl, rfl, rfl⟩
theorem bl5 {K : PySem.W.Frag} {f : Addr} {fd : FuncData} (F : FunD K "read_block" "read_block" (defArgs sReadBlock) (defBody sReadBlock) (defScope sReadBlock) [.int 0, .int 0] [] f fd) : Binds K fd psB [] := by
  obtain ⟨ds, hv, hb⟩ := F.binds1 (ps := psB) 5 2 (by simp) rfl fun T kV doc pm an cdv ct us its h1 h2 => by
    match us, h1, its, h2 with
    | [a, b, c, d, e], _, [m1, m2], _ => exact ⟨_, rfl, rfl⟩
  cases hv
  exact hb
theorem bl3 {K : PySem.W.Frag} {f : Addr} {fd : FuncData} (F : FunD K "read_block" "read_block" (defArgs sReadBlock) (defBody sReadBlock) (defScope sReadBlock) [.int 0, .int 0] [] f fd) : ∃ ds, Vals [V.int 0, V.int 0] ds ∧ Binds K fd psB ds :=
  F.binds1 (ps := psB) 3 0 (by simp) rfl fun T kV doc pm an cdv ct us its h1 h2 => by
    match us, h1, its, h2 with
    | [a, b, c], _, [m1, m2], _ => exact ⟨_, rfl, rfl⟩
end K6

/-! text L15x -/
set_option Elab.async false
set_option linter.all false
set_option maxRecDepth 100000
set_option maxHeartbeats 4000000
namespace K6
open PySem PySem.Spec PyProof.Rows L2
local macro_rules | `(tactic| walk_at "lk") => `(tactic| (repeat (first | with_reducible exact lk_hd _ _ _ | with_reducible exact lk_nil _ | refine lk_tl (by decide +kernel) ?_)))
abbrev sReadHouse : Stmt := top 36
abbrev sReadDeeds : Stmt := top 41
def blk0 (sc : ScM) (rows : List Str) (n : Nat) : Rd' Nat := blkM 3 sc rows 2 0 n 0
def deedLoop (rows : List Str) (sc : ScM) : Nat → List Str → Nat → Rd' (List Str)
  | 0, acc, n => .ok (acc, n)
  | f + 1, acc, n => if ((wordsM rows n 1).head? == some ("deed" : Str)) = true then (
      let ws := wordsM rows n 1
      if (ws.length == 2 || (ws.length == 4 && ws.getD 2 "" == ("upto" : Str))) = true then (match newNameM (ws.getD 1 "") acc n with
        | .error l => .error l
        | .ok _ => if ws.length = 4 then (match readWorthM (ws.getD 3 "") sc.worths n with
            | .error l => .error l
            | .ok r => if r.1 > 0 then (match blk0 sc rows (n + 1) with
                | .error l => .error l
                | .ok b => deedLoop rows sc f (acc ++ [ws.getD 1 ""]) b.2) else .error (n + 1)) else (match blk0 sc rows (n + 1) with
                | .error l => .error l
                | .ok b => deedLoop rows sc f (acc ++ [ws.getD 1 ""]) b.2)) else .error (n + 1)) else .ok (acc, n)
def deedsM (rows : List Str) (sc : ScM) (n : Nat) : Rd' (List Str) := match deedLoop rows sc 3 [] n with
  | .error l => .error l
  | .ok r => if r.1.length > 0 then .ok r else .error (r.2 + 1)
def askLoop (rows : List Str) (sc : ScM) : Nat → List Str → Nat → Rd' (List Str)
  | 0, acc, n => .ok (acc, n)
  | f + 1, acc, n => if ((wordsM rows n 1).head? == some ("ask" : Str)) = true then (
      let ws := wordsM rows n 1
      if ws.length = 2 then (match newNameM (ws.getD 1 "") acc n with
        | .error l => .error l
        | .ok _ => if (wordsM rows (n + 1) 2).length > 0 then (match blk0 sc rows (n + 1) with
                | .error l => .error l
                | .ok b => askLoop rows sc f (acc ++ [ws.getD 1 ""]) b.2) else askLoop rows sc f (acc ++ [ws.getD 1 ""]) (n + 1)) else .error (n + 1)) else .ok (acc, n)
def asksM (rows : List Str) (sc : ScM) (n : Nat) : Rd' (List Str) := match askLoop rows sc 3 [] n with
  | .error l => .error l
  | .ok r => if r.1.length > 0 then .ok r else .error (r.2 + 1)
/-- the deeds: names, each with a tuple -/
def RepD (ns : List Str) (v : V) (H : Hp) : Prop := ∃ a kvs, v = .ref a ∧ H a = some (.dK kvs) ∧ kvs.map (·.1) = ns.map Sum.inr ∧ ∀ kv ∈ kvs, ∃ t x y, kv.2 = .ref t ∧ H t = some (.tup [x, y])
abbrev BLK (P : Program) (w : World) (K : PySem.W.Frag) (mg : Str → Option Value) (base : Heap) (C CB CS : Addr) : Prop := ∃ f fd ds, mg "read_block" = some (.ref f) ∧ PySem.W.keepIn K (.ref f) = true ∧ Binds K fd psB ds ∧ Vals [V.int 0, V.int 0] ds ∧ FnOk P w K mg base (L2.CX P w) 16 f fd psB (spLv K C CB CS (blkM 3) 3 false)
section
variable {P : Program} {w : World} {K : PySem.W.Frag} {mg : Str → Option Value} {base : Heap} {C CB CS fB : Addr}
def spDeeds (K : PySem.W.Frag) (C CB CS : Addr) : Sp := fun vs H Q E => ∃ (p q : Addr) (rows : List Str) (n : Nat) (sc : ScM), vs = [.ref p, .ref q] ∧ Lns C H p rows n ∧ Sc K CS H q sc ∧ Outs C CB p rows H Q E (deedsM rows sc n) RepD
def DeedInv (C D p q : Addr) (H : Hp) (rows : List Str) (sc : ScM) (n cnt : Nat) (σ : L2.St) (H' : Hp) : Prop :=
  ∃ (n' : Nat) (acc : List Str) (kvs : List (Key × V)) (a b c : Option V), σ = [some (.ref p), some (.ref q), some (.ref D), a, b, c] ∧ Kp p H H' ∧ Lns C H' p rows n' ∧ H' D = some (.dK kvs) ∧ kvs.map (·.1) = acc.map Sum.inr ∧ acc.length = cnt ∧
    (∀ kv ∈ kvs, ∃ t x y, kv.2 = .ref t ∧ H' t = some (.tup [x, y])) ∧ deedLoop rows sc 3 [] n = deedLoop rows sc (3 - cnt) acc n'
theorem scReadDeeds : FnScope ["lines", "scope", "deeds", "words", "name", "upto"] ["lines", "scope"] (defScope sReadDeeds) := ⟨rfl, rfl, rfl, by decide +kernel, rfl, by decide +kernel, by decide +kernel⟩
theorem ok_read_deeds {f : Addr} {fd : FuncData} (F : Fun K "read_deeds" "read_deeds" sReadDeeds f fd) (L : LX P w K mg base C CB) (S : SX K CS) (T : TN K mg) (M : TM mg) (N1 : NN P w K mg base C CB) (W1 : RWo P w K mg base C CB) (B1 : BLK P w K mg base C CB CS) : FnOk P w K mg base (L2.CX P w) 17 f fd ["lines", "scope"] (spDeeds K C CB CS) := by
  refine F.okX scReadDeeds (fun vs H Q E h => ?_) (fun cdv A outer s H vs Q E hr h => ?_)
  · obtain ⟨p, q, rows, n, sc, rfl, _⟩ := h
    rfl
  · obtain ⟨p, q, rows, n, sc, rfl, hL, hS, k⟩ := h
    obtain ⟨fN, dN, mN, bN, GN⟩ := L.need
    obtain ⟨fW, dW, mW, bW, GW⟩ := L.words
    obtain ⟨fS, dS, mS, bS, GS⟩ := L.step
    obtain ⟨fB, dB, mB, bB, GB⟩ := L.begins
    obtain ⟨f1, d1, m1, k1, b1, G1⟩ := N1
    obtain ⟨f2, d2, m2, k2, b2, G2⟩ := W1
    obtain ⟨f3, d3, ds3, m3, k3, b3, v3, G3⟩ := B1
    obtain ⟨tD, gD⟩ := M.gD
    have hr3 : Room 3 _ := hr.mono (by omega)
    have hr2 : Room 2 _ := hr.mono (by omega)
    have hr1 : Room 1 _ := hr.mono (by omega)
    have hr4 : Room 4 _ := hr.mono (by omega)
    refine ⟨_, pss_cons (ps_set (i := 2) scReadDeeds.nd rfl (Or.inl rfl) pe_dnewK)
      (pss_cons (ps_while (passes_of rfl) (PW.pt (pw_and (pt_cmpR op_lt (pe_callB call_lenD (by rfl) T.len PySem.boot_len (pa_cons (pv 2) pa_nil)) (pe_glob (v := .int 3) rfl gD ⟨_, rfl⟩) (nomark _)) (pw_and1 (pt_val (pe_meth (pv 0) L.cl mB GB hr2 bB .nil pass0 (pa_cons pe_int (pa_cons pe_str pa_nil))))))) (pss_cons (ps_set (i := 3) scReadDeeds.nd rfl (Or.inl rfl) (pe_meth (pv 0) L.cl mW GW hr1 bW .nil pass0 (pa_cons pe_int pa_nil)))
      (pss_cons (ps_expr (pe_meth (pv 0) L.cl mN GN hr3 bN .nil (pas (takes_of rfl rfl rfl rfl)) (pa_cons (pe_or (pe_cmpR op_eq (pe_callB call_len_seq (by rfl) T.len PySem.boot_len (pa_cons (pv 3) pa_nil)) pe_int (nomark _)) (pe_one (pe_and (pe_cmpR op_eq (pe_callB call_len_seq (by rfl) T.len PySem.boot_len (pa_cons (pv 3) pa_nil)) pe_int (nomark _)) (pe_one (pe_cmpR op_eq (pe_ix ix_list (pv 3) pe_int (fun _ _ => rfl)) pe_str (nomark _)))))) pa_nil)))
      (pss_cons (ps_set (i := 4) scReadDeeds.nd rfl (Or.inl rfl) (pe_call G1 hr4 rfl m1 k1 b1 .nil (pas (takes_of rfl rfl rfl rfl)) (pa_cons (pv 0) (pa_cons (pe_ix ix_list (pv 3) pe_int (fun _ _ => rfl)) (pa_cons (pv 2) pa_nil)))))
      (pss_cons (ps_set (i := 5) scReadDeeds.nd rfl (Or.inl rfl) pe_int)
      (pss_cons (ps_if (pt_cmpR op_eq (pe_callB call_len_seq (by rfl) T.len PySem.boot_len (pa_cons (pv 3) pa_nil)) pe_int (nomark _)) (pss_cons (ps_set (i := 5) scReadDeeds.nd rfl (Or.inl rfl) (pe_call G2 hr4 rfl m2 k2 b2 .nil (pas (takes_of rfl rfl rfl rfl)) (pa_cons (pv 0) (pa_cons (pe_ix ix_list (pv 3) pe_int (fun _ _ => rfl)) (pa_cons (pe_fld (pv 1) rfl) pa_nil)))))
      (pss_one (ps_expr (pe_meth (pv 0) L.cl mN GN hr3 bN .nil (pas (takes_of rfl rfl rfl rfl)) (pa_cons (pe_cmpR op_gt (pv 5) pe_int (nomark _)) pa_nil))))) pss_nil)
      (pss_cons (ps_expr (pe_meth0 (pv 0) L.cl mS GS hr1 bS .nil pass0))
      (pss_one (ps_dput (hu_of hr) (pv 2) (pv 4) (pe_tup (pa_cons (pv 5) (pa_cons (pe_ix ix_tup (pe_call G3 hr rfl m3 k3 b3 v3 (pas (takes_of rfl rfl rfl rfl)) (pa_cons (pv 0) (pa_cons (pv 1) (pa_cons pe_int pa_nil)))) pe_int (fun _ _ => rfl)) pa_nil))) rfl)))))))))
      (pss_cons (ps_expr (pe_meth (pv 0) L.cl mN GN hr3 bN .nil (pas (takes_of rfl rfl rfl rfl)) (pa_cons (pe_cmpR op_gt (pe_callB call_lenD (by rfl) T.len PySem.boot_len (pa_cons (pv 2) pa_nil)) pe_int (nomark _)) pa_nil)))
      (pss_one (ps_ret (pv 2))))), ?_⟩
    intro D hD
    have hpD : D ≠ p := fun z => by
      obtain ⟨_, _, dx3, r3, hp3, _⟩ := id hL
      rw [z, hp3] at hD
      cases hD
    refine ⟨fun m σ H' => ∃ cnt, m = 3 - cnt ∧ cnt ≤ 3 ∧ DeedInv C D p q H rows sc n cnt σ H',
      ⟨3, 0, rfl, Nat.zero_le _, n, [], [], none, none, none, rfl, Kp.upd_new hL (Kp.refl p H) hD, hL.upd_new (Kp.refl p H) hL hD, upd_same, rfl, rfl, (fun _ h => by cases h), rfl⟩, ?_⟩
    rintro m σ H' ⟨cnt, rfl, hcM, n', acc, kvs, va, vb, vc0, rfl, kk1, l1, hD', hks, hal, hv, hloop⟩
    obtain ⟨_, _, dx, r, hp, hr'⟩ := id l1
    have hkl : kvs.length = cnt := by
      have e := congrArg List.length hks
      rw [List.length_map, List.length_map, hal] at e
      exact e
    have vkeep : ∀ {H2 : Hp}, Kp p H' H2 → ∀ kv ∈ kvs, ∃ t x y, kv.2 = .ref t ∧ H2 t = some (.tup [x, y]) := fun kk kv hkv => by
      obtain ⟨t, x, y, e1, e2⟩ := hv kv hkv
      exact ⟨t, x, y, e1, kk.ne t _ (ne_of e2 hp (by intro z; cases z)) e2⟩
    have fin : ∀ H2 : Hp, Kp p H' H2 → Lns C H2 p rows n' → deedLoop rows sc (3 - cnt) acc n' = .ok (acc, n') → (0 < acc.length → Q (.ref D) H2) ∧ (¬ 0 < acc.length → deedsM rows sc n = .error (n' + 1)) := fun H2 kk2 l2 e => by
      have e2 : deedsM rows sc n = if acc.length > 0 then .ok (acc, n') else .error (n' + 1) := by
        unfold deedsM
        rw [hloop, e]
      refine ⟨fun hz => ?_, fun hz => ?_⟩
      · rw [if_pos hz] at e2
        exact outs_ok k e2 (kk1.trans kk2) l2 ⟨D, kvs, rfl, kk2.ne D _ hpD hD', hks, vkeep kk2⟩
      · rw [e2, if_neg hz]
    refine ⟨_, rfl, D, _, rfl, hD', _, _, rfl, rfl, _, rfl, ?_⟩
    rw [hkl]
    refine ite2 (fun c1 => ?_) (fun c1 => ?_)
    · have hlt : cnt < 3 := by
        have z := of_decide_eq_true c1
        omega
      have hl2 : deedLoop rows sc (3 - cnt) acc n' = deedLoop rows sc ((3 - (cnt + 1)) + 1) acc n' := by rw [show 3 - cnt = (3 - (cnt + 1)) + 1 from by omega]
      conv at hl2 => rhs; unfold deedLoop
      dsimp only at hl2
      refine ⟨_, rfl, p, dx, _, rfl, hp, lf_no _ _ (by decide +kernel) (by decide +kernel), p, rows, n', 1, _, rfl, l1, by omega, (by decide +kernel), fun H2 s2 => ⟨_, rfl, ?_⟩⟩
      have l2 := l1.same s2
      have kk2 := kk1.trans (Kp.of s2)
      have hD2 := s2 _ _ hD'
      refine ite2 (fun c2 => ?_) (fun c2 => ?_)
      · rw [if_pos c2] at hl2
        have hwpos : (wordsM rows n' 1).length > 0 := by
          cases e : wordsM rows n' 1 with
          | nil => rw [e] at c2; cases c2
          | cons a b => exact Nat.succ_pos _
        have hln := Small.pos l2 (d := 1) hwpos
        refine ⟨fun σ' H'' => DeedInv C D p q H rows sc n (cnt + 1) σ' H'', fun σ' H'' hN => ⟨3 - (cnt + 1), by omega, cnt + 1, rfl, by omega, hN⟩, ?_⟩
        obtain ⟨_, _, dx2, r2, hp2, _⟩ := id l2
        refine ⟨_, rfl, p, dx2, _, rfl, hp2, lf_no _ _ (by decide +kernel) (by decide +kernel), p, rows, n', 1, rfl, l2, by omega, fun H3 q3 s3 hq30 hq3 => ?_⟩
        have l3 := l2.same s3
        have kk3 := kk2.trans (Kp.of s3)
        have hD3 := s3 _ _ hD2
        have hwd : Wds (wordsM rows n' 1) := ⟨hL.1.many n' 1, hL.1.word n' 1⟩
        generalize hws : wordsM rows n' 1 = ws at hq3 hl2 hwd
        have bad : (ws.length == 2 || (ws.length == 4 && ws.getD 2 "" == ("upto" : Str))) = false → deedsM rows sc n = .error (n' + 1) := fun e => by
          unfold deedsM
          rw [hloop, hl2, e]
          rfl
        have good : (ws.length == 2 || (ws.length == 4 && ws.getD 2 "" == ("upto" : Str))) = true → deedLoop rows sc (3 - cnt) acc n' = (match newNameM (ws.getD 1 "") acc n' with
            | .error l => .error l
            | .ok _ => if ws.length = 4 then (match readWorthM (ws.getD 3 "") sc.worths n' with
              | .error l => .error l
              | .ok r => if r.1 > 0 then (match blk0 sc rows (n' + 1) with
                | .error l => .error l
                | .ok b => deedLoop rows sc (3 - (cnt + 1)) (acc ++ [ws.getD 1 ""]) b.2) else .error (n' + 1)) else (match blk0 sc rows (n' + 1) with
                | .error l => .error l
                | .ok b => deedLoop rows sc (3 - (cnt + 1)) (acc ++ [ws.getD 1 ""]) b.2)) := fun e => by
          rw [hl2, if_pos e]
        have up : ∀ l, deedLoop rows sc (3 - cnt) acc n' = .error l → deedsM rows sc n = .error l := fun l e => by
          unfold deedsM
          rw [hloop, e]
        obtain ⟨_, _, dx3, r3, hp3, _⟩ := id l3
        refine ⟨_, rfl, p, dx3, _, rfl, hp3, lf_no _ _ (by decide +kernel) (by decide +kernel), _, rfl, q3, _, rfl, .inl (SqL.of hq3), rfl, _, rfl, ?_⟩
        rw [show decide (V.int ((ws.map V.str).length : Int) = V.int 2) = decide (ws.length = 2) from dlen _ 2]
        by_cases c4 : ws.length = 2
        · rw [decide_eq_true c4]
          have g := good (by rw [c4]; rfl)
          refine iteT ?_
          show spNeed C CB [V.ref p, V.bl _] H3 (fun _ _ => _) _
          refine need_of (b := true) l3 kk3 _ k (fun e => by cases e) (fun _ => ?_)
          refine ⟨_, rfl, _, rfl, q3, _, _, _, rfl, rfl, SqL.of hq3, atI_nat (j := 1) (getS (by omega)), _, rfl, p, rows, n', _, _, acc, rfl, l3, (hwd.word _ (getS_mem (by omega))).2, ⟨D, rfl, .inl ⟨_, hD3, hks⟩⟩, ?_⟩
          refine outs_of k kk3 (fun l ev => up l (by rw [g, ev])) fun y n4 ev H4 v4 kk4 l4 rep => ?_
          obtain ⟨rfl, rfl, hfresh, _⟩ := newName_ok ev
          rw [ev] at g
          subst rep
          have kk34 := kk3.trans kk4
          have hD4 := kk4.ne D _ hpD hD3
          have hq4 := sql_kp (K := K) l3 kk4 (SqL.of hq3)
          have hv4 := vkeep ((Kp.of (s2.trans s3)).trans kk4)
          have g2 : deedLoop rows sc (3 - cnt) acc n4 = (match blk0 sc rows (n4 + 1) with
                | .error l => .error l
                | .ok b => deedLoop rows sc (3 - (cnt + 1)) (acc ++ [ws.getD 1 ""]) b.2) := by
            rw [g]
            show (if ws.length = 4 then _ else _) = _
            rw [if_neg (by omega)]
          refine ⟨_, rfl, q3, _, rfl, .inl hq4, rfl, _, rfl, ?_⟩
          rw [show decide (V.int ((ws.map V.str).length : Int) = V.int 4) = false from (dlen _ 4).trans (decide_eq_false (by omega))]
          refine iteF ?_
          have em := g2
          obtain ⟨_, _, dx6, r6, hp6, _⟩ := id l4
          refine ⟨_, rfl, p, dx6, _, rfl, hp6, lf_no _ _ (by decide +kernel) (by decide +kernel), p, rows, n4, rfl, l4, hln, fun H7 kk7 l7 => ?_⟩
          have kk7' := kk34.trans kk7
          refine ⟨_, rfl, _, rfl, _, rfl, p, q, rows, n4 + 1, sc, 2, 0, 0, rfl, l7, Sc.kp hL kk7' hS, by omega, by omega, (fun z => by cases z), ?_⟩
          refine outs_of k kk7' (fun l eb => up l (by rw [em, show blk0 sc rows (n4 + 1) = .error l from eb])) fun made n8 eb H8 v8 kk8 l8 rep => ?_
          rw [show blk0 sc rows (n4 + 1) = .ok (made, n8) from eb] at em
          obtain ⟨tt, y8, rfl, ht8⟩ := rep
          refine ⟨tt, _, _, _, rfl, rfl, SqT.of ht8, atI_nat (j := 0) rfl, (by show 2 ≤ sizeLine; decide), fun t9 ht9 => ?_⟩
          have s9 := Same.new (o := .tup [V.int 0, y8]) ht9
          have ht99 : (upd H8 t9 (.tup [V.int 0, y8])) t9 = some (.tup [V.int 0, y8]) := upd_same
          generalize hH9 : upd H8 t9 (.tup [V.int 0, y8]) = H9 at s9 ht99
          have kk89 := kk7.trans (kk8.trans (Kp.of s9))
          have kk9 := kk34.trans kk89
          have hD9 := kk89.ne D _ hpD hD4
          refine ⟨_, rfl, _, rfl, D, _, rfl, DPut.k (k := Sum.inr (ws.getD 1 "")) hD9 (by rw [hkl, sizeLine_eq]; omega), ?_⟩
          rw [putK_new hks rfl hfresh]
          refine ⟨n8, acc ++ [ws.getD 1 ""], _, _, _, _, rfl, Kp.upd_new hL kk9 hD, hL.upd_new kk9 (l8.same s9) hD, upd_same, (by rw [List.map_append, List.map_append, hks]; rfl), (by rw [List.length_append, hal]; rfl), fun kv hkv => ?_, hloop.trans em⟩
          have nt : ∀ {t : Addr} {x y : V}, H9 t = some (.tup [x, y]) → (upd H9 D (.dK (kvs ++ [(Sum.inr (ws.getD 1 ""), V.ref t9)]))) t = some (.tup [x, y]) := fun e => by
            rw [upd_ne (ne_of e hD9 (by intro z; cases z))]
            exact e
          rcases List.mem_append.mp hkv with hkv | hkv
          · obtain ⟨t, x, y, e1, e2⟩ := hv4 kv hkv
            refine ⟨t, x, y, e1, nt (kk89.ne t _ ?_ e2)⟩
            obtain ⟨_, _, dx0, r0, hp0, _⟩ := id l4
            exact ne_of e2 hp0 (by intro z; cases z)
          · rw [List.mem_singleton.mp hkv]
            exact ⟨t9, _, _, rfl, nt ht99⟩
        · rw [decide_eq_false c4]
          refine iteF ⟨_, rfl, q3, _, rfl, .inl (SqL.of hq3), rfl, _, rfl, ?_⟩
          rw [show decide (V.int ((ws.map V.str).length : Int) = V.int 4) = decide (ws.length = 4) from dlen _ 4]
          have e2 : (ws.length == 2) = false := beq_eq_false_iff_ne.mpr c4
          by_cases c5 : ws.length = 4
          · rw [decide_eq_true c5]
            refine iteT ⟨_, rfl, q3, _, _, _, rfl, rfl, SqL.of hq3, atI_nat (j := 2) (getS (by omega)), rfl, ?_⟩
            rw [dstr]
            show spNeed C CB [V.ref p, V.bl _] H3 (fun _ _ => _) _
            refine need_of (b := ws.getD 2 "" == ("upto" : Str)) l3 kk3 _ k (fun e => bad (by rw [e2, e]; simp)) (fun e => ?_)
            have g := good (by rw [e2, e, show (ws.length == 4) = true from beq_iff_eq.mpr c5]; rfl)
            refine ⟨_, rfl, _, rfl, q3, _, _, _, rfl, rfl, SqL.of hq3, atI_nat (j := 1) (getS (by omega)), _, rfl, p, rows, n', _, _, acc, rfl, l3, (hwd.word _ (getS_mem (by omega))).2, ⟨D, rfl, .inl ⟨_, hD3, hks⟩⟩, ?_⟩
            refine outs_of k kk3 (fun l ev => up l (by rw [g, ev])) fun y n4 ev H4 v4 kk4 l4 rep => ?_
            obtain ⟨rfl, rfl, hfresh, _⟩ := newName_ok ev
            rw [ev] at g
            subst rep
            have kk34 := kk3.trans kk4
            have hD4 := kk4.ne D _ hpD hD3
            have hq4 := sql_kp (K := K) l3 kk4 (SqL.of hq3)
            have g2 : deedLoop rows sc (3 - cnt) acc n4 = (match readWorthM (ws.getD 3 "") sc.worths n4 with
                | .error l => .error l
                | .ok r => if r.1 > 0 then (match blk0 sc rows (n4 + 1) with
                  | .error l => .error l
                  | .ok b => deedLoop rows sc (3 - (cnt + 1)) (acc ++ [ws.getD 1 ""]) b.2) else .error (n4 + 1)) := by
              rw [g]
              show (if ws.length = 4 then _ else _) = _
              rw [if_pos c5]
            refine ⟨_, rfl, q3, _, rfl, .inl hq4, rfl, _, rfl, ?_⟩
            rw [show decide (V.int ((ws.map V.str).length : Int) = V.int 4) = true from (dlen _ 4).trans (decide_eq_true c5)]
            refine iteT ?_
            have hS4 := Sc.kp hL kk34 hS
            obtain ⟨dxs, vc, vk, vaa, vl, hqs, a1, a2, a3, a4⟩ := hS4.ex
            refine ⟨_, rfl, _, rfl, q3, _, _, _, rfl, rfl, hq4, atI_nat (j := 3) (getS (by omega)), _, rfl, q, CS, dxs, _, _, rfl, hqs, S.cl, S.n1, (by unfold scf; walk_at "lk"), p, rows, n4, sc.worths, _, rfl, l4, (hwd.word _ (getS_mem (by omega))).2, (by have := hS.few; omega), ?_⟩
            refine outs_of k kk34 (fun l ev => up l (by rw [g2, ev])) fun z n5 ev2 H5 v5 kk5 l5 rep => ?_
            obtain rfl := readWorth_ok ev2
            rw [ev2] at g2
            subst rep
            have kk35 := kk34.trans kk5
            have hD5 := kk5.ne D _ hpD hD4
            have hv5 := vkeep ((Kp.of (s2.trans s3)).trans (kk4.trans kk5))
            obtain ⟨_, _, dx5, r5, hp5, _⟩ := id l5
            refine ⟨_, rfl, p, dx5, _, rfl, hp5, lf_no _ _ (by decide +kernel) (by decide +kernel), _, rfl, _, _, rfl, rfl, ?_⟩
            have g3 : deedLoop rows sc (3 - cnt) acc n5 = if z > 0 then (match blk0 sc rows (n5 + 1) with
                  | .error l => .error l
                  | .ok b => deedLoop rows sc (3 - (cnt + 1)) (acc ++ [ws.getD 1 ""]) b.2) else .error (n5 + 1) := g2
            show spNeed C CB [V.ref p, V.bl _] H5 (fun _ _ => _) _
            refine need_of (b := decide ((0 : Int) < (z : Int))) l5 kk35 _ k (fun e => up _ (by rw [g3, if_neg (fun z => absurd e (by rw [decide_eq_true (by omega)]; decide))])) (fun e => ?_)
            have hz := of_decide_eq_true e
            rw [if_pos (by omega)] at g3
            have em := g3
            obtain ⟨_, _, dx6, r6, hp6, _⟩ := id l5
            refine ⟨_, rfl, p, dx6, _, rfl, hp6, lf_no _ _ (by decide +kernel) (by decide +kernel), p, rows, n5, rfl, l5, hln, fun H7 kk7 l7 => ?_⟩
            have kk7' := kk35.trans kk7
            refine ⟨_, rfl, _, rfl, _, rfl, p, q, rows, n5 + 1, sc, 2, 0, 0, rfl, l7, Sc.kp hL kk7' hS, by omega, by omega, (fun z => by cases z), ?_⟩
            refine outs_of k kk7' (fun l eb => up l (by rw [em, show blk0 sc rows (n5 + 1) = .error l from eb])) fun made n8 eb H8 v8 kk8 l8 rep => ?_
            rw [show blk0 sc rows (n5 + 1) = .ok (made, n8) from eb] at em
            obtain ⟨tt, y8, rfl, ht8⟩ := rep
            refine ⟨tt, _, _, _, rfl, rfl, SqT.of ht8, atI_nat (j := 0) rfl, (by show 2 ≤ sizeLine; decide), fun t9 ht9 => ?_⟩
            have s9 := Same.new (o := .tup [V.int (z : Nat), y8]) ht9
            have ht99 : (upd H8 t9 (.tup [V.int (z : Nat), y8])) t9 = some (.tup [V.int (z : Nat), y8]) := upd_same
            generalize hH9 : upd H8 t9 (.tup [V.int (z : Nat), y8]) = H9 at s9 ht99
            have kk89 := kk7.trans (kk8.trans (Kp.of s9))
            have kk9 := kk35.trans kk89
            have hD9 := kk89.ne D _ hpD hD5
            refine ⟨_, rfl, _, rfl, D, _, rfl, DPut.k (k := Sum.inr (ws.getD 1 "")) hD9 (by rw [hkl, sizeLine_eq]; omega), ?_⟩
            rw [putK_new hks rfl hfresh]
            refine ⟨n8, acc ++ [ws.getD 1 ""], _, _, _, _, rfl, Kp.upd_new hL kk9 hD, hL.upd_new kk9 (l8.same s9) hD, upd_same, (by rw [List.map_append, List.map_append, hks]; rfl), (by rw [List.length_append, hal]; rfl), fun kv hkv => ?_, hloop.trans em⟩
            have nt : ∀ {t : Addr} {x y : V}, H9 t = some (.tup [x, y]) → (upd H9 D (.dK (kvs ++ [(Sum.inr (ws.getD 1 ""), V.ref t9)]))) t = some (.tup [x, y]) := fun e => by
              rw [upd_ne (ne_of e hD9 (by intro z; cases z))]
              exact e
            rcases List.mem_append.mp hkv with hkv | hkv
            · obtain ⟨t, x, y, e1, e2⟩ := hv5 kv hkv
              refine ⟨t, x, y, e1, nt (kk89.ne t _ ?_ e2)⟩
              obtain ⟨_, _, dx0, r0, hp0, _⟩ := id l5
              exact ne_of e2 hp0 (by intro z; cases z)
            · rw [List.mem_singleton.mp hkv]
              exact ⟨t9, _, _, rfl, nt ht99⟩
          · rw [decide_eq_false c5]
            refine iteF ?_
            show spNeed C CB [V.ref p, V.bl _] H3 (fun _ _ => _) _
            exact need_of (b := false) l3 kk3 _ k (fun e => bad (by rw [e2, show (ws.length == 4) = false from beq_eq_false_iff_ne.mpr c5]; simp)) (fun e => by cases e)
      · rw [if_neg c2] at hl2
        obtain ⟨f1', f2'⟩ := fin H2 (Kp.of s2) l2 hl2
        obtain ⟨_, _, dx2, r2, hp2, _⟩ := id l2
        refine ⟨_, rfl, p, dx2, _, rfl, hp2, lf_no _ _ (by decide +kernel) (by decide +kernel), _, rfl, D, _, rfl, hD2, _, _, rfl, rfl, ?_⟩
        show spNeed C CB [V.ref p, V.bl _] H2 (fun _ _ => _) _
        refine need_of (b := decide ((0 : Int) < (kvs.length : Int))) l2 kk2 _ k (fun e => f2' (fun z => absurd e (by rw [decide_eq_true (by omega)]; decide))) (fun e => ⟨_, rfl, f1' (by have z := of_decide_eq_true e; omega)⟩)
    · have hl2 : deedLoop rows sc (3 - cnt) acc n' = .ok (acc, n') := by
        have z : ¬ cnt < 3 := fun z => c1 (decide_eq_true (by omega))
        rw [show 3 - cnt = 0 from by omega]
        rfl
      obtain ⟨f1', f2'⟩ := fin H' (Kp.refl p H') l1 hl2
      refine ⟨_, rfl, p, dx, _, rfl, hp, lf_no _ _ (by decide +kernel) (by decide +kernel), _, rfl, D, _, rfl, hD', _, _, rfl, rfl, ?_⟩
      show spNeed C CB [V.ref p, V.bl _] H' (fun _ _ => _) _
      refine need_of (b := decide ((0 : Int) < (kvs.length : Int))) l1 kk1 _ k (fun e => f2' (fun z => absurd e (by rw [decide_eq_true (by omega)]; decide))) (fun e => ⟨_, rfl, f1' (by have z := of_decide_eq_true e; omega)⟩)
end
end K6

/-! text L16x -/
set_option Elab.async false
set_option linter.all false
set_option maxRecDepth 100000
set_option maxHeartbeats 4000000
namespace K6
open PySem PySem.Spec PyProof.Rows L2
local macro_rules | `(tactic| walk_at "lk") => `(tactic| (repeat (first | with_reducible exact lk_hd _ _ _ | with_reducible exact lk_nil _ | refine lk_tl (by decide +kernel) ?_)))
theorem made_sc {CS x dx : Addr} {H2 : Hp} {fs : List (Str × V)} (hx : H2 x = none) (hdx : H2 dx = none) :
    Same H2 (upd (upd (upd H2 dx (.own x)) x (.ins CS dx [])) x (.ins CS dx fs)) ∧ (upd (upd (upd H2 dx (.own x)) x (.ins CS dx [])) x (.ins CS dx fs)) x = some (.ins CS dx fs) :=
  ⟨fun b o e => by
    rw [upd_ne (ne_of_none e hx), upd_ne (ne_of_none e hx), upd_ne (ne_of_none e hdx)]
    exact e, upd_same⟩
def scHouse (N : Nat) (cells : List Str) : ScM := ⟨N, cells, ["it"], [], true, [], 0⟩
section
variable {P : Program} {w : World} {K : PySem.W.Frag} {mg : Str → Option Value} {base : Heap} {C CB CS fB : Addr}
def spHouse (K : PySem.W.Frag) (C CB : Addr) : Sp := fun vs H Q E => ∃ (p : Addr) (rows : List Str) (n N : Nat) (cv : V) (cells : List Str), vs = [.ref p, .int N, cv] ∧ Lns C H p rows n ∧ N ≤ 4 ∧ Nm K H cv cells ∧ Outs C CB p rows H Q E (asksM rows (scHouse N cells) n) RepK
def AskInv (C D p : Addr) (xs : V) (H : Hp) (rows : List Str) (sc : ScM) (N : Nat) (cv : V) (n cnt : Nat) (σ : L2.St) (H' : Hp) : Prop :=
  ∃ (n' : Nat) (acc : List Str) (kvs : List (Key × V)) (a b : Option V), σ = [some (.ref p), some (.int N), some cv, some xs, some (.ref D), a, b] ∧ Kp p H H' ∧ Lns C H' p rows n' ∧ H' D = some (.dK kvs) ∧ kvs.map (·.1) = acc.map Sum.inr ∧ acc.length = cnt ∧
    askLoop rows sc 3 [] n = askLoop rows sc (3 - cnt) acc n'
theorem scReadHouse : FnScope ["lines", "worths", "cells", "scope", "asks", "words", "name"] ["lines", "worths", "cells"] (defScope sReadHouse) := ⟨rfl, rfl, rfl, by decide +kernel, rfl, by decide +kernel, by decide +kernel⟩
theorem ok_read_house {f : Addr} {fd : FuncData} (F : Fun K "read_house_asks" "read_house_asks" sReadHouse f fd) (L : LX P w K mg base C CB) (S : SX K CS) (T : TN K mg) (M : TM mg) (SM : SMk P w K mg base CS) (N1 : NN P w K mg base C CB) (B1 : BLK P w K mg base C CB CS) : FnOk P w K mg base (L2.CX P w) 17 f fd ["lines", "worths", "cells"] (spHouse K C CB) := by
  refine F.okX scReadHouse (fun vs H Q E h => ?_) (fun cdv A outer s H vs Q E hr h => ?_)
  · obtain ⟨p, rows, n, N, cv, cells, rfl, _⟩ := h
    rfl
  · obtain ⟨p, rows, n, N, cv, cells, rfl, hL, hN, hC, k⟩ := h
    obtain ⟨fN, dN, mN, bN, GN⟩ := L.need
    obtain ⟨fW, dW, mW, bW, GW⟩ := L.words
    obtain ⟨fS, dS, mS, bS, GS⟩ := L.step
    obtain ⟨fB, dB, mB, bB, GB⟩ := L.begins
    obtain ⟨f1, d1, m1, k1, b1, G1⟩ := N1
    obtain ⟨f3, d3, ds3, m3, k3, b3, v3, G3⟩ := B1
    obtain ⟨fC, dC, eT, mv1, mv2, MC, GC, hE, kb1, kb2⟩ := SM.ex
    obtain ⟨tD, gD⟩ := M.gA
    have hr3 : Room 3 _ := hr.mono (by omega)
    have hr2 : Room 2 _ := hr.mono (by omega)
    have hr1 : Room 1 _ := hr.mono (by omega)
    have hr4 : Room 4 _ := hr.mono (by omega)
    refine ⟨_, pss_cons (ps_set (i := 3) scReadHouse.nd rfl (Or.inl rfl) (pe_makeK MC GC hr2 rfl SM.gS kb1 pass0 (pa_cons (pv 1) (pa_cons (pv 2) (pa_cons (pe_tup (pa_cons pe_str pa_nil)) (pa_cons (pe_tup pa_nil) pa_nil)))) (pk_cons pe_bl pk_nil)))
      (pss_cons (ps_set (i := 4) scReadHouse.nd rfl (Or.inl rfl) pe_dnewK)
      (pss_cons (ps_while (passes_of rfl) (PW.pt (pw_and (pt_cmpR op_lt (pe_callB call_lenD (by rfl) T.len PySem.boot_len (pa_cons (pv 4) pa_nil)) (pe_glob (v := .int 3) rfl gD ⟨_, rfl⟩) (nomark _)) (pw_and1 (pt_val (pe_meth (pv 0) L.cl mB GB hr2 bB .nil pass0 (pa_cons pe_int (pa_cons pe_str pa_nil))))))) (pss_cons (ps_set (i := 5) scReadHouse.nd rfl (Or.inl rfl) (pe_meth (pv 0) L.cl mW GW hr1 bW .nil pass0 (pa_cons pe_int pa_nil)))
      (pss_cons (ps_expr (pe_meth (pv 0) L.cl mN GN hr3 bN .nil (pas (takes_of rfl rfl rfl rfl)) (pa_cons (pe_cmpR op_eq (pe_callB call_len_seq (by rfl) T.len PySem.boot_len (pa_cons (pv 5) pa_nil)) pe_int (nomark _)) pa_nil)))
      (pss_cons (ps_set (i := 6) scReadHouse.nd rfl (Or.inl rfl) (pe_call G1 hr4 rfl m1 k1 b1 .nil (pas (takes_of rfl rfl rfl rfl)) (pa_cons (pv 0) (pa_cons (pe_ix ix_list (pv 5) pe_int (fun _ _ => rfl)) (pa_cons (pv 4) pa_nil)))))
      (pss_cons (ps_expr (pe_meth0 (pv 0) L.cl mS GS hr1 bS .nil pass0))
      (pss_one (ps_dput (hu_of hr) (pv 4) (pv 6) (pe_ifExp (pt_cmpR op_gt (pe_callB call_len_seq (by rfl) T.len PySem.boot_len (pa_cons (pe_meth (pv 0) L.cl mW GW hr1 bW .nil pass0 (pa_cons pe_int pa_nil)) pa_nil)) pe_int (nomark _)) (pe_ix ix_tup (pe_call G3 hr rfl m3 k3 b3 v3 (pas (takes_of rfl rfl rfl rfl)) (pa_cons (pv 0) (pa_cons (pv 3) (pa_cons pe_int pa_nil)))) pe_int (fun _ _ => rfl)) (pe_tup pa_nil)) rfl)))))))
      (pss_cons (ps_expr (pe_meth (pv 0) L.cl mN GN hr3 bN .nil (pas (takes_of rfl rfl rfl rfl)) (pa_cons (pe_cmpR op_gt (pe_callB call_lenD (by rfl) T.len PySem.boot_len (pa_cons (pv 4) pa_nil)) pe_int (nomark _)) pa_nil)))
      (pss_one (ps_ret (pv 4)))))), ?_⟩
    refine ⟨_, rfl, _, rfl, (by show 1 ≤ sizeLine; decide), fun t1 ht1 => ⟨(by show 0 ≤ sizeLine; decide), fun t2 ht2 => ?_⟩⟩
    refine ⟨rfl, rfl, fun x dx hx hdx hxd => ?_⟩
    refine ⟨x, dx, scHouse N cells, cv, .ref t1, .ref t2, .ref eT, rfl, upd_same, rfl, ?_⟩
    have sA := Same.new (o := .tup [V.str "it"]) ht1
    have hA : (upd H t1 (.tup [V.str "it"])) t1 = some (.tup [V.str "it"]) := upd_same
    generalize hHA : upd H t1 (.tup [V.str "it"]) = HA at sA hA ht2 hx hdx
    have sB := Same.new (o := .tup []) ht2
    have hB0 : (upd HA t2 (.tup [])) t2 = some (.tup []) := upd_same
    generalize hHB : upd HA t2 (.tup []) = HB at sB hB0 hx hdx
    obtain ⟨sM, hM⟩ := made_sc (CS := CS) (fs := scf (scHouse N cells) cv (.ref t1) (.ref t2) (.ref eT)) hx hdx
    generalize hHM : upd (upd (upd HB dx (.own x)) x (.ins CS dx [])) x (.ins CS dx (scf (scHouse N cells) cv (.ref t1) (.ref t2) (.ref eT))) = HM at sM hM
    have s0 : Same H HM := sA.trans (sB.trans sM)
    have lM := hL.same s0
    have hS : Sc K CS HM x (scHouse N cells) := ⟨⟨dx, cv, .ref t1, .ref t2, .ref eT, hM, nm_kp hL (Kp.of s0) hC, ⟨t1, rfl, .inr (.inr (SqT.of (sM _ _ (sB _ _ hA))))⟩, ⟨t2, rfl, .inr (.inr (SqT.of (sM _ _ hB0)))⟩, ⟨eT, rfl, .inr (.inr (hE _))⟩⟩, hN⟩
    have k : Outs C CB p rows HM Q E (asksM rows (scHouse N cells) n) RepK := outs_of k (Kp.of s0) (fun _ e => e) (fun a n' e H' v k1 l1 r1 => outs_ok k e ((Kp.of s0).trans k1) l1 r1)
    generalize scHouse N cells = sc at k hS
    clear hL hC hM hHM s0 hB0 hHB hA hHA sA sB sM
    intro D hD
    have hL := lM
    have hpD : D ≠ p := fun z => by
      obtain ⟨_, _, dx3, r3, hp3, _⟩ := id hL
      rw [z, hp3] at hD
      cases hD
    refine ⟨fun m σ H' => ∃ cnt, m = 3 - cnt ∧ cnt ≤ 3 ∧ AskInv C D p (.ref x) HM rows sc N cv n cnt σ H',
      ⟨3, 0, rfl, Nat.zero_le _, n, [], [], none, none, rfl, Kp.upd_new hL (Kp.refl p HM) hD, hL.upd_new (Kp.refl p HM) hL hD, upd_same, rfl, rfl, rfl⟩, ?_⟩
    rintro m σ H' ⟨cnt, rfl, hcM, n', acc, kvs, va, vb, rfl, kk1, l1, hD', hks, hal, hloop⟩
    obtain ⟨_, _, dx, r, hp, hr'⟩ := id l1
    have hkl : kvs.length = cnt := by
      have e := congrArg List.length hks
      rw [List.length_map, List.length_map, hal] at e
      exact e
    have fin : ∀ H2 : Hp, Kp p H' H2 → Lns C H2 p rows n' → askLoop rows sc (3 - cnt) acc n' = .ok (acc, n') → (0 < acc.length → Q (.ref D) H2) ∧ (¬ 0 < acc.length → asksM rows sc n = .error (n' + 1)) := fun H2 kk2 l2 e => by
      have e2 : asksM rows sc n = if acc.length > 0 then .ok (acc, n') else .error (n' + 1) := by
        unfold asksM
        rw [hloop, e]
      refine ⟨fun hz => ?_, fun hz => ?_⟩
      · rw [if_pos hz] at e2
        exact outs_ok k e2 (kk1.trans kk2) l2 ⟨D, kvs, rfl, kk2.ne D _ hpD hD', hks⟩
      · rw [e2, if_neg hz]
    refine ⟨_, rfl, D, _, rfl, hD', _, _, rfl, rfl, _, rfl, ?_⟩
    rw [hkl]
    refine ite2 (fun c1 => ?_) (fun c1 => ?_)
    · have hlt : cnt < 3 := by
        have z := of_decide_eq_true c1
        omega
      have hl2 : askLoop rows sc (3 - cnt) acc n' = askLoop rows sc ((3 - (cnt + 1)) + 1) acc n' := by rw [show 3 - cnt = (3 - (cnt + 1)) + 1 from by omega]
      conv at hl2 => rhs; unfold askLoop
      dsimp only at hl2
      refine ⟨_, rfl, p, dx, _, rfl, hp, lf_no _ _ (by decide +kernel) (by decide +kernel), p, rows, n', 1, _, rfl, l1, by omega, (by decide +kernel), fun H2 s2 => ⟨_, rfl, ?_⟩⟩
      have l2 := l1.same s2
      have kk2 := kk1.trans (Kp.of s2)
      have hD2 := s2 _ _ hD'
      refine ite2 (fun c2 => ?_) (fun c2 => ?_)
      · rw [if_pos c2] at hl2
        have hwpos : (wordsM rows n' 1).length > 0 := by
          cases e : wordsM rows n' 1 with
          | nil => rw [e] at c2; cases c2
          | cons a b => exact Nat.succ_pos _
        have hln := Small.pos l2 (d := 1) hwpos
        refine ⟨fun σ' H'' => AskInv C D p (.ref x) HM rows sc N cv n (cnt + 1) σ' H'', fun σ' H'' hN => ⟨3 - (cnt + 1), by omega, cnt + 1, rfl, by omega, hN⟩, ?_⟩
        obtain ⟨_, _, dx2, r2, hp2, _⟩ := id l2
        refine ⟨_, rfl, p, dx2, _, rfl, hp2, lf_no _ _ (by decide +kernel) (by decide +kernel), p, rows, n', 1, rfl, l2, by omega, fun H3 q3 s3 hq30 hq3 => ?_⟩
        have l3 := l2.same s3
        have kk3 := kk2.trans (Kp.of s3)
        have hD3 := s3 _ _ hD2
        have hwd : Wds (wordsM rows n' 1) := ⟨hL.1.many n' 1, hL.1.word n' 1⟩
        generalize hws : wordsM rows n' 1 = ws at hq3 hl2 hwd
        have up : ∀ l, askLoop rows sc (3 - cnt) acc n' = .error l → asksM rows sc n = .error l := fun l e => by
          unfold asksM
          rw [hloop, e]
        obtain ⟨_, _, dx3, r3, hp3, _⟩ := id l3
        refine ⟨_, rfl, p, dx3, _, rfl, hp3, lf_no _ _ (by decide +kernel) (by decide +kernel), _, rfl, q3, _, rfl, .inl (SqL.of hq3), rfl, ?_⟩
        rw [show decide (V.int ((ws.map V.str).length : Int) = V.int 2) = decide (ws.length = 2) from dlen _ 2]
        show spNeed C CB [V.ref p, V.bl _] H3 (fun _ _ => _) _
        refine need_of (b := decide (ws.length = 2)) l3 kk3 _ k (fun e => up _ (by rw [hl2, if_neg (of_decide_eq_false e)])) (fun e => ?_)
        have c4 : ws.length = 2 := of_decide_eq_true e
        have g := hl2
        rw [if_pos c4] at g
        refine ⟨_, rfl, _, rfl, q3, _, _, _, rfl, rfl, SqL.of hq3, atI_nat (j := 1) (getS (by omega)), _, rfl, p, rows, n', _, _, acc, rfl, l3, (hwd.word _ (getS_mem (by omega))).2, ⟨D, rfl, .inl ⟨_, hD3, hks⟩⟩, ?_⟩
        refine outs_of k kk3 (fun l ev => up l (by rw [g, ev])) fun y n4 ev H4 v4 kk4 l4 rep => ?_
        obtain ⟨rfl, rfl, hfresh, _⟩ := newName_ok ev
        rw [ev] at g
        subst rep
        have kk34 := kk3.trans kk4
        have hD4 := kk4.ne D _ hpD hD3
        obtain ⟨_, _, dx6, r6, hp6, _⟩ := id l4
        refine ⟨_, rfl, p, dx6, _, rfl, hp6, lf_no _ _ (by decide +kernel) (by decide +kernel), p, rows, n4, rfl, l4, hln, fun H7 kk7 l7 => ?_⟩
        have kk37 := kk34.trans kk7
        have hD7 := kk7.ne D _ hpD hD4
        obtain ⟨_, _, dx7, r7, hp7, _⟩ := id l7
        refine ⟨_, rfl, p, dx7, _, rfl, hp7, lf_no _ _ (by decide +kernel) (by decide +kernel), p, rows, n4 + 1, 2, rfl, l7, by omega, fun H8 q8 s8 hq80 hq8 => ?_⟩
        have l8 := l7.same s8
        have kk38 := kk37.trans (Kp.of s8)
        have hD8 := s8 _ _ hD7
        refine ⟨q8, _, rfl, .inl (SqL.of hq8), _, _, rfl, rfl, _, rfl, ?_⟩
        rw [List.length_map]
        refine ite2 (fun c5 => ?_) (fun c5 => ?_)
        · have z := of_decide_eq_true c5
          have g2 : askLoop rows sc (3 - cnt) acc n4 = (match blk0 sc rows (n4 + 1) with
                | .error l => .error l
                | .ok b => askLoop rows sc (3 - (cnt + 1)) (acc ++ [ws.getD 1 ""]) b.2) := by
            rw [g]
            show (if (wordsM rows (n4 + 1) 2).length > 0 then _ else _) = _
            rw [if_pos (by omega)]
            all_goals rfl
          refine ⟨_, rfl, _, rfl, p, x, rows, n4 + 1, sc, 2, 0, 0, rfl, l8, Sc.kp hL kk38 hS, by omega, by omega, (fun z => by cases z), ?_⟩
          refine outs_of k kk38 (fun l eb => up l (by rw [g2, show blk0 sc rows (n4 + 1) = .error l from eb])) fun made n9 eb H9 v9 kk9 l9 rep => ?_
          rw [show blk0 sc rows (n4 + 1) = .ok (made, n9) from eb] at g2
          obtain ⟨tt, y8, rfl, ht8⟩ := rep
          have hD9 := kk9.ne D _ hpD hD8
          have kk39 := kk38.trans kk9
          refine ⟨tt, _, _, _, rfl, rfl, SqT.of ht8, atI_nat (j := 0) rfl, _, rfl, _, rfl, D, _, rfl, DPut.k (k := Sum.inr (ws.getD 1 "")) hD9 (by rw [hkl, sizeLine_eq]; omega), ?_⟩
          rw [putK_new hks rfl hfresh]
          exact ⟨n9, acc ++ [ws.getD 1 ""], _, _, _, rfl, Kp.upd_new hL kk39 hD, hL.upd_new kk39 l9 hD, upd_same, (by rw [List.map_append, List.map_append, hks]; rfl), (by rw [List.length_append, hal]; rfl), hloop.trans g2⟩
        · have g2 : askLoop rows sc (3 - cnt) acc n4 = askLoop rows sc (3 - (cnt + 1)) (acc ++ [ws.getD 1 ""]) (n4 + 1) := by
            rw [g]
            show (if (wordsM rows (n4 + 1) 2).length > 0 then _ else _) = _
            rw [if_neg (fun z => c5 (decide_eq_true (by omega)))]
          refine ⟨(by show 0 ≤ sizeLine; decide), fun t9 ht9 => ?_⟩
          have s9 := Same.new (o := .tup []) ht9
          generalize hH9 : upd H8 t9 (.tup []) = H9 at s9
          have hD9 := s9 _ _ hD8
          have kk39 := kk38.trans (Kp.of s9)
          refine ⟨_, rfl, _, rfl, D, _, rfl, DPut.k (k := Sum.inr (ws.getD 1 "")) hD9 (by rw [hkl, sizeLine_eq]; omega), ?_⟩
          rw [putK_new hks rfl hfresh]
          exact ⟨n4 + 1, acc ++ [ws.getD 1 ""], _, _, _, rfl, Kp.upd_new hL kk39 hD, hL.upd_new kk39 (l8.same s9) hD, upd_same, (by rw [List.map_append, List.map_append, hks]; rfl), (by rw [List.length_append, hal]; rfl), hloop.trans g2⟩
      · rw [if_neg c2] at hl2
        obtain ⟨f1', f2'⟩ := fin H2 (Kp.of s2) l2 hl2
        obtain ⟨_, _, dx2, r2, hp2, _⟩ := id l2
        refine ⟨_, rfl, p, dx2, _, rfl, hp2, lf_no _ _ (by decide +kernel) (by decide +kernel), _, rfl, D, _, rfl, hD2, _, _, rfl, rfl, ?_⟩
        show spNeed C CB [V.ref p, V.bl _] H2 (fun _ _ => _) _
        refine need_of (b := decide ((0 : Int) < (kvs.length : Int))) l2 kk2 _ k (fun e => f2' (fun z => absurd e (by rw [decide_eq_true (by omega)]; decide))) (fun e => ⟨_, rfl, f1' (by have z := of_decide_eq_true e; omega)⟩)
    · have hl2 : askLoop rows sc (3 - cnt) acc n' = .ok (acc, n') := by
        have z : ¬ cnt < 3 := fun z => c1 (decide_eq_true (by omega))
        rw [show 3 - cnt = 0 from by omega]
        rfl
      obtain ⟨f1', f2'⟩ := fin H' (Kp.refl p H') l1 hl2
      refine ⟨_, rfl, p, dx, _, rfl, hp, lf_no _ _ (by decide +kernel) (by decide +kernel), _, rfl, D, _, rfl, hD', _, _, rfl, rfl, ?_⟩
      show spNeed C CB [V.ref p, V.bl _] H' (fun _ _ => _) _
      refine need_of (b := decide ((0 : Int) < (kvs.length : Int))) l1 kk1 _ k (fun e => f2' (fun z => absurd e (by rw [decide_eq_true (by omega)]; decide))) (fun e => ⟨_, rfl, f1' (by have z := of_decide_eq_true e; omega)⟩)
end
end K6

/-! text L17x -/
set_option Elab.async false
set_option linter.all false
set_option maxRecDepth 100000
set_option maxHeartbeats 4000000
namespace K6
open PySem PySem.Spec PyProof.Rows L2
local macro_rules | `(tactic| walk_at "lk") => `(tactic| (repeat (first | with_reducible exact lk_hd _ _ _ | with_reducible exact lk_nil _ | refine lk_tl (by decide +kernel) ?_)))
abbrev sReadHandlers : Stmt := top 42
def scHand (N : Nat) (cells asks : List Str) (i : Nat) : ScM := ⟨N, cells, ["it", "asked"], asks, false, asks.drop (i + 1), 1⟩
def handWords (rows : List Str) (sc : ScM) (name : Str) : List Str → Nat → Rd' Unit
  | [], n => .ok ((), n)
  | w :: ws, n => match lineM rows n 1 [w, name] with
    | .error l => .error l
    | .ok r => if r.1 = true then (match blk0 sc rows r.2 with
      | .error l => .error l
      | .ok b => handWords rows sc name ws b.2) else handWords rows sc name ws r.2
def handsLoop (rows : List Str) (N : Nat) (cells asks : List Str) : Nat → Nat → Nat → Rd' Unit
  | 0, _, n => .ok ((), n)
  | f + 1, i, n => match handWords rows (scHand N cells asks i) (asks.getD i "") ["answer", "refused"] n with
    | .error l => .error l
    | .ok r => handsLoop rows N cells asks f (i + 1) r.2
def handlersM (rows : List Str) (N : Nat) (cells asks : List Str) (n : Nat) : Rd' Unit := handsLoop rows N cells asks asks.length 0 n
section
variable {P : Program} {w : World} {K : PySem.W.Frag} {mg : Str → Option Value} {base : Heap} {C CB CS fB : Addr}
abbrev LN (P : Program) (w : World) (K : PySem.W.Frag) (mg : Str → Option Value) (base : Heap) (C CB : Addr) : Prop := FnAt P w K mg base (L2.CX P w) 2 "read_line" ["lines", "depth", "words"] (spLine K C CB)
def spHandlers (K : PySem.W.Frag) (C CB : Addr) : Sp := fun vs H Q E => ∃ (p a : Addr) (rows : List Str) (n N : Nat) (cv : V) (cells asks : List Str), vs = [.ref p, .int N, cv, .ref a] ∧ Lns C H p rows n ∧ N ≤ 4 ∧ Nm K H cv cells ∧ SqL K H a (asks.map V.str) ∧ asks.length ≤ 10 ∧ (∀ x ∈ asks, PyData.strOk x = true) ∧
  Outs C CB p rows H Q E (handlersM rows N cells asks n) fun _ _ _ => True
def HInv (C D ln p a : Addr) (H : Hp) (rows : List Str) (N : Nat) (cv : V) (cells asks : List Str) (n i : Nat) (σ : L2.St) (H' : Hp) : Prop :=
  ∃ (n' : Nat) (kvs : List (List Key × V)) (b c d : Option V), σ = [some (.ref p), some (.int N), some cv, some (.ref a), some (.ref ln), some (.ref D), b, c, d] ∧ Kp p H H' ∧ Lns C H' p rows n' ∧ H' D = some (.dT kvs) ∧ kvs.length ≤ 2 * i ∧
    handlersM rows N cells asks n = handsLoop rows N cells asks (asks.length - i) i n'
def WInv (C D ln p a s : Addr) (H : Hp) (rows : List Str) (N : Nat) (cv : V) (asks : List Str) (sc : ScM) (name : Str) (n i j : Nat) (σ : L2.St) (H' : Hp) : Prop :=
  ∃ (n' : Nat) (kvs : List (List Key × V)) (d : Option V), σ = [some (.ref p), some (.int N), some cv, some (.ref a), some (.ref ln), some (.ref D), some (.int (i : Nat)), some (.ref s), d] ∧ Kp p H H' ∧ Lns C H' p rows n' ∧ H' D = some (.dT kvs) ∧ kvs.length ≤ 2 * i + j ∧
    handWords rows sc name ["answer", "refused"] n = handWords rows sc name ((["answer", "refused"] : List Str).drop j) n'
theorem nm_updT {K : PySem.W.Frag} {H : Hp} {D : Addr} {kvs : List (List Key × V)} {o : HO} {v : V} {ns : List Str} (hD : H D = some (.dT kvs)) (h : Nm K H v ns) : Nm K (upd H D o) v ns := by
  obtain ⟨a, e, h⟩ := h
  refine ⟨a, e, ?_⟩
  have ne : ∀ {o : HO}, (∀ kv, o ≠ .dT kv) → H a = some o → a ≠ D := fun hn ha z => by
    rw [z, hD] at ha
    exact hn _ (Option.some.inj ha).symm
  rcases h with ⟨kvs, h, e2⟩ | ((h | ⟨u, h⟩) | h) | ((h | ⟨u, h⟩) | h)
  · exact .inl ⟨kvs, by rw [upd_ne (ne (by intro _ z; cases z) h)]; exact h, e2⟩
  · exact .inr (.inl (.inl (.inl (by rw [upd_ne (ne (by intro _ z; cases z) h)]; exact h))))
  · exact .inr (.inl (.inl (.inr ⟨u, by rw [upd_ne (ne (by intro _ z; cases z) h)]; exact h⟩)))
  · exact .inr (.inl (.inr h))
  · exact .inr (.inr (.inl (.inl (by rw [upd_ne (ne (by intro _ z; cases z) h)]; exact h))))
  · exact .inr (.inr (.inl (.inr ⟨u, by rw [upd_ne (ne (by intro _ z; cases z) h)]; exact h⟩)))
  · exact .inr (.inr (.inr h))
theorem sc_updT {K : PySem.W.Frag} {CS : Addr} {H : Hp} {D q : Addr} {kvs : List (List Key × V)} {o : HO} {sc : ScM} (hD : H D = some (.dT kvs)) (g : Sc K CS H q sc) : Sc K CS (upd H D o) q sc := by
  obtain ⟨dx', vc, vk, va, vl, h2, a1, a2, a3, a4⟩ := g.ex
  exact ⟨⟨dx', vc, vk, va, vl, by rw [upd_ne (ne_of h2 hD (by intro z; cases z))]; exact h2, nm_updT hD a1, nm_updT hD a2, nm_updT hD a3, nm_updT hD a4⟩, g.few⟩
theorem lineM_ok (rows : List Str) (n d : Nat) (ws : List Str) : ∃ b n', lineM rows n d ws = .ok (b, n') := by
  unfold lineM
  split
  · exact ⟨_, _, rfl⟩
  · exact ⟨_, _, rfl⟩
theorem putK_len_le {κ : Type} [DecidableEq κ] (kvs : List (κ × V)) (k : κ) (v : V) : (putK kvs k v).length ≤ kvs.length + 1 := by
  unfold putK
  split
  · rw [List.length_map]
    omega
  · rw [List.length_append]
    exact Nat.le_refl _
theorem scReadHandlers : FnScope ["lines", "worths", "cells", "asks", "names", "found", "at", "scope", "word"] ["lines", "worths", "cells", "asks"] (defScope sReadHandlers) := ⟨rfl, rfl, rfl, by decide +kernel, rfl, by decide +kernel, by decide +kernel⟩
theorem ok_read_handlers {f : Addr} {fd : FuncData} (F : Fun K "read_handlers" "read_handlers" sReadHandlers f fd) (L : LX P w K mg base C CB) (S : SX K CS) (T : TN K mg) (M : TM mg) (SM : SMk P w K mg base CS) (RL : LN P w K mg base C CB) (B1 : BLK P w K mg base C CB CS) : FnOk P w K mg base (L2.CX P w) 17 f fd ["lines", "worths", "cells", "asks"] (spHandlers K C CB) := by
  refine F.okX scReadHandlers (fun vs H Q E h => ?_) (fun cdv A outer s H vs Q E hr h => ?_)
  · obtain ⟨p, a, rows, n, N, cv, cells, asks, rfl, _⟩ := h
    rfl
  · obtain ⟨p, a, rows, n, N, cv, cells, asks, rfl, hL, hN, hC, hA, hAl, hAs, k⟩ := h
    obtain ⟨f1, d1, m1, k1, b1, G1⟩ := RL
    obtain ⟨f3, d3, ds3, m3, k3, b3, v3, G3⟩ := B1
    obtain ⟨fC, dC, eT, mv1, mv2, MC, GC, hE, kb1, kb2⟩ := SM.ex
    obtain ⟨tO, gO⟩ := M.gAO
    have hr2 : Room 2 _ := hr.mono (by omega)
    refine ⟨_, pss_cons (ps_set (i := 4) scReadHandlers.nd rfl (Or.inl rfl) (pe_callTy call_list_of (by rfl) M.list (by decide +kernel) (pa_cons (pv 3) pa_nil)))
      (pss_cons (ps_set (i := 5) scReadHandlers.nd rfl (Or.inl rfl) pe_dnewT)
      (pss_cons (ps_for (passes_of rfl) rfl (pi_range1 rfl M.range (pa_cons (pe_callB call_len_seq (by rfl) T.len PySem.boot_len (pa_cons (pv 4) pa_nil)) pa_nil)) (pg_name (i := 6) scReadHandlers.nd rfl (Or.inl rfl)) (pss_cons (ps_set (i := 7) scReadHandlers.nd rfl (Or.inl rfl) (pe_makeK MC GC hr2 rfl SM.gS kb2 pass0 (pa_cons (pv 1) (pa_cons (pv 2) (pa_cons (pe_tup (pa_cons pe_str (pa_cons pe_str pa_nil))) (pa_cons (pv 3) pa_nil)))) (pk_cons (pe_slice sl_list (pv 4) (po_some (pe_op op_add (pv 6) pe_int)) po_none) (pk_cons (pe_glob (v := .int 1) rfl gO ⟨_, rfl⟩) pk_nil))))
      (pss_one (ps_for (passes_of rfl) rfl (pi_tup (pe_tup (pa_cons pe_str (pa_cons pe_str pa_nil)))) (pg_name (i := 8) scReadHandlers.nd rfl (Or.inl rfl)) (pss_one (ps_if (pt_val (pe_call G1 hr2 rfl m1 k1 b1 .nil (pas (takes_of rfl rfl rfl rfl)) (pa_cons (pv 0) (pa_cons pe_int (pa_cons (pe_lst (pa_cons (pv 8) (pa_cons (pe_ix ix_list (pv 4) (pv 6) (fun _ _ => rfl)) pa_nil))) pa_nil))))) (pss_one (ps_dput (hu_of hr) (pv 5) (pe_tup (pa_cons (pv 8) (pa_cons (pe_ix ix_list (pv 4) (pv 6) (fun _ _ => rfl)) pa_nil))) (pe_ix ix_tup (pe_call G3 hr rfl m3 k3 b3 v3 (pas (takes_of rfl rfl rfl rfl)) (pa_cons (pv 0) (pa_cons (pv 7) (pa_cons pe_int pa_nil)))) pe_int (fun _ _ => rfl)) rfl)) pss_nil))))))
      (pss_one (ps_ret (pv 5))))), ?_⟩
    refine ⟨_, rfl, a, _, rfl, .inl hA, fun ln hln => ?_⟩
    intro D hD
    have sA := Same.new (o := .lst (asks.map V.str)) hln
    have hln1 : (upd H ln (.lst (asks.map V.str))) ln = some (.lst (asks.map V.str)) := upd_same
    generalize hHA : upd H ln (.lst (asks.map V.str)) = HA at sA hln1 hD
    have lA := hL.same sA
    have hpD : D ≠ p := fun z => by
      obtain ⟨_, _, dx3, r3, hp3, _⟩ := id lA
      rw [z, hp3] at hD
      cases hD
    have kA : Outs C CB p rows HA Q E (handlersM rows N cells asks n) fun _ _ _ => True := outs_of k (Kp.of sA) (fun _ e => e) (fun a n' e H' v k1 l1 r1 => outs_ok k e ((Kp.of sA).trans k1) l1 r1)
    have hCA := nm_kp hL (Kp.of sA) hC
    have hAA := sA.seq hA
    have hlnD : (upd HA D (.dT [])) ln = some (.lst (asks.map V.str)) := by
      rw [upd_ne (ne_of_none hln1 hD)]
      exact hln1
    refine ⟨_, rfl, ln, _, rfl, .inl (SqL.of hlnD), _, rfl, by omega, by rw [List.length_map]; omega, ?_⟩
    rw [show ((((asks.map V.str).length : Nat) : Int).toNat) = asks.length from by simp]
    refine for_range (lo := 0) (n := asks.length) (fun i σ H' => HInv C D ln p a HA rows N cv cells asks n i σ H') ?_ ?_ ?_
    · exact ⟨n, [], none, none, none, rfl, Kp.upd_new lA (Kp.refl p HA) hD, lA.upd_new (Kp.refl p HA) lA hD, upd_same, Nat.zero_le _, rfl⟩
    · rintro i σ H1 hi ⟨n1, kvs, vb, vc, vd, rfl, kk1, l1, hD1, hkl, hloop⟩
      have hln2 := kk1.ne ln _ (by
        obtain ⟨_, _, dx3, r3, hp3, _⟩ := id lA
        exact ne_of hln1 hp3 (by intro z; cases z)) hln1
      have hl2 : handsLoop rows N cells asks (asks.length - i) i n1 = (match handWords rows (scHand N cells asks i) (asks.getD i "") ["answer", "refused"] n1 with
        | .error l => .error l
        | .ok r => handsLoop rows N cells asks (asks.length - (i + 1)) (i + 1) r.2) := by
        rw [show asks.length - i = (asks.length - (i + 1)) + 1 from by omega]
        rfl
      rw [show (0 : Int) + ((i : Nat) : Int) = ((i : Nat) : Int) from Int.zero_add _]
      refine ⟨_, rfl, _, rfl, (by show 2 ≤ sizeLine; decide), fun t1 ht1 => ⟨_, rfl, ?_⟩⟩
      have s1 := Same.new (o := .tup [V.str "it", V.str "asked"]) ht1
      have ht11 : (upd H1 t1 (.tup [V.str "it", V.str "asked"])) t1 = some (.tup [V.str "it", V.str "asked"]) := upd_same
      generalize hH2 : upd H1 t1 (.tup [V.str "it", V.str "asked"]) = H2 at s1 ht11
      refine ⟨_, rfl, _, rfl, _, _, rfl, rfl, _, rfl, ln, _, rfl, SqL.of (s1 _ _ hln2), fun t2 ht2 => ?_⟩
      have s2 := Same.new (o := .lst (cutV (asks.map V.str) (some (((i : Nat) : Int) + 1)) none)) ht2
      have ht22 : (upd H2 t2 (.lst (cutV (asks.map V.str) (some (((i : Nat) : Int) + 1)) none))) t2 = some (.lst ((asks.drop (i + 1)).map V.str)) := by
        rw [upd_same, show (((i : Nat) : Int) + 1) = ((i + 1 : Nat) : Int) from rfl, cut_from asks _ (by omega)]
      generalize hH3 : upd H2 t2 (.lst (cutV (asks.map V.str) (some (((i : Nat) : Int) + 1)) none)) = H3 at s2 ht22
      refine ⟨rfl, rfl, fun x dx hx hdx hxd => ?_⟩
      refine ⟨x, dx, scHand N cells asks i, cv, .ref t1, .ref a, .ref t2, rfl, upd_same, rfl, ?_⟩
      obtain ⟨sM, hM⟩ := made_sc (CS := CS) (fs := scf (scHand N cells asks i) cv (.ref t1) (.ref a) (.ref t2)) hx hdx
      generalize hHM : upd (upd (upd H3 dx (.own x)) x (.ins CS dx [])) x (.ins CS dx (scf (scHand N cells asks i) cv (.ref t1) (.ref a) (.ref t2))) = HM at sM hM
      have s03 : Same H1 HM := s1.trans (s2.trans sM)
      have lM := l1.same s03
      have kkM := kk1.trans (Kp.of s03)
      have hS : Sc K CS HM x (scHand N cells asks i) := ⟨⟨dx, cv, .ref t1, .ref a, .ref t2, hM, nm_kp lA kkM hCA, ⟨t1, rfl, .inr (.inr (SqT.of (sM _ _ (s2 _ _ ht11))))⟩, ⟨a, rfl, .inr (.inl (sql_kp lA kkM hAA))⟩, ⟨t2, rfl, .inr (.inl (SqL.of (sM _ _ ht22)))⟩⟩, hN⟩
      have hlnM := s03 _ _ hln2
      have hDM := s03 _ _ hD1
      have hgi : asks.getD i "" ∈ asks := getS_mem hi
      generalize hsc : scHand N cells asks i = sc at hS hl2
      generalize hnm : asks.getD i "" = name at hl2 hgi
      have hni : (asks.map V.str)[i]? = some (V.str name) := by rw [getS hi, hnm]
      have errs : ∀ l, handWords rows sc name ["answer", "refused"] n1 = .error l → handlersM rows N cells asks n = .error l := fun l e => by
        rw [hloop, hl2, e]
      refine ⟨(by show 2 ≤ sizeLine; decide), fun t3 ht3 => ⟨t3, rfl, ⟨_, SqT.of upd_same⟩, ?_⟩⟩
      have s4 := Same.new (o := .tup [V.str "answer", V.str "refused"]) ht3
      have ht33 : (upd HM t3 (.tup [V.str "answer", V.str "refused"])) t3 = some (.tup [V.str "answer", V.str "refused"]) := upd_same
      generalize hH4 : upd HM t3 (.tup [V.str "answer", V.str "refused"]) = H4 at s4 ht33
      have kk4 := kkM.trans (Kp.of s4)
      have l4 := lM.same s4
      have hS4 := Sc.kp lM (Kp.of s4) hS
      have hln4 := s4 _ _ hlnM
      have hD4 := s4 _ _ hDM
      refine for_tup (K := K) (a := t3) (xs := (["answer", "refused"] : List Str).map V.str) (fun j σ H' => Sc K CS H' x sc ∧ t3 ≠ D ∧ ln ≠ D ∧ x ≠ D ∧ x ≠ p ∧ WInv C D ln p a x HA rows N cv asks sc name n1 i j σ H' ∧ (∀ b o, b ≠ D → b ≠ p → H4 b = some o → H' b = some o)) ?_ ?_ ?_ ?_
      · exact ⟨hS4, ne_of ht33 hD4 (by intro z; cases z), ne_of hln4 hD4 (by intro z; cases z), ne_of (s4 _ _ hM) hD4 (by intro z; cases z), l4.ne hS4, ⟨n1, kvs, _, rfl, kk4, l4, hD4, by omega, rfl⟩, fun _ _ _ _ h => h⟩
      · rintro j σ H' hj ⟨kk, q1, q2, q3, q4, ww, keep⟩
        exact SqT.of (keep t3 _ q1 (by
          obtain ⟨_, _, dx3, r3, hp3, _⟩ := id l4
          exact ne_of ht33 hp3 (by intro z; cases z)) ht33)
      · rintro j wv σ H5 hj ⟨kk, q1, q2, q3, q4, ⟨n5, kvs5, vd5, rfl, kk5, l5, hD5, hkl5, hw5⟩, keep⟩
        obtain ⟨y, hy, rfl⟩ : ∃ y, (["answer", "refused"] : List Str)[j]? = some y ∧ wv = V.str y := by
          rw [List.getElem?_map] at hj
          cases e : (["answer", "refused"] : List Str)[j]? with
          | none =>
            rw [e] at hj
            cases hj
          | some y =>
            rw [e] at hj
            exact ⟨y, rfl, (Option.some.inj hj).symm⟩
        have hjl : j < 2 := (List.getElem?_eq_some_iff.mp hy).1
        have hdrop : (["answer", "refused"] : List Str).drop j = y :: (["answer", "refused"] : List Str).drop (j + 1) := by
          rw [List.drop_eq_getElem_cons hjl]
          congr 1
          exact (List.getElem?_eq_some_iff.mp hy).2
        have hyok : PyData.strOk y = true := by
          have hm := List.mem_of_getElem? hy
          exact (by decide +kernel : ∀ z ∈ (["answer", "refused"] : List Str), PyData.strOk z = true) y hm
        have hlnp : ln ≠ p := by
          obtain ⟨_, _, dx3, r3, hp3, _⟩ := id l4
          exact ne_of hln4 hp3 (by intro z; cases z)
        have hln5 := keep ln _ q2 hlnp hln4
        have hS5 := kk
        rw [hdrop] at hw5
        obtain ⟨b6, n6, e6⟩ := lineM_ok rows n5 1 [y, name]
        have hw6 : handWords rows sc name ["answer", "refused"] n1 = if b6 = true then (match blk0 sc rows n6 with
            | .error l => .error l
            | .ok b => handWords rows sc name ((["answer", "refused"] : List Str).drop (j + 1)) b.2) else handWords rows sc name ((["answer", "refused"] : List Str).drop (j + 1)) n6 := by
          rw [hw5]
          show (match lineM rows n5 1 [y, name] with | .error l => _ | .ok r => _) = _
          rw [e6]
        refine ⟨_, rfl, _, rfl, _, rfl, _, rfl, ln, _, _, _, rfl, rfl, SqL.of hln5, atI_nat (j := i) hni, (by show 2 ≤ sizeLine; decide), fun t6 ht6 => ?_⟩
        have s6 := Same.new (o := .lst [V.str y, V.str name]) ht6
        have ht66 : (upd H5 t6 (.lst [V.str y, V.str name])) t6 = some (.lst [V.str y, V.str name]) := upd_same
        generalize hH6 : upd H5 t6 (.lst [V.str y, V.str name]) = H6 at s6 ht66
        have l6 := l5.same s6
        have kk6 := kk5.trans (Kp.of s6)
        refine ⟨p, t6, rows, n5, 1, [y, name], rfl, l6, by omega, SqL.of ht66, (fun z hz => by
          rcases List.mem_cons.mp hz with rfl | hz
          · exact hyok
          · rw [List.mem_singleton.mp hz]
            exact hAs _ hgi), by simp, ?_⟩
        rw [e6]
        refine fun H7 v7 kk7 l7 rep => ?_
        subst rep
        have kk67 := kk6.trans kk7
        have hD7 := kk7.ne D _ hpD (s6 _ _ hD5)
        have kk57 := (Kp.of s6).trans kk7
        refine ⟨_, rfl, ?_⟩
        refine ite2 (fun c => ?_) (fun c => ?_)
        · rw [if_pos c] at hw6
          refine ⟨_, rfl, _, rfl, p, x, rows, n6, sc, 2, 0, 0, rfl, l7, Sc.kp l5 kk57 hS5, by omega, by omega, (fun z => by cases z), ?_⟩
          refine outs_of kA kk67 (fun l eb => errs l (by rw [hw6, show blk0 sc rows n6 = .error l from eb])) fun made n8 eb H8 v8 kk8 l8 rep => ?_
          rw [show blk0 sc rows n6 = .ok (made, n8) from eb] at hw6
          obtain ⟨tt, y8, rfl, ht8⟩ := rep
          have hD8 := kk8.ne D _ hpD hD7
          have kk58 := kk57.trans kk8
          have kk68 := kk67.trans kk8
          have hln8 := kk58.ne ln _ hlnp hln5
          refine ⟨tt, _, _, _, rfl, rfl, SqT.of ht8, atI_nat (j := 0) rfl, _, rfl, _, rfl, _, rfl, _, rfl, ln, _, _, _, rfl, rfl, SqL.of hln8, atI_nat (j := i) hni, (by show 2 ≤ sizeLine; decide), fun t9 ht9 => ?_⟩
          have s9 := Same.new (o := .tup [V.str y, V.str name]) ht9
          have ht99 : (upd H8 t9 (.tup [V.str y, V.str name])) t9 = some (.tup [V.str y, V.str name]) := upd_same
          generalize hH9 : upd H8 t9 (.tup [V.str y, V.str name]) = H9 at s9 ht99
          have kk9 := kk68.trans (Kp.of s9)
          have hD9 := s9 _ _ hD8
          have kk59 := kk58.trans (Kp.of s9)
          refine ⟨D, _, rfl, DPut.t (k := [Sum.inr y, Sum.inr name]) hD9 ht99 (by rw [sizeLine_eq]; omega), ?_⟩
          refine ⟨sc_updT hD9 (Sc.kp l5 kk59 hS5), q1, q2, q3, q4, ⟨n8, _, _, rfl, Kp.upd_new lA kk9 hD, lA.upd_new kk9 (l8.same s9) hD, upd_same, ?_, hw6⟩, fun b o hb hbp e => by rw [upd_ne hb]; exact kk59.ne b o hbp (keep b o hb hbp e)⟩
          · have := putK_len_le kvs5 [Sum.inr y, Sum.inr name] y8
            omega
        · rw [if_neg c] at hw6
          exact ⟨Sc.kp l5 kk57 hS5, q1, q2, q3, q4, ⟨n6, kvs5, _, rfl, kk67, l7, hD7, by omega, hw6⟩, fun b o hb hbp e => kk57.ne b o hbp (keep b o hb hbp e)⟩
      · rintro σ H5 ⟨kk, q1, q2, q3, q4, ⟨n5, kvs5, vd5, rfl, kk5, l5, hD5, hkl5, hw5⟩, keep⟩
        refine ⟨n5, kvs5, _, _, _, rfl, kk5, l5, hD5, ?_, ?_⟩
        · rw [List.length_map] at hkl5
          have : (["answer", "refused"] : List Str).length = 2 := rfl
          omega
        · rw [hloop, hl2, hw5]
          rfl
    · rintro σ H1 ⟨n1, kvs, vb, vc, vd, rfl, kk1, l1, hD1, hkl, hloop⟩
      refine ⟨_, rfl, outs_ok kA (a := ()) (n := n1) (hloop.trans ?_) kk1 l1 trivial⟩
      rw [Nat.sub_self]
      rfl
end
end K6

/-! text TI -/
set_option Elab.async false
set_option linter.all false
set_option maxRecDepth 100000
set_option maxHeartbeats 4000000
namespace TuI
open PySem PySem.Spec PyProof.Rows PySem.W
section
variable {prog : Program} {w : World} {A : Around} {E : Value → Shared → Prop} {s : Shared} {r d : Addr} {es : Array DictEntry} {ep : Nat}
theorem code_tuple_new_items {Q₁ : Value → Shared → Prop} (hh : A.handled = none) (hv : s.heap.IsItemsView r d) (hm : s.heap.DictRaw d es ep) (hn : es.size ≤ sizeLine)
    (h : ∀ (h' : Heap) (tk : Nat) (as : List Addr), (∀ b o, s.heap.get? b = some o → h'.get? b = some o) → Q₁ (.ref h'.objs.size) { s with heap := h'.push { cls := .type "tuple", data := .seq (as.map Value.ref).toArray }, toks := tk }) :
    codeAny (model prog w) A (.call (.builtin "tuple.__new__") ⟨[.type "tuple", .ref r], []⟩) (wants Q₁ E) s := by
  refine codeAny_of_tree ?_
  show wpAny _ A.in1 (do checkBuiltinCall "tuple.__new__" ⟨[.type "tuple", .ref r], []⟩; again (.builtin "tuple.__new__" ⟨[.type "tuple", .ref r], []⟩)) _ _ s
  refine wpAny_bind (wpAny_of_eq (F.newCall_tuple_1 _) (wpAny_pure ⟨plainId_quiet F.plain_tuple_new _, codeAny_builtin F.entry_tuple_new ?_⟩))
  rw [Around.under_plainId F.plain_tuple_new _]
  have hsub := sub_tuple_self
  have hinit := init_tuple_lookup
  have hmh := madeHere_tuple
  have hTI : s.TypeIs (.ref r) "dict_items" := by
    obtain ⟨o, ho, hc, _⟩ := hv
    exact ⟨o, ho, hc⟩
  have hh1 : A.in1.handled = none := hh
  wp_walk using wpAny_typeOf hTI, dil_collect (A := A.in1) hh1 hv hm hn
  intro h' tk as hk hlen hG
  show wpAny _ _ (Builtin.Tuple.tupleExact (as.map Value.ref).toArray >>= fun v => ret v) _ _ _
  unfold Builtin.Tuple.tupleExact
  refine wpAny_bind (wpAny_newObj_type ?_ (by show (as.map Value.ref).toArray.size ≤ sizeLine; rw [List.size_toArray, List.length_map, hlen]; exact hn))
  refine wpAny_pure ?_
  exact h h' tk as hk
theorem call_tuple_items {Q : Value → Shared → Prop} (hh : A.handled = none) (hv : s.heap.IsItemsView r d) (hm : s.heap.DictRaw d es ep) (hn : es.size ≤ sizeLine)
    (hQ : ∀ (h' : Heap) (tk : Nat) (as : List Addr), (∀ b o, s.heap.get? b = some o → h'.get? b = some o) → Q (.ref h'.objs.size) { s with heap := h'.push { cls := .type "tuple", data := .seq (as.map Value.ref).toArray }, toks := tk }) :
    wpAny (model prog w) A (call (.type "tuple") [.ref r]) Q E s := by
  refine callType_codes (Q₁ := fun obj s₁ => s₁.TypeIs obj "tuple" ∧ Q obj s₁) F.called_tuple (F.typeCall_tuple_1 _) F.entry_object_init
    (code_tuple_new_items (A := A.in1) hh hv hm hn fun h' tk as hk => ⟨⟨_, Heap.get?_push_size _ rfl, rfl⟩, hQ h' tk as hk⟩) fun obj s₁ h₁ => ?_
  exact ⟨h₁.1, F.args_object_init_2 obj _, object_init_meets F.called_tuple.init.lookup F.called_tuple.made (by decide) prog w A.in1 _ s₁ ⟨h₁.1, rfl, h₁.2⟩⟩
end
end TuI
namespace L2
open PySem PySem.Spec PyProof.Rows
/-- tuple(d.items()): nothing is told of the new tuple -/
def tTupItems (te : TE) : TE := fun σ H Q => te σ H fun x H1 => ∃ (d : Addr) (kvs : List (Key × V)), x = .ref d ∧ H1 d = some (.dK kvs) ∧ ∀ p, H1 p = none → Q (.ref p) H1
section
variable {X : Cx} {e : Expr} {te : TE} {p apos cpos pos : Pos}
theorem pe_tupItems (hc : X.calm = true) (he : PE X e te) (hg : Gl X "tuple") (hm : X.mg "tuple" = none) (hv : bootBuiltins "tuple" = some (.type "tuple")) (hbase : attributeBase e "items" X.env (eval e X.env) = eval e X.env := by rfl) (hline : (apos.endLine == cpos.line) = true := by rfl)
    (hs : starEach [.Call (.Attribute e "items" apos) [] [] cpos] X.env = (false, eval (.Call (.Attribute e "items" apos) [] [] cpos) X.env) :: starEach [] X.env := by rfl) :
    PE X (.Call (.Name "tuple" p) [.Call (.Attribute e "items" apos) [] [] cpos] [] pos) (tTupItems te) := by
  refine ⟨fun pins s σ H Q I hq => ?_⟩
  refine wpAny_Call_Name_kw (ld_blt I hg hm hv ?_)
  refine PyProof.Rows.callWith_type1 ?_ hs rfl
  rw [hs]
  show wpAny _ _ (spliced ((false, eval (.Call (.Attribute e "items" apos) [] [] cpos) X.env) :: backTo pos (starEach [] X.env))) _ _ s
  refine Calls.spliced_cons ?_
  refine wpAny_Call_method (T := "dict") (id := "dict.items") hbase rfl hline F.plainAttrs_dict F.slot_dict_items F.type_dict_items (thn (he.run pins s σ H _ I hq) fun u s1 ⟨x, H1, I1, rx, d, kvs, ex, hd, q⟩ => ?_)
  subst ex
  obtain rfl : u = Value.ref d := rx
  obtain ⟨hz, hs0, vs, kv, hdo⟩ := I1.hok d _ hd
  obtain ⟨ep, hat⟩ := hdo.dictAt
  have lk : kvs.length = vs.length := Paired.length kv
  have I2 : Inv X pins σ H1 { s1 with heap := s1.heap.push { cls := .type "dict_items", data := .fields #[.ref d] } } := I1.kept (t' := s1.toks) fun b ob q => Heap.get?_push_of_some _ q
  refine ⟨hdo.typeIs, hdo.mapOf.noDict, ?_⟩
  show wpAny _ _ (callWith cpos (.builtin "dict.items") [.ref d] [] []) _ X.xe s1
  refine method_meetsIn F.slot_dict_items F.entry_dict_items rfl (PySem.evalArgs_none ⟨rfl, hdo.typeIs, F.args_dict_items_1 _, _, meets_dict_items (mixKind X.prog X.w) d hs0, ⟨vs, hdo⟩, ?_⟩)
  refine Calls.spliced_nil ?_
  obtain ⟨es, hraw, hes, _⟩ := Heap.DictAt.raw (hat.push { cls := .type "dict_items", data := .fields #[.ref d] })
  refine TuI.call_tuple_items (I1.ok.hd hc) ⟨_, Heap.get?_push_size _ rfl, rfl, rfl⟩ hraw (by omega) fun h' tk as hk => ?_
  have I3 : Inv X pins σ H1 { s1 with heap := h', toks := tk } := I2.kept (t' := tk) hk
  have I4 : Inv X pins σ H1 { s1 with heap := h'.push { cls := .type "tuple", data := .seq (as.map Value.ref).toArray }, toks := tk } := I3.kept (t' := tk) fun b ob q => Heap.get?_push_of_some _ q
  exact ⟨.ref h'.objs.size, H1, I4, rfl, q _ (I3.hok.fresh (Nat.le_refl _))⟩
end
end L2

/-! text L18x -/
set_option Elab.async false
set_option linter.all false
set_option maxRecDepth 100000
set_option maxHeartbeats 4000000
namespace L2
open PySem PySem.Spec PyProof.Rows
/-- o.f = .., a target among others -/
def gFld (K : PySem.W.Frag) (to : TE) (f : Str) : TG := fun v σ H Q => to σ H fun x H2 => ∃ a C dx fs, x = .ref a ∧ H2 a = some (.ins C dx fs) ∧ Cls K C ∧ NoAttr K C f ∧ fs.length < 1000 ∧ Q σ (upd H2 a (.ins C dx (putF f v fs)))
theorem pg_fld {X : Cx} {o : Expr} {to : TE} {f : Str} {pos : Pos} (ho : PE X o to) : PG X (.Attribute o f pos) (gFld X.K to f) := by
  refine ⟨fun pins s σ H v u Q I r h => ?_⟩
  rw [assign_Attribute]
  refine wpAny_bind (wpAny_holding (thn (ho.run pins s σ H _ I h) fun ov s1 ⟨x, H1, I1, r1, a, C, dx, fs, ex, ea, c, n, l, q⟩ => ?_))
  subst ex
  obtain rfl : ov = Value.ref a := r1
  refine wpAny_bind (wpAny_standAt (wpAny_bind (wpAny_holding (setattr_ok I1 ea c n l r fun s3 I3 => ?_))))
  exact wpAny_release ⟨σ, _, I3, q⟩
end L2
namespace K6
open PySem PySem.Spec PyProof.Rows L2
local macro_rules | `(tactic| walk_at "lk") => `(tactic| (repeat (first | with_reducible exact lk_hd _ _ _ | with_reducible exact lk_nil _ | refine lk_tl (by decide +kernel) ?_)))
abbrev sReadScreen : Stmt := top 43
def scDeed (N : Nat) (cells asks : List Str) : ScM := ⟨N, cells, ["it"], asks, false, asks, 2⟩
def scOver (N : Nat) (cells asks : List Str) : ScM := ⟨N, cells, [], asks, false, asks, 1⟩
def screenM (rows : List Str) (N : Nat) (cells asks : List Str) (n : Nat) : Rd' (List Str) := match deedsM rows (scDeed N cells asks) n with
  | .error l => .error l
  | .ok r => match handlersM rows N cells asks r.2 with
    | .error l => .error l
    | .ok r2 => match lineM rows r2.2 1 ["over"] with
      | .error l => .error l
      | .ok r3 => if r3.1 = true then (match blk0 (scOver N cells asks) rows r3.2 with
        | .error l => .error l
        | .ok b => .ok (r.1, b.2)) else .ok (r.1, r3.2)
/-- all but instances stays -/
def Tr (H H' : Hp) : Prop := ∀ b o, (∀ C dx fs, o ≠ HO.ins C dx fs) → H b = some o → H' b = some o
theorem Tr.trans {H H1 H2 : Hp} (a : Tr H H1) (b : Tr H1 H2) : Tr H H2 := fun c o n h => b c o n (a c o n h)
theorem Tr.of {H H' : Hp} (s : Same H H') : Tr H H' := fun b o _ h => s b o h
theorem Tr.kp {C p : Addr} {H H' : Hp} {rows : List Str} {n : Nat} (hL : Lns C H p rows n) (k : Kp p H H') : Tr H H' := fun b o hn h => by
  obtain ⟨_, _, dx, r, h1, _⟩ := hL
  exact k.ne b o (fun z => by
    rw [z, h1] at h
    exact hn _ _ _ (Option.some.inj h).symm) h
theorem Tr.fld {C dx s : Addr} {H : Hp} {fs : List (Str × V)} {o' : HO} (h1 : H s = some (.ins C dx fs)) : Tr H (upd H s o') := fun b o hn h => by
  rw [upd_ne (fun z => by
    rw [z, h1] at h
    exact hn _ _ _ (Option.some.inj h).symm)]
  exact h
theorem nm_tr {K : PySem.W.Frag} {H H' : Hp} {v : V} {ns : List Str} (k : Tr H H') (h : Nm K H v ns) : Nm K H' v ns := by
  obtain ⟨a, e, h⟩ := h
  refine ⟨a, e, ?_⟩
  rcases h with ⟨kvs, h, e2⟩ | ((h | ⟨u, h⟩) | h) | ((h | ⟨u, h⟩) | h)
  · exact .inl ⟨kvs, k _ _ (by intro _ _ _ z; cases z) h, e2⟩
  · exact .inr (.inl (.inl (.inl (k _ _ (by intro _ _ _ z; cases z) h))))
  · exact .inr (.inl (.inl (.inr ⟨u, k _ _ (by intro _ _ _ z; cases z) h⟩)))
  · exact .inr (.inl (.inr h))
  · exact .inr (.inr (.inl (.inl (k _ _ (by intro _ _ _ z; cases z) h))))
  · exact .inr (.inr (.inl (.inr ⟨u, k _ _ (by intro _ _ _ z; cases z) h⟩)))
  · exact .inr (.inr (.inr h))
theorem sql_tr {K : PySem.W.Frag} {H H' : Hp} {a : Addr} {xs : List V} (k : Tr H H') (h : SqL K H a xs) : SqL K H' a xs := by
  rcases h with (h | ⟨u, h⟩) | h
  · exact .inl (.inl (k _ _ (by intro _ _ _ z; cases z) h))
  · exact .inl (.inr ⟨u, k _ _ (by intro _ _ _ z; cases z) h⟩)
  · exact .inr h
theorem RepK.tr {H H' : Hp} {ns : List Str} {v : V} (k : Tr H H') (h : RepK ns v H) : RepK ns v H' := by
  obtain ⟨a, kvs, e1, e2, e3⟩ := h
  exact ⟨a, kvs, e1, k _ _ (by intro _ _ _ z; cases z) e2, e3⟩
theorem RepD.tr {H H' : Hp} {ns : List Str} {v : V} (k : Tr H H') (h : RepD ns v H) : RepD ns v H' := by
  obtain ⟨a, kvs, e1, e2, e3, e4⟩ := h
  exact ⟨a, kvs, e1, k _ _ (by intro _ _ _ z; cases z) e2, e3, fun kv hkv => by
    obtain ⟨t, x, y, f1, f2⟩ := e4 kv hkv
    exact ⟨t, x, y, f1, k _ _ (by intro _ _ _ z; cases z) f2⟩⟩
def RepS (ds : List Str) (v : V) (H : Hp) : Prop := ∃ (t : Addr) (dv y z : V), v = .ref t ∧ H t = some (.tup [dv, y, z]) ∧ RepD ds dv H
section
variable {P : Program} {w : World} {K : PySem.W.Frag} {mg : Str → Option Value} {base : Heap} {C CB CS fB : Addr}
def spScreen (K : PySem.W.Frag) (C CB : Addr) : Sp := fun vs H Q E => ∃ (p a : Addr) (rows : List Str) (n N : Nat) (cv : V) (cells asks : List Str), vs = [.ref p, .int N, cv, .ref a] ∧ Lns C H p rows n ∧ N ≤ 4 ∧ Nm K H cv cells ∧ SqL K H a (asks.map V.str) ∧ asks.length ≤ 10 ∧ (∀ x ∈ asks, PyData.strOk x = true) ∧
  Outs C CB p rows H Q E (screenM rows N cells asks n) RepS
theorem scReadScreen : FnScope ["lines", "worths", "cells", "asks", "scope", "deeds", "handlers", "over"] ["lines", "worths", "cells", "asks"] (defScope sReadScreen) := ⟨rfl, rfl, rfl, by decide +kernel, rfl, by decide +kernel, by decide +kernel⟩
theorem ok_read_screen {f : Addr} {fd : FuncData} (F : Fun K "read_screen_handlers" "read_screen_handlers" sReadScreen f fd) (L : LX P w K mg base C CB) (S : SX K CS) (M : TM mg) (SM : SMk P w K mg base CS) (RL : LN P w K mg base C CB) (B1 : BLK P w K mg base C CB CS)
    (D1 : FnAt P w K mg base (L2.CX P w) 17 "read_deeds" ["lines", "scope"] (spDeeds K C CB CS)) (H1 : FnAt P w K mg base (L2.CX P w) 17 "read_handlers" ["lines", "worths", "cells", "asks"] (spHandlers K C CB)) :
    FnOk P w K mg base (L2.CX P w) 18 f fd ["lines", "worths", "cells", "asks"] (spScreen K C CB) := by
  refine F.okX scReadScreen (fun vs H Q E h => ?_) (fun cdv A outer s H vs Q E hr h => ?_)
  · obtain ⟨p, a, rows, n, N, cv, cells, asks, rfl, _⟩ := h
    rfl
  · obtain ⟨p, a, rows, n, N, cv, cells, asks, rfl, hL, hN, hC, hA, hAl, hAs, k⟩ := h
    obtain ⟨f1, d1, m1, k1, b1, G1⟩ := RL
    obtain ⟨f3, d3, ds3, m3, k3, b3, v3, G3⟩ := B1
    obtain ⟨f4, d4, m4, k4, b4, G4⟩ := D1
    obtain ⟨f5, d5, m5, k5, b5, G5⟩ := H1
    obtain ⟨fC, dC, eT, mv1, mv2, MC, GC, hE, kb1, kb2⟩ := SM.ex
    obtain ⟨tO, gO⟩ := M.gAO
    obtain ⟨tP, gP⟩ := M.gAD
    have hr2 : Room 2 _ := hr.mono (by omega)
    have hr16 : Room 16 _ := hr.mono (by omega)
    refine ⟨_, pss_cons (ps_set (i := 4) scReadScreen.nd rfl (Or.inl rfl) (pe_makeK MC GC hr2 rfl SM.gS kb2 pass0 (pa_cons (pv 1) (pa_cons (pv 2) (pa_cons (pe_tup (pa_cons pe_str pa_nil)) (pa_cons (pv 3) pa_nil)))) (pk_cons (pv 3) (pk_cons (pe_glob (v := .int 2) rfl gP ⟨_, rfl⟩) pk_nil))))
      (pss_cons (ps_set (i := 5) scReadScreen.nd rfl (Or.inl rfl) (pe_call G4 hr rfl m4 k4 b4 .nil (pas (takes_of rfl rfl rfl rfl)) (pa_cons (pv 0) (pa_cons (pv 4) pa_nil))))
      (pss_cons (ps_set (i := 6) scReadScreen.nd rfl (Or.inl rfl) (pe_call G5 hr rfl m5 k5 b5 .nil (pas (takes_of rfl rfl rfl rfl)) (pa_cons (pv 0) (pa_cons (pv 1) (pa_cons (pv 2) (pa_cons (pv 3) pa_nil))))))
      (pss_cons (ps_set (i := 7) scReadScreen.nd rfl (Or.inl rfl) (pe_tup pa_nil))
      (pss_cons (ps_if (pt_val (pe_call G1 hr2 rfl m1 k1 b1 .nil (pas (takes_of rfl rfl rfl rfl)) (pa_cons (pv 0) (pa_cons pe_int (pa_cons (pe_lst (pa_cons pe_str pa_nil)) pa_nil))))) (pss_cons (ps_set (i := 4) scReadScreen.nd rfl (Or.inl rfl) (pe_makeK MC GC hr2 rfl SM.gS kb2 pass0 (pa_cons (pv 1) (pa_cons (pv 2) (pa_cons (pe_tup pa_nil) (pa_cons (pv 3) pa_nil)))) (pk_cons (pv 3) (pk_cons (pe_glob (v := .int 1) rfl gO ⟨_, rfl⟩) pk_nil))))
      (pss_one (ps_set (i := 7) scReadScreen.nd rfl (Or.inl rfl) (pe_ix ix_tup (pe_call G3 hr16 rfl m3 k3 b3 v3 (pas (takes_of rfl rfl rfl rfl)) (pa_cons (pv 0) (pa_cons (pv 4) (pa_cons pe_int pa_nil)))) pe_int (fun _ _ => rfl))))) pss_nil)
      (pss_one (ps_ret (pe_tup (pa_cons (pv 5) (pa_cons (pv 6) (pa_cons (pv 7) pa_nil)))))))))), ?_⟩
    have hC1 := hC
    have hA1 := hA
    refine ⟨_, rfl, _, rfl, (by show 1 ≤ sizeLine; decide), fun t1 ht1 => ?_⟩
    have s1a := Same.new (o := .tup [V.str "it"]) ht1
    have ht1b : (upd H t1 (.tup [V.str "it"])) t1 = some (.tup [V.str "it"]) := upd_same
    generalize hHa1 : upd H t1 (.tup [V.str "it"]) = Ha1 at s1a ht1b
    refine ⟨_, rfl, _, rfl, rfl, rfl, fun x1 dx1 hx1 hdx1 hxd1 => ?_⟩
    refine ⟨x1, dx1, scDeed N cells asks, cv, .ref t1, .ref a, .ref a, rfl, upd_same, rfl, ?_⟩
    obtain ⟨sM1, hM1⟩ := made_sc (CS := CS) (fs := scf (scDeed N cells asks) cv (.ref t1) (.ref a) (.ref a)) hx1 hdx1
    generalize hHM1 : upd (upd (upd Ha1 dx1 (.own x1)) x1 (.ins CS dx1 [])) x1 (.ins CS dx1 (scf (scDeed N cells asks) cv (.ref t1) (.ref a) (.ref a))) = HM1 at sM1 hM1
    have so1 : Same H HM1 := s1a.trans sM1
    have lM1 := hL.same so1
    have hSc1 : Sc K CS HM1 x1 (scDeed N cells asks) := ⟨⟨dx1, cv, .ref t1, .ref a, .ref a, hM1, nm_tr (Tr.of so1) hC1, ⟨t1, rfl, .inr (.inr (SqT.of (sM1 _ _ ht1b)))⟩, ⟨a, rfl, .inr (.inl (so1.seq hA1))⟩, ⟨a, rfl, .inr (.inl (so1.seq hA1))⟩⟩, hN⟩
    have em : screenM rows N cells asks n = (match deedsM rows (scDeed N cells asks) n with
      | .error l => .error l
      | .ok r => match handlersM rows N cells asks r.2 with
        | .error l => .error l
        | .ok r2 => match lineM rows r2.2 1 ["over"] with
          | .error l => .error l
          | .ok r3 => if r3.1 = true then (match blk0 (scOver N cells asks) rows r3.2 with
            | .error l => .error l
            | .ok b => .ok (r.1, b.2)) else .ok (r.1, r3.2)) := rfl
    refine ⟨_, rfl, _, rfl, p, x1, rows, n, _, rfl, lM1, hSc1, ?_⟩
    refine outs_of k (Kp.of so1) (fun l e => by rw [em, e]) fun ds n2 e2 H2 v2 kk2 l2 rep2 => ?_
    rw [e2] at em
    have kk12 := (Kp.of so1).trans kk2
    have tr2 := Tr.kp lM1 kk2
    have hC2 := nm_tr ((Tr.of so1).trans tr2) hC
    have hA2 := sql_tr ((Tr.of so1).trans tr2) hA
    refine ⟨_, rfl, _, rfl, _, rfl, _, rfl, p, a, rows, n2, N, cv, cells, asks, rfl, l2, hN, hC2, hA2, hAl, hAs, ?_⟩
    refine outs_of k kk12 (fun l e => by rw [em]; show (match handlersM rows N cells asks n2 with | .error l => _ | .ok r2 => _) = _; rw [e]) fun u n3 e3 H3 v3' kk3 l3 rep3 => ?_
    have em : screenM rows N cells asks n = (match lineM rows n3 1 ["over"] with
          | .error l => .error l
          | .ok r3 => if r3.1 = true then (match blk0 (scOver N cells asks) rows r3.2 with
            | .error l => .error l
            | .ok b => .ok (ds, b.2)) else .ok (ds, r3.2)) := by
      rw [em]
      show (match handlersM rows N cells asks n2 with | .error l => _ | .ok r2 => _) = _
      rw [e3]
    have kk13 := kk12.trans kk3
    have tr3 := Tr.kp l2 kk3
    refine ⟨(by show 0 ≤ sizeLine; decide), fun t4 ht4 => ?_⟩
    have s4 := Same.new (o := .tup []) ht4
    generalize hH4 : upd H3 t4 (.tup []) = H4 at s4
    have l4 := l3.same s4
    have kk14 := kk13.trans (Kp.of s4)
    refine ⟨_, rfl, (by show 1 ≤ sizeLine; decide), fun t5 ht5 => ?_⟩
    have s5 := Same.new (o := .lst [V.str "over"]) ht5
    have ht55 : (upd H4 t5 (.lst [V.str "over"])) t5 = some (.lst [V.str "over"]) := upd_same
    generalize hH5 : upd H4 t5 (.lst [V.str "over"]) = H5 at s5 ht55
    have l5 := l4.same s5
    have kk15 := kk14.trans (Kp.of s5)
    obtain ⟨b6, n6, e6⟩ := lineM_ok rows n3 1 ["over"]
    rw [e6] at em
    refine ⟨p, t5, rows, n3, 1, ["over"], rfl, l5, by omega, SqL.of ht55, (fun z hz => by rw [List.mem_singleton.mp hz]; decide +kernel), by simp, ?_⟩
    rw [e6]
    refine fun H6 v6 kk6 l6 rep6 => ?_
    subst rep6
    have kk16 := kk15.trans kk6
    have tr26 : Tr H2 H6 := tr3.trans ((Tr.of (s4.trans s5)).trans (Tr.kp l5 kk6))
    have rep26 := RepD.tr tr26 rep2
    have hC6 := nm_tr tr26 hC2
    have hA6 := sql_tr tr26 hA2
    refine ⟨_, rfl, ?_⟩
    refine ite2 (fun c => ?_) (fun c => ?_)
    · have em : screenM rows N cells asks n = (match blk0 (scOver N cells asks) rows n6 with
            | .error l => .error l
            | .ok b => .ok (ds, b.2)) := by
        rw [em]
        show (if b6 = true then _ else _) = _
        rw [if_pos c]
      have hC7 := hC6
      have hA7 := hA6
      refine ⟨_, rfl, _, rfl, (by show 0 ≤ sizeLine; decide), fun t7 ht7 => ?_⟩
      have s7a := Same.new (o := .tup []) ht7
      have ht7b : (upd H6 t7 (.tup [])) t7 = some (.tup []) := upd_same
      generalize hHa7 : upd H6 t7 (.tup []) = Ha7 at s7a ht7b
      refine ⟨_, rfl, _, rfl, rfl, rfl, fun x7 dx7 hx7 hdx7 hxd7 => ?_⟩
      refine ⟨x7, dx7, scOver N cells asks, cv, .ref t7, .ref a, .ref a, rfl, upd_same, rfl, ?_⟩
      obtain ⟨sM7, hM7⟩ := made_sc (CS := CS) (fs := scf (scOver N cells asks) cv (.ref t7) (.ref a) (.ref a)) hx7 hdx7
      generalize hHM7 : upd (upd (upd Ha7 dx7 (.own x7)) x7 (.ins CS dx7 [])) x7 (.ins CS dx7 (scf (scOver N cells asks) cv (.ref t7) (.ref a) (.ref a))) = HM7 at sM7 hM7
      have so7 : Same H6 HM7 := s7a.trans sM7
      have lM7 := l6.same so7
      have hSc7 : Sc K CS HM7 x7 (scOver N cells asks) := ⟨⟨dx7, cv, .ref t7, .ref a, .ref a, hM7, nm_tr (Tr.of so7) hC7, ⟨t7, rfl, .inr (.inr (SqT.of (sM7 _ _ ht7b)))⟩, ⟨a, rfl, .inr (.inl (so7.seq hA7))⟩, ⟨a, rfl, .inr (.inl (so7.seq hA7))⟩⟩, hN⟩
      have kk17 := kk16.trans (Kp.of so7)
      refine ⟨_, rfl, _, rfl, p, x7, rows, n6, scOver N cells asks, 2, 0, 0, rfl, lM7, hSc7, by omega, by omega, (fun z => by cases z), ?_⟩
      refine outs_of k kk17 (fun l eb => by rw [em, show blk0 (scOver N cells asks) rows n6 = .error l from eb]) fun made n8 eb H8 v8 kk8 l8 rep8 => ?_
      rw [show blk0 (scOver N cells asks) rows n6 = .ok (made, n8) from eb] at em
      obtain ⟨tt, y8, rfl, ht8⟩ := rep8
      refine ⟨tt, _, _, _, rfl, rfl, SqT.of ht8, atI_nat (j := 0) rfl, ?_⟩
      refine ⟨_, rfl, _, rfl, _, rfl, (by show 3 ≤ sizeLine; decide), fun t9 ht9 => ?_⟩
      exact outs_ok k em (kk17.trans (kk8.trans (Kp.of (Same.new ht9)))) (l8.same (Same.new ht9)) ⟨t9, _, _, _, rfl, upd_same, RepD.tr ((Tr.of so7).trans ((Tr.kp lM7 kk8).trans (Tr.of (Same.new ht9)))) rep26⟩
    · have em : screenM rows N cells asks n = .ok (ds, n6) := by
        rw [em]
        show (if b6 = true then _ else _) = _
        rw [if_neg c]
      refine ⟨_, rfl, _, rfl, _, rfl, (by show 3 ≤ sizeLine; decide), fun t9 ht9 => ?_⟩
      exact outs_ok k em (kk16.trans (Kp.of (Same.new ht9))) (l6.same (Same.new ht9)) ⟨t9, _, _, _, rfl, upd_same, RepD.tr (Tr.of (Same.new ht9)) rep26⟩
end
end K6

/-! text M1 -/
set_option Elab.async false
set_option linter.all false
set_option maxRecDepth 100000
set_option maxHeartbeats 4000000
namespace K6
open PySem PySem.Spec PyProof.Rows L2
structure Good (ns : List Str) : Prop where
  nd : ns.Nodup
  nm : ∀ x ∈ ns, isNameM x = true
theorem Good.nil : Good [] := ⟨List.nodup_nil, fun _ h => by cases h⟩
theorem Good.snoc {ns : List Str} {x : Str} (g : Good ns) (h : ns.contains x = false) (hx : isNameM x = true) : Good (ns ++ [x]) := by
  refine ⟨?_, fun y hy => ?_⟩
  · rw [List.nodup_append]
    refine ⟨g.nd, by simp, fun a ha b hb z => ?_⟩
    rw [List.mem_singleton.mp hb] at z
    rw [z] at ha
    have := List.contains_iff_mem.mpr ha
    rw [this] at h
    cases h
  · rcases List.mem_append.mp hy with hy | hy
    · exact g.nm y hy
    · rw [List.mem_singleton.mp hy]
      exact hx
theorem nm_strOk {x : Str} (h : isNameM x = true) : PyData.strOk x = true := by
  unfold isNameM at h
  rw [Bool.and_eq_true] at h
  have h2 := h.2
  unfold PyData.strOk
  rw [← Array.all_toList]
  refine List.all_eq_true.mpr fun c hc => ?_
  have z := of_decide_eq_true (List.all_eq_true.mp h2 c hc)
  have key : ∀ c ∈ LETTERS.cps.toList, decide (c < 0x110000) = true := by decide +kernel
  exact key c z
theorem askLoop_good {rows : List Str} {sc : ScM} : ∀ (f : Nat) (acc : List Str) (n : Nat) (r : List Str) (n' : Nat), Good acc → askLoop rows sc f acc n = .ok (r, n') → Good r ∧ r.length ≤ acc.length + f
  | 0, acc, n, r, n', g, h => by
    cases h
    exact ⟨g, Nat.le_refl _⟩
  | f + 1, acc, n, r, n', g, h => by
    unfold askLoop at h
    dsimp only at h
    split at h
    · split at h
      · split at h
        · cases h
        · rename_i u e
          obtain ⟨y, n4⟩ := u
          obtain ⟨_, rfl, hf, hx⟩ := newName_ok e
          have g2 := g.snoc hf hx
          have fin : ∀ {m : Nat}, askLoop rows sc f (acc ++ [(wordsM rows n 1).getD 1 ""]) m = .ok (r, n') → Good r ∧ r.length ≤ acc.length + (f + 1) := fun e2 => by
            obtain ⟨a, b⟩ := askLoop_good f _ _ _ _ g2 e2
            rw [List.length_append, List.length_singleton] at b
            exact ⟨a, by omega⟩
          split at h
          · split at h
            · cases h
            · exact fin h
          · exact fin h
      · cases h
    · cases h
      exact ⟨g, by omega⟩
theorem asksM_good {rows : List Str} {sc : ScM} {n n' : Nat} {r : List Str} (h : asksM rows sc n = .ok (r, n')) : Good r ∧ r.length ≤ 3 := by
  unfold asksM at h
  split at h
  · cases h
  · rename_i u e
    split at h
    · cases h
      obtain ⟨a, b⟩ := askLoop_good 3 [] n _ _ Good.nil e
      exact ⟨a, by simpa using b⟩
    · cases h
theorem cellLoop_good {rows : List Str} {N : Nat} : ∀ (f : Nat) (acc : List (Str × Nat)) (n : Nat) (r : List (Str × Nat)) (n' : Nat), Good (acc.map (·.1)) → cellLoop rows N f acc n = .ok (r, n') → Good (r.map (·.1)) ∧ r.length ≤ acc.length + f
  | 0, acc, n, r, n', g, h => by
    cases h
    exact ⟨g, Nat.le_refl _⟩
  | f + 1, acc, n, r, n', g, h => by
    unfold cellLoop at h
    split at h
    · split at h
      · rename_i x0 a b ew
        split at h
        · cases h
        · rename_i u e
          obtain ⟨y, n4⟩ := u
          obtain ⟨_, rfl, hf, hx⟩ := newName_ok e
          split at h
          · cases h
          · rename_i v e2
            have g2 : Good ((acc ++ [(y, v.1)]).map (·.1)) := by
              rw [List.map_append]
              exact g.snoc hf hx
            obtain ⟨c, d⟩ := cellLoop_good f _ _ _ _ g2 h
            rw [List.length_append, List.length_singleton] at d
            exact ⟨c, by omega⟩
      · cases h
    · cases h
      exact ⟨g, by omega⟩
theorem cellsM_good {rows : List Str} {N M n n' : Nat} {r : List (Str × Nat)} (h : cellsM rows N M n = .ok (r, n')) : Good (r.map (·.1)) ∧ r.length ≤ M := by
  obtain ⟨a, b⟩ := cellLoop_good M [] n r n' Good.nil h
  exact ⟨a, by simpa using b⟩
end K6

/-! text L19x -/
set_option Elab.async false
set_option linter.all false
set_option maxRecDepth 100000
set_option maxHeartbeats 4000000
namespace K6
open PySem PySem.Spec PyProof.Rows L2
local macro_rules | `(tactic| walk_at "lk") => `(tactic| (repeat (first | with_reducible exact lk_hd _ _ _ | with_reducible exact lk_nil _ | refine lk_tl (by decide +kernel) ?_)))
abbrev sPInit : Stmt := inClass (top 45) 0
abbrev sPHouse : Stmt := inClass (top 45) 1
abbrev sPScreen : Stmt := inClass (top 45) 2
structure PX (K : PySem.W.Frag) (CP : Addr) : Prop where
  cl : Cls K CP
  n_text : NoAttr K CP "text"
  n_worths : NoAttr K CP "worths"
  n_in_order : NoAttr K CP "in_order"
  n_house : NoAttr K CP "house"
  n_works : NoAttr K CP "works"
  n_firsts : NoAttr K CP "firsts"
  n_shows : NoAttr K CP "shows"
  n_unsure : NoAttr K CP "unsure"
  n_takes : NoAttr K CP "takes"
  n_sends : NoAttr K CP "sends"
  n_keeps : NoAttr K CP "keeps"
  n_backs : NoAttr K CP "backs"
  n_hands : NoAttr K CP "hands"
  n_handlers : NoAttr K CP "handlers"
  n_over : NoAttr K CP "over"
  n_asks : NoAttr K CP "asks"
  n_cells : NoAttr K CP "cells"
  n_deeds : NoAttr K CP "deeds"
  n_choices : NoAttr K CP "choices"
  n_keeping : NoAttr K CP "keeping"
  n_redone : NoAttr K CP "redone"
theorem lkp_eq (f : Str) (v : V) (fs : List (Str × V)) : (putF f v fs).lookup f = some v := by rw [lookup_putF, if_pos rfl]
theorem lkp_ne {f g : Str} {v : V} {fs : List (Str × V)} {o : Option V} (h : ¬ g = f) (e : fs.lookup g = o) : (putF f v fs).lookup g = o := by
  rw [lookup_putF, if_neg h]
  exact e
local macro_rules | `(tactic| walk_at "pf") => `(tactic| (repeat (first | with_reducible exact lkp_eq _ _ _ | assumption | refine lkp_ne (by decide +kernel) ?_)))
theorem putF_len (f : Str) (v : V) : ∀ fs : List (Str × V), (putF f v fs).length ≤ fs.length + 1
  | [] => Nat.le_refl _
  | (g, x) :: r => by
    show (if g = f then _ else _ : List (Str × V)).length ≤ _
    split
    · simp
    · have := putF_len f v r
      simp only [List.length_cons]
      omega
/-- all that stands but p and s stays -/
structure K2 (p s : Addr) (H H' : Hp) : Prop where
  ne : ∀ b o, b ≠ p → b ≠ s → H b = some o → H' b = some o
  at_ : ∀ C dx r n, H p = some (.ins C dx (lf r n)) → ∃ n', H' p = some (.ins C dx (lf r n'))
  tr : Tr H H'
theorem K2.refl (p s : Addr) (H : Hp) : K2 p s H H := ⟨fun _ _ _ _ h => h, fun _ _ _ n h => ⟨n, h⟩, fun _ _ _ h => h⟩
theorem K2.trans {p s : Addr} {H H1 H2 : Hp} (a : K2 p s H H1) (b : K2 p s H1 H2) : K2 p s H H2 := ⟨fun c o n m h => b.ne c o n m (a.ne c o n m h), fun C dx r n h => by
  obtain ⟨n1, h1⟩ := a.at_ C dx r n h
  exact b.at_ C dx r n1 h1, a.tr.trans b.tr⟩
theorem K2.kp {C p s : Addr} {H H' : Hp} {rows : List Str} {n : Nat} (hL : Lns C H p rows n) (k : Kp p H H') : K2 p s H H' := ⟨fun b o hb _ e => k.ne b o hb e, k.at_, Tr.kp hL k⟩
theorem K2.same {p s : Addr} {H H' : Hp} (k : Same H H') : K2 p s H H' := ⟨fun b o hb _ e => k b o e, (Kp.of (p := p) k).at_, Tr.of k⟩
theorem K2.fld {p s : Addr} {H : Hp} {C dx : Addr} {fs : List (Str × V)} {o' : HO} (hs : H s = some (.ins C dx fs)) (hne : s ≠ p) : K2 p s H (upd H s o') :=
  ⟨fun b o _ h e => by rw [upd_ne h]; exact e, fun _ _ _ n h => ⟨n, by rw [upd_ne hne.symm]; exact h⟩, Tr.fld hs⟩
theorem Lns.fld {C p s : Addr} {H : Hp} {C' dx' : Addr} {fs : List (Str × V)} {rows : List Str} {n : Nat} {o' : HO} (h : Lns C H p rows n) (hs : H s = some (.ins C' dx' fs)) (hne : s ≠ p) : Lns C (upd H s o') p rows n := by
  obtain ⟨a, b, dx, r, h1, h2⟩ := h
  exact ⟨a, b, dx, r, by rw [upd_ne hne.symm]; exact h1, by rw [upd_ne (ne_of h2 hs (by intro z; cases z))]; exact h2⟩
def OutsP {α : Type} (C CB p s : Addr) (rows : List Str) (H : Hp) (Q : VK) (E : XK) (m : Except Nat (α × Nat)) (Rep : α → Hp → Prop) : Prop :=
  match m with
  | .ok r => ∀ H', K2 p s H H' → Lns C H' p rows r.2 → Rep r.1 H' → Q .non H'
  | .error l => l ≠ 0 ∧ ∀ H' d, (∀ b o, b ≠ p → b ≠ s → H b = some o → H' b = some o) → H' d = some (.xd [(("line" : Str), V.int (l : Nat))]) → E (.ref CB) (some d) H'
theorem outsP_ok {α : Type} {C CB p s : Addr} {rows : List Str} {H H1 : Hp} {Q : VK} {E : XK} {m : Except Nat (α × Nat)} {Rep : α → Hp → Prop} (k : OutsP C CB p s rows H Q E m Rep) {a : α} {n : Nat} (e : m = .ok (a, n)) (k1 : K2 p s H H1) (l1 : Lns C H1 p rows n) (r : Rep a H1) : Q .non H1 := by
  rw [e] at k
  exact k _ k1 l1 r
theorem outsP_err {α : Type} {C CB p s : Addr} {rows : List Str} {H : Hp} {Q : VK} {E : XK} {m : Except Nat (α × Nat)} {Rep : α → Hp → Prop} (k : OutsP C CB p s rows H Q E m Rep) {l : Nat} (e : m = .error l) :
    l ≠ 0 ∧ ∀ H' d, (∀ b o, b ≠ p → b ≠ s → H b = some o → H' b = some o) → H' d = some (.xd [(("line" : Str), V.int (l : Nat))]) → E (.ref CB) (some d) H' := by
  rw [e] at k
  exact k
theorem outsP_of {α β : Type} {C CB p s : Addr} {rows : List Str} {H H0 : Hp} {Q Q' : VK} {E : XK} {m : Except Nat (α × Nat)} {m' : Except Nat (β × Nat)} {Rep : α → Hp → Prop} {Rep' : β → V → Hp → Prop} (k : OutsP C CB p s rows H0 Q E m Rep) (hK : K2 p s H0 H)
    (he : ∀ l, m' = .error l → m = .error l) (ho : ∀ a n', m' = .ok (a, n') → ∀ H' v, Kp p H H' → Lns C H' p rows n' → Rep' a v H' → Q' v H') : Outs C CB p rows H Q' E m' Rep' := by
  cases e : m' with
  | error l =>
    have z := outsP_err k (he l e)
    exact ⟨z.1, fun H' d k1 hd => z.2 H' d (fun b o hb hs eb => k1.ne b o hb (hK.ne b o hb hs eb)) hd⟩
  | ok r => exact fun H' v k1 l1 r1 => ho r.1 r.2 e H' v k1 l1 r1
theorem need_ofP {α : Type} {C CB p s : Addr} {rows : List Str} {n : Nat} {b : Bool} {H H0 : Hp} {Q : VK} {E : XK} (hL : Lns C H p rows n) (hK : K2 p s H0 H) (m : Except Nat (α × Nat)) {Q' : VK} {Rep : α → Hp → Prop}
    (ho : OutsP C CB p s rows H0 Q' E m Rep) (hm : b = false → m = .error (n + 1)) (hq : b = true → Q .non H) : spNeed C CB [.ref p, .bl b] H Q E := by
  refine ⟨p, rows, n, b, rfl, hL, hq, fun hb d hd => ?_⟩
  have z := outsP_err ho (hm hb)
  exact z.2 _ _ (fun b o hb hs e => Same.new hd b o (hK.ne b o hb hs e)) upd_same
def houseM (rows : List Str) (N n : Nat) : Rd' (List Str) := match lineM rows n 0 ["house"] with
  | .error l => .error l
  | .ok r => if r.1 = true then (match lineM rows r.2 1 ["in", "order"] with
    | .error l => .error l
    | .ok r2 => match cellsM rows N 2 r2.2 with
      | .error l => .error l
      | .ok cs => asksM rows (scHouse N (cs.1.map (·.1))) cs.2) else .error (r.2 + 1)
section
variable {P : Program} {w : World} {K : PySem.W.Frag} {mg : Str → Option Value} {base : Heap} {C CB CS CP fB : Addr}
def RepH (CP s dx : Addr) (N : Nat) (tx : V) (asks : List Str) (H' : Hp) : Prop := ∃ fs', H' s = some (.ins CP dx fs') ∧ fs'.length ≤ 10 ∧ fs'.lookup ("worths" : Str) = some (.int (N : Nat)) ∧ fs'.lookup ("text" : Str) = some tx ∧ fs'.lookup ("_read_screen" : Str) = none ∧ ∃ wv, fs'.lookup ("works" : Str) = some wv ∧ RepK asks wv H'
def spPHouse (C CB CP : Addr) : Sp := fun vs H Q E => ∃ (s p dx : Addr) (fs : List (Str × V)) (rows : List Str) (n N : Nat) (tx : V), vs = [.ref s, .ref p] ∧ H s = some (.ins CP dx fs) ∧ fs.length ≤ 5 ∧ fs.lookup ("worths" : Str) = some (.int (N : Nat)) ∧ fs.lookup ("text" : Str) = some tx ∧ fs.lookup ("_read_screen" : Str) = none ∧ Lns C H p rows n ∧ N ≤ 4 ∧ s ≠ p ∧
  OutsP C CB p s rows H Q E (houseM rows N n) (RepH CP s dx N tx)
theorem scPHouse : FnScope ["self", "lines", "cells"] ["self", "lines"] (defScope sPHouse) := ⟨rfl, rfl, rfl, by decide +kernel, rfl, by decide +kernel, by decide +kernel⟩
theorem ok_phouse {f : Addr} {fd : FuncData} (F : Fun K "_read_house" "Program._read_house" sPHouse f fd) (L : LX P w K mg base C CB) (PP : PX K CP) (M : TM mg) (RL : LN P w K mg base C CB) (RC : FnAt P w K mg base (L2.CX P w) 5 "read_cells" ["lines", "worths", "most"] (spCells C CB)) (RH : FnAt P w K mg base (L2.CX P w) 17 "read_house_asks" ["lines", "worths", "cells"] (spHouse K C CB)) :
    FnOk P w K mg base (L2.CX P w) 18 f fd ["self", "lines"] (spPHouse C CB CP) := by
  refine F.okX scPHouse (fun vs H Q E h => ?_) (fun cdv A outer s0 H vs Q E hr h => ?_)
  · obtain ⟨s, p, dx, fs, rows, n, N, tx, rfl, _⟩ := h
    rfl
  · obtain ⟨s, p, dx, fs, rows, n, N, tx, rfl, hs, hfl, hwo, htx, hrs, hL, hN, hsp, k⟩ := h
    obtain ⟨fN, dN, mN, bN, GN⟩ := L.need
    obtain ⟨f1, d1, m1, k1, b1, G1⟩ := RL
    obtain ⟨f2, d2, m2, k2, b2, G2⟩ := RC
    obtain ⟨f3, d3, m3, k3, b3, G3⟩ := RH
    obtain ⟨tH, gH⟩ := M.gH
    have hr3 : Room 3 _ := hr.mono (by omega)
    have hr2 : Room 2 _ := hr.mono (by omega)
    have hr5 : Room 5 _ := hr.mono (by omega)
    refine ⟨_, pss_cons (ps_expr (pe_meth (pv 1) L.cl mN GN hr3 bN .nil (pas (takes_of rfl rfl rfl rfl)) (pa_cons (pe_call G1 hr2 rfl m1 k1 b1 .nil (pas (takes_of rfl rfl rfl rfl)) (pa_cons (pv 1) (pa_cons pe_int (pa_cons (pe_lst (pa_cons pe_str pa_nil)) pa_nil)))) pa_nil)))
      (pss_cons (ps_fld (pv 0) (pe_call G1 hr2 rfl m1 k1 b1 .nil (pas (takes_of rfl rfl rfl rfl)) (pa_cons (pv 1) (pa_cons pe_int (pa_cons (pe_lst (pa_cons pe_str (pa_cons pe_str pa_nil))) pa_nil)))) rfl)
      (pss_cons (ps_set (i := 2) scPHouse.nd rfl (Or.inl rfl) (pe_call G2 hr5 rfl m2 k2 b2 .nil (pas (takes_of rfl rfl rfl rfl)) (pa_cons (pv 1) (pa_cons (pe_fld (pv 0) rfl) (pa_cons (pe_glob (v := .int 2) rfl gH ⟨_, rfl⟩) pa_nil)))))
      (pss_cons (ps_fld (pv 0) (pe_tupItems rfl (pv 2) rfl M.tuple (by decide +kernel)) rfl)
      (pss_one (ps_fld (pv 0) (pe_call G3 hr rfl m3 k3 b3 .nil (pas (takes_of rfl rfl rfl rfl)) (pa_cons (pv 1) (pa_cons (pe_fld (pv 0) rfl) (pa_cons (pv 2) pa_nil)))) rfl))))), ?_⟩
    have e0 : houseM rows N n = houseM rows N n := rfl
    conv at e0 => rhs; unfold houseM
    obtain ⟨_, _, dx0, r0, hp0, _⟩ := id hL
    obtain ⟨b1', n1, e1⟩ := lineM_ok rows n 0 ["house"]
    rw [e1] at e0
    refine ⟨_, rfl, p, dx0, _, rfl, hp0, lf_no _ _ (by decide +kernel) (by decide +kernel), _, rfl, (by show 1 ≤ sizeLine; decide), fun t1 ht1 => ?_⟩
    have s1 := Same.new (o := .lst [V.str "house"]) ht1
    have ht11 : (upd H t1 (.lst [V.str "house"])) t1 = some (.lst [V.str "house"]) := upd_same
    generalize hH1 : upd H t1 (.lst [V.str "house"]) = H1 at s1 ht11
    have l1 := hL.same s1
    refine ⟨p, t1, rows, n, 0, ["house"], rfl, l1, by omega, SqL.of ht11, (fun z hz => by rw [List.mem_singleton.mp hz]; decide +kernel), by simp, ?_⟩
    rw [e1]
    refine fun H2 v2 kk2 l2 rep2 => ?_
    subst rep2
    have kq2 : K2 p s H H2 := (K2.same s1).trans (K2.kp l1 kk2)
    have hs2 := kk2.ne s _ hsp (s1 _ _ hs)
    show spNeed C CB [V.ref p, V.bl _] H2 (fun _ _ => _) _
    refine need_ofP (b := b1') l2 kq2 _ k (fun e => by rw [e0]; show (if b1' = true then _ else _) = _; rw [e]; rfl) (fun e => ?_)
    have e0 : houseM rows N n = (match lineM rows n1 1 ["in", "order"] with
      | .error l => .error l
      | .ok r2 => match cellsM rows N 2 r2.2 with
        | .error l => .error l
        | .ok cs => asksM rows (scHouse N (cs.1.map (·.1))) cs.2) := by
      rw [e0]
      show (if b1' = true then _ else _) = _
      rw [e]
      rfl
    obtain ⟨b3', n3, e3⟩ := lineM_ok rows n1 1 ["in", "order"]
    rw [e3] at e0
    refine ⟨_, rfl, (by show 2 ≤ sizeLine; decide), fun t3 ht3 => ?_⟩
    have s3 := Same.new (o := .lst [V.str "in", V.str "order"]) ht3
    have ht33 : (upd H2 t3 (.lst [V.str "in", V.str "order"])) t3 = some (.lst [V.str "in", V.str "order"]) := upd_same
    generalize hH3 : upd H2 t3 (.lst [V.str "in", V.str "order"]) = H3 at s3 ht33
    have l3 := l2.same s3
    refine ⟨p, t3, rows, n1, 1, ["in", "order"], rfl, l3, by omega, SqL.of ht33, (by decide +kernel), by simp, ?_⟩
    rw [e3]
    refine fun H4 v4 kk4 l4 rep4 => ?_
    subst rep4
    have kq4 : K2 p s H H4 := kq2.trans ((K2.same s3).trans (K2.kp l3 kk4))
    have hs4 := kk4.ne s _ hsp (s3 _ _ hs2)
    refine ⟨_, rfl, s, CP, dx, _, rfl, hs4, PP.cl, PP.n_in_order, (by omega), ?_⟩
    have l5 := l4.fld hs4 hsp (o' := .ins CP dx (putF "in_order" (.bl b3') fs))
    have kq5 := kq4.trans (K2.fld hs4 hsp (o' := .ins CP dx (putF "in_order" (.bl b3') fs)))
    have hs5 : (upd H4 s (.ins CP dx (putF "in_order" (.bl b3') fs))) s = some (.ins CP dx (putF "in_order" (.bl b3') fs)) := upd_same
    generalize hH5 : upd H4 s (.ins CP dx (putF "in_order" (.bl b3') fs)) = H5 at l5 kq5 hs5
    have hf5 := putF_len "in_order" (.bl b3') fs
    have hw5 : (putF "in_order" (.bl b3') fs).lookup ("worths" : Str) = some (.int (N : Nat)) := by walk_at "pf"
    have hx5 : (putF "in_order" (.bl b3') fs).lookup ("text" : Str) = some tx := by walk_at "pf"
    have hr5' : (putF "in_order" (.bl b3') fs).lookup ("_read_screen" : Str) = none := by walk_at "pf"
    generalize putF "in_order" (.bl b3') fs = fs5 at hs5 hf5 hw5 hx5 hr5'
    have e0 : houseM rows N n = (match cellsM rows N 2 n3 with
        | .error l => .error l
        | .ok cs => asksM rows (scHouse N (cs.1.map (·.1))) cs.2) := e0
    refine ⟨_, rfl, _, rfl, s, CP, dx, _, _, rfl, hs5, PP.cl, PP.n_worths, hw5, p, rows, n3, N, 2, rfl, l5, by omega, by omega, ?_⟩
    refine outsP_of k kq5 (fun l e => by rw [e0, e]) fun cs n6 e6 H6 v6 kk6 l6 rep6 => ?_
    obtain ⟨aC, rfl, hC6⟩ := rep6
    rw [e6] at e0
    have e0 : houseM rows N n = asksM rows (scHouse N (cs.map (·.1))) n6 := e0
    have kq6 := kq5.trans (K2.kp l5 kk6)
    have hs6 := kk6.ne s _ hsp hs5
    have hNm6 : Nm K H6 (.ref aC) (cs.map (·.1)) := ⟨aC, rfl, .inl ⟨_, hC6, cellKv_keys cs⟩⟩
    refine ⟨_, rfl, aC, _, rfl, hC6, fun pt hpt => ?_⟩
    refine ⟨_, rfl, s, CP, dx, _, rfl, hs6, PP.cl, PP.n_house, (by omega), ?_⟩
    have l7 := l6.fld hs6 hsp (o' := .ins CP dx (putF "house" (.ref pt) fs5))
    have kq7 := kq6.trans (K2.fld hs6 hsp (o' := .ins CP dx (putF "house" (.ref pt) fs5)))
    have hs7 : (upd H6 s (.ins CP dx (putF "house" (.ref pt) fs5))) s = some (.ins CP dx (putF "house" (.ref pt) fs5)) := upd_same
    have hNm7 := nm_tr (Tr.fld hs6 (o' := .ins CP dx (putF "house" (.ref pt) fs5))) hNm6
    generalize hH7 : upd H6 s (.ins CP dx (putF "house" (.ref pt) fs5)) = H7 at l7 kq7 hs7 hNm7
    have hf7 := putF_len "house" (.ref pt) fs5
    have hw7 : (putF "house" (.ref pt) fs5).lookup ("worths" : Str) = some (.int (N : Nat)) := by walk_at "pf"
    have hx7 : (putF "house" (.ref pt) fs5).lookup ("text" : Str) = some tx := by walk_at "pf"
    have hr7' : (putF "house" (.ref pt) fs5).lookup ("_read_screen" : Str) = none := by walk_at "pf"
    generalize putF "house" (.ref pt) fs5 = fs7 at hs7 hf7 hw7 hx7 hr7'
    refine ⟨_, rfl, _, rfl, s, CP, dx, _, _, rfl, hs7, PP.cl, PP.n_worths, hw7, _, rfl, p, rows, n6, N, .ref aC, cs.map (·.1), rfl, l7, hN, hNm7, ?_⟩
    refine outsP_of k kq7 (fun l e => by rw [e0, e]) fun asks n8 e8 H8 v8 kk8 l8 rep8 => ?_
    have kq8 := kq7.trans (K2.kp l7 kk8)
    have hs8 := kk8.ne s _ hsp hs7
    refine ⟨_, rfl, s, CP, dx, _, rfl, hs8, PP.cl, PP.n_works, (by omega), ?_⟩
    have hf9 := putF_len "works" v8 fs7
    refine outsP_ok k (e0.trans e8) (kq8.trans (K2.fld hs8 hsp)) (l8.fld hs8 hsp) ⟨_, upd_same, by omega, by walk_at "pf", by walk_at "pf", by walk_at "pf", v8, lkp_eq _ _ _, RepK.tr (Tr.fld hs8) rep8⟩
end
end K6

/-! text L20x -/
set_option Elab.async false
set_option linter.all false
set_option maxRecDepth 100000
set_option maxHeartbeats 4000000
namespace K6
open PySem PySem.Spec PyProof.Rows L2
local macro_rules | `(tactic| walk_at "lk") => `(tactic| (repeat (first | with_reducible exact lk_hd _ _ _ | with_reducible exact lk_nil _ | refine lk_tl (by decide +kernel) ?_)))
local macro_rules | `(tactic| walk_at "pf") => `(tactic| (repeat (first | with_reducible exact lkp_eq _ _ _ | assumption | refine lkp_ne (by decide +kernel) ?_)))
def thenM {α β : Type} (m : Rd' α) (f : α → Nat → Rd' β) : Rd' β := match m with
  | .error l => .error l
  | .ok r => f r.1 r.2
theorem thenM_err {α β : Type} {m : Rd' α} {f : α → Nat → Rd' β} {l : Nat} (h : m = .error l) : thenM m f = .error l := by rw [h]; rfl
theorem thenM_ok {α β : Type} {m : Rd' α} {f : α → Nat → Rd' β} {a : α} {n : Nat} (h : m = .ok (a, n)) : thenM m f = f a n := by rw [h]; rfl
def pscrM (rows : List Str) (N : Nat) (asks : List Str) (n : Nat) : Rd' (List Str × List Str) :=
  thenM (lineM rows n 0 ["screen"]) fun b n1 => if b = true then
    thenM (cellsM rows N 4 n1) fun cs n2 => thenM (showsM rows (cs.map (·.1)) n2) fun _ n3 => thenM (unsureM rows (cs.map (·.1)) N n3) fun _ n4 =>
    thenM (choicesM rows "take" asks ["last", "rising"] n4) fun _ n5 => thenM (choicesM rows "send" asks ["one", "latest", "queued", "resting"] n5) fun _ n6 => thenM (choicesM rows "keep" asks ["only", "both"] n6) fun _ n7 =>
    thenM (choicesM rows "back" (cs.map (·.1)) ["redone"] n7) fun _ n8 => thenM (screenM rows N (cs.map (·.1)) asks n8) fun ds n9 => .ok ((cs.map (·.1), ds), n9)
  else .error (n1 + 1)
theorem putF_lt {f : Str} {v : V} {fs : List (Str × V)} {n : Nat} (h : fs.length < n) : (putF f v fs).length < n + 1 := Nat.lt_of_le_of_lt (putF_len f v fs) (Nat.succ_lt_succ h)
theorem keys_list {kvs : List (Key × V)} {ns : List Str} (e : kvs.map (·.1) = ns.map Sum.inr) : (kvs.map fun kv => kV kv.1) = ns.map V.str := by
  have h : (kvs.map fun kv => kV kv.1) = (kvs.map (·.1)).map kV := by
    rw [List.map_map]
    rfl
  rw [h, e, List.map_map]
  rfl
section
variable {P : Program} {w : World} {K : PySem.W.Frag} {mg : Str → Option Value} {base : Heap} {C CB CS CP fB : Addr}
def RepSc (CP s dx : Addr) (tx : V) (asks : List Str) (r : List Str × List Str) (H' : Hp) : Prop := ∃ fs' wv fv tv sv kv bv hv, H' s = some (.ins CP dx fs') ∧ fs'.length < 50 ∧ fs'.lookup ("text" : Str) = some tx ∧ fs'.lookup ("works" : Str) = some wv ∧ RepK asks wv H' ∧
  fs'.lookup ("firsts" : Str) = some fv ∧ RepK r.1 fv H' ∧ fs'.lookup ("takes" : Str) = some tv ∧ RepK asks tv H' ∧ fs'.lookup ("sends" : Str) = some sv ∧ RepK asks sv H' ∧ fs'.lookup ("keeps" : Str) = some kv ∧ RepKS asks kv H' ∧
  fs'.lookup ("backs" : Str) = some bv ∧ RepKS r.1 bv H' ∧ fs'.lookup ("hands" : Str) = some hv ∧ RepD r.2 hv H'
def spPScreen (C CB CP : Addr) : Sp := fun vs H Q E => ∃ (s p dx : Addr) (fs : List (Str × V)) (rows : List Str) (n N : Nat) (tx wv : V) (asks : List Str), vs = [.ref s, .ref p] ∧ H s = some (.ins CP dx fs) ∧ fs.length < 11 ∧ fs.lookup ("worths" : Str) = some (.int (N : Nat)) ∧ fs.lookup ("text" : Str) = some tx ∧
  fs.lookup ("works" : Str) = some wv ∧ RepK asks wv H ∧ Good asks ∧ asks.length ≤ 3 ∧ Lns C H p rows n ∧ N ≤ 4 ∧ s ≠ p ∧ OutsP C CB p s rows H Q E (pscrM rows N asks n) (RepSc CP s dx tx asks)
theorem scPScreen : FnScope ["self", "lines", "asks", "cells"] ["self", "lines"] (defScope sPScreen) := ⟨rfl, rfl, rfl, by decide +kernel, rfl, by decide +kernel, by decide +kernel⟩
end
end K6

/-! text RCH -/
set_option Elab.async false
set_option linter.all false
set_option maxRecDepth 100000
set_option maxHeartbeats 4000000
namespace K6
open PySem PySem.Spec PyProof.Rows L2
abbrev sReadChAll : Stmt := top 39
structure ChR where
  word : Str
  plain : Str
  choices : List Str
  names : List Str
def chL (asks cells : List Str) : List ChR := [⟨"take", "any", ["last", "rising"], asks⟩, ⟨"send", "many", ["one", "latest", "queued", "resting"], asks⟩, ⟨"keep", "none", ["only", "both"], asks⟩, ⟨"back", "kept", ["redone"], cells⟩]
def chRun (rows : List Str) : List ChR → Nat → Rd' Unit
  | [], n => .ok ((), n)
  | c :: r, n => thenM (choicesM rows c.word c.names c.choices n) fun _ n' => chRun rows r n'
def chAllM (rows asks cells : List Str) (n : Nat) : Rd' Unit := chRun rows (chL asks cells) n
section
variable {P : Program} {w : World} {K : PySem.W.Frag} {mg : Str → Option Value} {base : Heap} {C CB CS fB : Addr}
/-- the table CHOICE_LINES, as the top has written it -/
structure CHx (K : PySem.W.Frag) (mg : Str → Option Value) : Prop where
  ex : ∃ (a t1 t2 t3 t4 c1 c2 c3 c4 : Addr), mg "CHOICE_LINES" = some (.ref a) ∧ (∀ H, SqT K H a [.ref t1, .ref t2, .ref t3, .ref t4]) ∧
    (∀ H, SqT K H t1 [.str "take", .ref c1, .str "any"]) ∧ (∀ H, SqT K H t2 [.str "send", .ref c2, .str "many"]) ∧ (∀ H, SqT K H t3 [.str "keep", .ref c3, .str "none"]) ∧ (∀ H, SqT K H t4 [.str "back", .ref c4, .str "kept"]) ∧
    (∀ H, SqT K H c1 ((["last", "rising"] : List Str).map V.str)) ∧ (∀ H, SqT K H c2 ((["one", "latest", "queued", "resting"] : List Str).map V.str)) ∧ (∀ H, SqT K H c3 ((["only", "both"] : List Str).map V.str)) ∧ (∀ H, SqT K H c4 ((["redone"] : List Str).map V.str))
/-- the dicts that were read, at D -/
def ChKv (D : Addr) (cs : List ChR) (kvs : List (Key × V)) (H : Hp) : Prop := kvs.map (·.1) = (cs.map (·.word)).map Sum.inr ∧ ∀ (j : Nat) (c : ChR), cs[j]? = some c → ∃ (a : Addr) (kv2 : List (Key × V)), kvs[j]? = some (Sum.inr c.word, .ref a) ∧ a ≠ D ∧ H a = some (.dK kv2) ∧ kv2.map (·.1) = c.names.map Sum.inr ∧ AllS kv2
def RepCh (asks cells : List Str) (v : V) (H : Hp) : Prop := ∃ D kvs, v = .ref D ∧ H D = some (.dK kvs) ∧ ChKv D (chL asks cells) kvs H
def spChAll (K : PySem.W.Frag) (C CB : Addr) : Sp := fun vs H Q E => ∃ (p aA aC : Addr) (rows : List Str) (n : Nat) (asks cells : List Str), vs = [.ref p, .ref aA, .ref aC] ∧ Lns C H p rows n ∧ SqL K H aA (asks.map V.str) ∧ SqL K H aC (cells.map V.str) ∧ asks.length ≤ 1000 ∧ cells.length ≤ 1000 ∧ asks.Nodup ∧ cells.Nodup ∧
  Outs C CB p rows H Q E (chAllM rows asks cells n) fun _ => RepCh asks cells
theorem scReadChAll : FnScope ["lines", "asks", "cells", "found", "word", "choices", "plain"] ["lines", "asks", "cells"] (defScope sReadChAll) := ⟨rfl, rfl, rfl, by decide +kernel, rfl, by decide +kernel, by decide +kernel⟩
theorem ok_read_ch_all {f : Addr} {fd : FuncData} (F : Fun K "read_choices" "read_choices" sReadChAll f fd) (CH : CHx K mg) (R : FnAt P w K mg base (L2.CX P w) 4 "read_choices_of" ["lines", "word", "names", "choices", "plain"] (spChoices K C CB)) : FnOk P w K mg base (L2.CX P w) 5 f fd ["lines", "asks", "cells"] (spChAll K C CB) := by
  refine F.okX scReadChAll (fun vs H Q E h => ?_) (fun cdv A outer s H vs Q E hr h => ?_)
  · obtain ⟨p, aA, aC, rows, n, asks, cells, rfl, _⟩ := h
    rfl
  · obtain ⟨p, aA, aC, rows, n, asks, cells, rfl, hL, hA, hC, la, lc, na, nc, k⟩ := h
    obtain ⟨f1, d1, m1, k1, b1, G1⟩ := R
    obtain ⟨a, t1, t2, t3, t4, c1, c2, c3, c4, gA, ha, h1, h2, h3, h4, g1, g2, g3, g4⟩ := CH.ex
    refine ⟨_, pss_cons (ps_set (i := 3) scReadChAll.nd rfl (Or.inl rfl) pe_dnewK)
      (pss_cons (ps_for (passes_of rfl) rfl (pi_tup (pe_glob (v := .ref a) rfl gA rfl)) (pg_tup (by rfl) (pgs_cons (pg_name (i := 4) scReadChAll.nd rfl (Or.inl rfl)) (pgs_cons (pg_name (i := 5) scReadChAll.nd rfl (Or.inl rfl)) (pgs_cons (pg_name (i := 6) scReadChAll.nd rfl (Or.inl rfl)) pgs_nil))))
        (pss_one (ps_dput (hu_of hr) (pv 3) (pv 4) (pe_call G1 hr rfl m1 k1 b1 .nil (pas (takes_of rfl rfl rfl rfl)) (pa_cons (pv 0) (pa_cons (pv 4) (pa_cons (pe_ifExp (pt_cmpR op_eq (pv 4) pe_str (nomark _)) (pv 2) (pv 1)) (pa_cons (pv 5) (pa_cons (pv 6) pa_nil)))))) rfl)))
      (pss_one (ps_ret (pv 3)))), ?_⟩
    intro D hD
    have hpD : D ≠ p := fun z => by
      obtain ⟨_, _, dx3, r3, hp3, _⟩ := id hL
      rw [z, hp3] at hD
      cases hD
    refine ⟨a, rfl, ⟨_, ha _⟩, for_tup (K := K) (a := a) (xs := [.ref t1, .ref t2, .ref t3, .ref t4]) (fun i σ H' => ∃ kvs n' s4 s5 s6, σ = [some (.ref p), some (.ref aA), some (.ref aC), some (.ref D), s4, s5, s6] ∧ Kp p H H' ∧ Lns C H' p rows n' ∧ H' D = some (.dK kvs) ∧ ChKv D ((chL asks cells).take i) kvs H' ∧ chAllM rows asks cells n = chRun rows ((chL asks cells).drop i) n')
      ⟨[], n, none, none, none, rfl, Kp.upd_new hL (Kp.refl p H) hD, hL.upd_new (Kp.refl p H) hL hD, upd_same, ⟨rfl, fun j c h => by rw [List.take_zero] at h; cases h⟩, rfl⟩ (fun _ _ H' _ _ => ha H') ?_ ?_⟩
    · rintro i x σ H1 hx ⟨kvs, n', s4, s5, s6, rfl, kk1, l1, hD1, ⟨hk1, hk2⟩, hrun⟩
      obtain ⟨tI, cI, c, rfl, hc, htI, hcI, hnm, hst, hnw⟩ : ∃ (tI cI : Addr) (c : ChR), x = .ref tI ∧ (chL asks cells)[i]? = some c ∧ (∀ H, SqT K H tI [.str c.word, .ref cI, .str c.plain]) ∧ (∀ H, SqT K H cI (c.choices.map V.str)) ∧ ((c.word = "back" ∧ c.names = cells) ∨ (c.word ≠ "back" ∧ c.names = asks)) ∧ PyData.strOk c.word = true ∧ (((chL asks cells).take i).map (·.word)).contains c.word = false := by
        match i, hx with
        | 0, hx => exact ⟨t1, c1, _, (Option.some.inj hx).symm, rfl, h1, g1, .inr ⟨(show ("take" : Str) ≠ "back" by decide +kernel), rfl⟩, (show PyData.strOk ("take" : Str) = true by decide +kernel), rfl⟩
        | 1, hx => exact ⟨t2, c2, _, (Option.some.inj hx).symm, rfl, h2, g2, .inr ⟨(show ("send" : Str) ≠ "back" by decide +kernel), rfl⟩, (show PyData.strOk ("send" : Str) = true by decide +kernel), (show (["take"] : List Str).contains "send" = false by decide +kernel)⟩
        | 2, hx => exact ⟨t3, c3, _, (Option.some.inj hx).symm, rfl, h3, g3, .inr ⟨(show ("keep" : Str) ≠ "back" by decide +kernel), rfl⟩, (show PyData.strOk ("keep" : Str) = true by decide +kernel), (show (["take", "send"] : List Str).contains "keep" = false by decide +kernel)⟩
        | 3, hx => exact ⟨t4, c4, _, (Option.some.inj hx).symm, rfl, h4, g4, .inl ⟨rfl, rfl⟩, (show PyData.strOk ("back" : Str) = true by decide +kernel), (show (["take", "send", "keep"] : List Str).contains "back" = false by decide +kernel)⟩
        | i + 4, hx => cases hx
      have hil : i < (chL asks cells).length := (List.getElem?_eq_some_iff.mp hc).1
      have hdrop : (chL asks cells).drop i = c :: (chL asks cells).drop (i + 1) := by
        rw [List.drop_eq_getElem_cons hil]
        rw [List.getElem?_eq_getElem hil] at hc
        rw [Option.some.inj hc]
      rw [hdrop] at hrun
      have hrun : chAllM rows asks cells n = thenM (choicesM rows c.word c.names c.choices n') fun _ n' => chRun rows ((chL asks cells).drop (i + 1)) n' := hrun
      refine ⟨tI, _, rfl, htI H1, rfl, _, _, rfl, _, _, rfl, _, _, rfl, rfl, ?_⟩
      have hA1 := sql_kp hL kk1 hA
      have hC1 := sql_kp hL kk1 hC
      have hkl : kvs.length = i := by
        have z := congrArg List.length hk1
        rw [List.length_map, List.length_map, List.length_map, List.length_take] at z
        omega
      have hi4 : i < 4 := hil
      have key : ∀ (aN : Addr) (Q2 : VK), SqL K H1 aN (c.names.map V.str) → c.names.length ≤ 1000 → c.names.Nodup → (∀ n2 av kv2 H2, chAllM rows asks cells n = chRun rows ((chL asks cells).drop (i + 1)) n2 → Kp p H1 H2 → Lns C H2 p rows n2 → av ≠ D → H2 av = some (.dK kv2) → (kv2.map (·.1) = c.names.map Sum.inr ∧ AllS kv2) → Q2 (.ref av) H2) → spChoices K C CB [.ref p, .str c.word, .ref aN, .ref cI, .str c.plain] H1 Q2 E := fun aN Q2 hN hNl hNd hq => by
        refine ⟨p, aN, rows, n', c.word, c.plain, c.names, c.choices, .ref cI, rfl, l1, hst, hN, hNl, hNd, ⟨cI, rfl, .inr (.inr (hcI _))⟩, ?_⟩
        refine outs_of k kk1 (fun l e => hrun.trans (thenM_err e)) fun u n2 e2 H2 v kk2 l2 rep2 => ?_
        obtain ⟨av, kv2, rfl, hav0, hav, hkv2⟩ := rep2
        exact hq n2 av kv2 H2 (hrun.trans (thenM_ok e2)) kk2 l2 (fun z => by
          rw [z, hD1] at hav0
          cases hav0) hav hkv2
      have fin : ∀ n2 av kv2 H2, chAllM rows asks cells n = chRun rows ((chL asks cells).drop (i + 1)) n2 → Kp p H1 H2 → Lns C H2 p rows n2 → av ≠ D → H2 av = some (.dK kv2) → (kv2.map (·.1) = c.names.map Sum.inr ∧ AllS kv2) → ∀ (x4 x5 x6 : Option V), (fun (σ : L2.St) (H' : Hp) => ∃ kvs n' s4 s5 s6, σ = [some (.ref p), some (.ref aA), some (.ref aC), some (.ref D), s4, s5, s6] ∧ Kp p H H' ∧ Lns C H' p rows n' ∧ H' D = some (.dK kvs) ∧ ChKv D ((chL asks cells).take (i + 1)) kvs H' ∧ chAllM rows asks cells n = chRun rows ((chL asks cells).drop (i + 1)) n') [some (.ref p), some (.ref aA), some (.ref aC), some (.ref D), x4, x5, x6] (upd H2 D (.dK (putK kvs (Sum.inr c.word) (.ref av)))) := fun n2 av kv2 H2 hrun kk2 l2 hne hav hkv2 x4 x5 x6 => by
        rw [putK_new hk1 rfl hnw]
        have kk3 := kk1.trans kk2
        have htk : (chL asks cells).take (i + 1) = (chL asks cells).take i ++ [c] := by
          rw [List.take_add_one, hc]
          rfl
        have hlt : ((chL asks cells).take i).length = i := by
          rw [List.length_take]
          omega
        refine ⟨_, n2, _, _, _, rfl, Kp.upd_new hL kk3 hD, hL.upd_new kk3 l2 hD, upd_same, ⟨?_, fun j c' hj => ?_⟩, hrun⟩
        · rw [htk, List.map_append, List.map_append, List.map_append, hk1]
          rfl
        · rw [htk] at hj
          rcases Nat.lt_trichotomy j i with h | h | h
          · rw [List.getElem?_append_left (by omega)] at hj
            obtain ⟨a2, kv3, e1, e3, e4, e5⟩ := hk2 j c' hj
            refine ⟨a2, kv3, ?_, e3, ?_, e5⟩
            · rw [List.getElem?_append_left (by omega)]
              exact e1
            · rw [upd_ne e3]
              exact kk2.ne a2 _ (fun z => by
                obtain ⟨_, _, dx3, r3, hp3, _⟩ := id l1
                rw [z, hp3] at e4
                cases e4) e4
          · subst h
            rw [List.getElem?_append_right (by omega), show j - ((chL asks cells).take j).length = 0 by omega] at hj
            obtain rfl : c = c' := Option.some.inj hj
            refine ⟨av, kv2, ?_, hne, ?_, hkv2⟩
            · rw [List.getElem?_append_right (by omega), show j - kvs.length = 0 by omega]
              rfl
            · rw [upd_ne hne]
              exact hav
          · rw [List.getElem?_append_right (by omega), show j - ((chL asks cells).take i).length = (j - i - 1) + 1 by omega] at hj
            cases hj
      refine ⟨_, rfl, _, rfl, _, rfl, rfl, _, rfl, ?_⟩
      rcases hnm with ⟨e1, e2⟩ | ⟨e1, e2⟩
      · rw [show decide (V.str c.word = V.str "back") = true from decide_eq_true (by rw [e1])]
        refine iteT ⟨_, rfl, _, rfl, _, rfl, ?_⟩
        refine key aC _ (by rw [e2]; exact hC1) (by rw [e2]; exact lc) (by rw [e2]; exact nc) fun n2 av kv2 H2 hrun kk2 l2 hne hav hkv2 => ⟨_, rfl, _, rfl, D, _, rfl, DPut.k (k := Sum.inr c.word) (kk2.ne D _ hpD hD1) (by rw [sizeLine_eq]; omega), fin n2 av kv2 H2 hrun kk2 l2 hne hav hkv2 _ _ _⟩
      · rw [decide_eq_false (fun z => e1 (V.str.inj z))]
        refine iteF ⟨_, rfl, _, rfl, _, rfl, ?_⟩
        refine key aA _ (by rw [e2]; exact hA1) (by rw [e2]; exact la) (by rw [e2]; exact na) fun n2 av kv2 H2 hrun kk2 l2 hne hav hkv2 => ⟨_, rfl, _, rfl, D, _, rfl, DPut.k (k := Sum.inr c.word) (kk2.ne D _ hpD hD1) (by rw [sizeLine_eq]; omega), fin n2 av kv2 H2 hrun kk2 l2 hne hav hkv2 _ _ _⟩
    · rintro σ H1 ⟨kvs, n', s4, s5, s6, rfl, kk1, l1, hD1, hk, hrun⟩
      exact ⟨_, rfl, outs_ok k hrun kk1 l1 ⟨D, kvs, rfl, hD1, hk⟩⟩
end
end K6

/-! text LV -/
set_option Elab.async false
set_option linter.all false
set_option maxRecDepth 100000
set_option maxHeartbeats 4000000
namespace L2
open PySem PySem.Spec PyProof.Rows
/-- list(d.values()) -/
def tListVals (te : TE) : TE := fun σ H Q => te σ H fun x H1 => ∃ (d : Addr) (kvs : List (Key × V)), x = .ref d ∧ H1 d = some (.dK kvs) ∧ ∀ p, H1 p = none → Q (.ref p) (upd H1 p (.lst (kvs.map (·.2))))
theorem kv_at {kvs : List (Key × V)} {vs : List (Key × Value)} (r : KV kvs vs) : ∀ {j : Nat} {a : Key × V} {b : Key × Value}, kvs[j]? = some a → vs[j]? = some b → RelV a.2 b.2 := by
  unfold KV at r
  induction r with
  | nil =>
    intro j a b h1 h2
    rw [List.getElem?_nil] at h1
    cases h1
  | cons h _ ih =>
    intro j a b h1 h2
    cases j with
    | zero =>
      cases h1
      cases h2
      exact h.2
    | succ j =>
      rw [List.getElem?_cons_succ] at h1 h2
      exact ih h1 h2
section
variable {X : Cx} {e : Expr} {te : TE} {p apos cpos pos : Pos}
theorem pe_listVals (hc : X.calm = true) (he : PE X e te) (hg : Gl X "list") (hm : X.mg "list" = none) (hv : bootBuiltins "list" = some (.type "list")) (hbase : attributeBase e "values" X.env (eval e X.env) = eval e X.env := by rfl) (hline : (apos.endLine == cpos.line) = true := by rfl)
    (hs : starEach [.Call (.Attribute e "values" apos) [] [] cpos] X.env = (false, eval (.Call (.Attribute e "values" apos) [] [] cpos) X.env) :: starEach [] X.env := by rfl) :
    PE X (.Call (.Name "list" p) [.Call (.Attribute e "values" apos) [] [] cpos] [] pos) (tListVals te) := by
  refine ⟨fun pins s σ H Q I hq => ?_⟩
  refine wpAny_Call_Name_kw (ld_blt I hg hm hv ?_)
  refine PyProof.Rows.callWith_type1 ?_ hs rfl
  rw [hs]
  show wpAny _ _ (spliced ((false, eval (.Call (.Attribute e "values" apos) [] [] cpos) X.env) :: backTo pos (starEach [] X.env))) _ _ s
  refine Calls.spliced_cons ?_
  refine wpAny_Call_method (T := "dict") (id := "dict.values") hbase rfl hline F.plainAttrs_dict F.slot_dict_values F.type_dict_values (thn (he.run pins s σ H _ I hq) fun u s1 ⟨x, H1, I1, rx, d, kvs, ex, hd, q⟩ => ?_)
  subst ex
  obtain rfl : u = Value.ref d := rx
  obtain ⟨hz, hs0, vs, kv, hdo⟩ := I1.hok d _ hd
  obtain ⟨ep, hat⟩ := hdo.dictAt
  have lk : kvs.length = vs.length := Paired.length kv
  have I2 : Inv X pins σ H1 { s1 with heap := s1.heap.push { cls := .type "dict_values", data := .fields #[.ref d] } } := I1.kept (t' := s1.toks) fun b ob q => Heap.get?_push_of_some _ q
  refine ⟨hdo.typeIs, hdo.mapOf.noDict, ?_⟩
  show wpAny _ _ (callWith cpos (.builtin "dict.values") [.ref d] [] []) _ X.xe s1
  refine method_meetsIn F.slot_dict_values F.entry_dict_values rfl (PySem.evalArgs_none ⟨rfl, hdo.typeIs, F.args_dict_values_1 _, _, meets_dict_values (mixKind X.prog X.w) d hs0, ⟨vs, hdo⟩, ?_⟩)
  refine Calls.spliced_nil ?_
  refine PySem.W.kdl_call (PySem.W.kdl_values (knd := mixKind X.prog X.w) (kvs := vs) (ep := ep)) (I1.ok.hd hc) ⟨⟨_, Heap.get?_push_size _ rfl, rfl, rfl⟩, hat.push _⟩ (by rw [← lk]; exact hz) fun h' tk acc' c' hkeep hS hacc => ?_
  refine ⟨.ref _, upd H1 _ (.lst (kvs.map (·.2))), I2.laid hkeep (Nat.le_refl _) (show ObjOk X.prog X.w _ _ _ (.lst (kvs.map (·.2))) from ⟨?_, acc'.toList, c', ?_, ?_⟩), rfl, q _ (I2.hok.fresh (Nat.le_refl _))⟩
  · rw [List.length_map]
    exact hz
  · have el : acc'.toList.length = acc'.size := by simp
    refine vals_of_at (by rw [List.length_map, el, hacc.1, lk]) fun j x w h1 h2 => ?_
    obtain ⟨k, hky⟩ := hacc.2 j w (by rw [← Array.getElem?_toList]; exact h2)
    rw [List.getElem?_map] at h1
    cases e : kvs[j]? with
    | none =>
      rw [e] at h1
      cases h1
    | some a =>
      rw [e] at h1
      cases h1
      exact kv_at kv e hky
  · rw [Array.toArray_toList]
    exact hS
end
end L2

/-! text L20p -/
set_option Elab.async false
set_option linter.all false
set_option maxRecDepth 100000
set_option maxHeartbeats 4000000
namespace K6
open PySem PySem.Spec PyProof.Rows L2
local macro_rules | `(tactic| walk_at "lk") => `(tactic| (repeat (first | with_reducible exact lk_hd _ _ _ | with_reducible exact lk_nil _ | refine lk_tl (by decide +kernel) ?_)))
local macro_rules | `(tactic| walk_at "pf") => `(tactic| (repeat (first | with_reducible exact lkp_eq _ _ _ | assumption | refine lkp_ne (by decide +kernel) ?_)))
theorem RepCh.tr {H H' : Hp} {asks cells : List Str} {v : V} (k : Tr H H') (h : RepCh asks cells v H) : RepCh asks cells v H' := by
  obtain ⟨D, kvs, e, h1, h2, h3⟩ := h
  refine ⟨D, kvs, e, k _ _ (by intro _ _ _ z; cases z) h1, h2, fun j c hj => ?_⟩
  obtain ⟨a, kv2, e1, e2, e3, e4⟩ := h3 j c hj
  exact ⟨a, kv2, e1, e2, k _ _ (by intro _ _ _ z; cases z) e3, e4⟩
theorem RepKS.tr {H H' : Hp} {ns : List Str} {v : V} (k : Tr H H') (h : RepKS ns v H) : RepKS ns v H' := by
  obtain ⟨a, kvs, e, h1, h2⟩ := h
  exact ⟨a, kvs, e, k _ _ (by intro _ _ _ z; cases z) h1, h2⟩
theorem RepCh.four {H : Hp} {asks cells : List Str} {v : V} (h : RepCh asks cells v H) : ∃ D k1 k2 k3 k4 v1 v2 v3 v4, v = .ref D ∧ H D = some (.dK [(k1, v1), (k2, v2), (k3, v3), (k4, v4)]) ∧ RepK asks v1 H ∧ RepK asks v2 H ∧ RepKS asks v3 H ∧ RepKS cells v4 H := by
  obtain ⟨D, kvs, e, h1, h2, h3⟩ := h
  have hl : kvs.length = 4 := by
    have z := congrArg List.length h2
    rw [List.length_map, List.length_map, List.length_map] at z
    exact z
  match kvs, hl with
  | [x1, x2, x3, x4], _ =>
    obtain ⟨a1, d1, q1, _, r1, s1⟩ := h3 0 _ rfl
    obtain ⟨a2, d2, q2, _, r2, s2⟩ := h3 1 _ rfl
    obtain ⟨a3, d3, q3, _, r3, s3⟩ := h3 2 _ rfl
    obtain ⟨a4, d4, q4, _, r4, s4⟩ := h3 3 _ rfl
    cases q1
    cases q2
    cases q3
    cases q4
    exact ⟨D, _, _, _, _, _, _, _, _, e, h1, ⟨_, _, rfl, r1, s1.1⟩, ⟨_, _, rfl, r2, s2.1⟩, ⟨_, _, rfl, r3, s3⟩, ⟨_, _, rfl, r4, s4⟩⟩
theorem chAll_err {β : Type} {rows asks cells : List Str} {n l : Nat} {f : Nat → Rd' β} (h : chAllM rows asks cells n = .error l) :
    (thenM (choicesM rows "take" asks ["last", "rising"] n) fun _ n5 => thenM (choicesM rows "send" asks ["one", "latest", "queued", "resting"] n5) fun _ n6 => thenM (choicesM rows "keep" asks ["only", "both"] n6) fun _ n7 => thenM (choicesM rows "back" cells ["redone"] n7) fun _ n8 => f n8) = .error l := by
  unfold chAllM chL chRun chRun chRun chRun chRun thenM at h
  unfold thenM
  revert h
  cases choicesM rows "take" asks ["last", "rising"] n with
  | error l1 => exact fun h => by cases h; rfl
  | ok r1 =>
    dsimp only
    cases choicesM rows "send" asks ["one", "latest", "queued", "resting"] r1.2 with
    | error l1 => exact fun h => by cases h; rfl
    | ok r2 =>
      dsimp only
      cases choicesM rows "keep" asks ["only", "both"] r2.2 with
      | error l1 => exact fun h => by cases h; rfl
      | ok r3 =>
        dsimp only
        cases choicesM rows "back" cells ["redone"] r3.2 with
        | error l1 => exact fun h => by cases h; rfl
        | ok r4 => exact fun h => by cases h
theorem chAll_ok {β : Type} {rows asks cells : List Str} {n m : Nat} {u : Unit} {f : Nat → Rd' β} (h : chAllM rows asks cells n = .ok (u, m)) :
    (thenM (choicesM rows "take" asks ["last", "rising"] n) fun _ n5 => thenM (choicesM rows "send" asks ["one", "latest", "queued", "resting"] n5) fun _ n6 => thenM (choicesM rows "keep" asks ["only", "both"] n6) fun _ n7 => thenM (choicesM rows "back" cells ["redone"] n7) fun _ n8 => f n8) = f m := by
  unfold chAllM chL chRun chRun chRun chRun chRun thenM at h
  unfold thenM
  revert h
  cases choicesM rows "take" asks ["last", "rising"] n with
  | error l1 => exact fun h => by cases h
  | ok r1 =>
    dsimp only
    cases choicesM rows "send" asks ["one", "latest", "queued", "resting"] r1.2 with
    | error l1 => exact fun h => by cases h
    | ok r2 =>
      dsimp only
      cases choicesM rows "keep" asks ["only", "both"] r2.2 with
      | error l1 => exact fun h => by cases h
      | ok r3 =>
        dsimp only
        cases choicesM rows "back" cells ["redone"] r3.2 with
        | error l1 => exact fun h => by cases h
        | ok r4 => exact fun h => by cases h; rfl
section
variable {P : Program} {w : World} {K : PySem.W.Frag} {mg : Str → Option Value} {base : Heap} {C CB CS CP fB : Addr}
theorem ok_pscreen {f : Addr} {fd : FuncData} (F : Fun K "_read_screen" "Program._read_screen" sPScreen f fd) (L : LX P w K mg base C CB) (PP : PX K CP) (M : TM mg) (RL : LN P w K mg base C CB) (RC : FnAt P w K mg base (L2.CX P w) 5 "read_cells" ["lines", "worths", "most"] (spCells C CB))
    (R1 : FnAt P w K mg base (L2.CX P w) 4 "read_shows" ["lines", "cells"] (spShows K C CB)) (R2 : FnAt P w K mg base (L2.CX P w) 5 "read_unsure" ["lines", "worths", "cells"] (spUnsure K C CB)) (R3 : FnAt P w K mg base (L2.CX P w) 5 "read_choices" ["lines", "asks", "cells"] (spChAll K C CB))
    (R4 : FnAt P w K mg base (L2.CX P w) 18 "read_screen_handlers" ["lines", "worths", "cells", "asks"] (spScreen K C CB)) : FnOk P w K mg base (L2.CX P w) 19 f fd ["self", "lines"] (spPScreen C CB CP) := by
  refine F.okX scPScreen (fun vs H Q E h => ?_) (fun cdv A outer s0 H vs Q E hr h => ?_)
  · obtain ⟨s, p, dx, fs, rows, n, N, tx, wv, asks, rfl, _⟩ := h
    rfl
  · obtain ⟨s, p, dx, fs, rows, n, N, tx, wv, asks, rfl, hs, hfl, hwo, htx, hwk, rw0, hg, hal, hL, hN, hsp, k⟩ := h
    obtain ⟨fN, dN, mN, bN, GN⟩ := L.need
    obtain ⟨f1, d1, m1, k1, b1, G1⟩ := RL
    obtain ⟨f2, d2, m2, k2, b2, G2⟩ := RC
    obtain ⟨f3, d3, m3, k3, b3, G3⟩ := R1
    obtain ⟨f4, d4, m4, k4, b4, G4⟩ := R2
    obtain ⟨f5, d5, m5, k5, b5, G5⟩ := R3
    obtain ⟨f6, d6, m6, k6, b6, G6⟩ := R4
    obtain ⟨tC, gC⟩ := M.gC
    have hr3 : Room 3 _ := hr.mono (by omega)
    have hr2 : Room 2 _ := hr.mono (by omega)
    have hr4 : Room 4 _ := hr.mono (by omega)
    have hr5 : Room 5 _ := hr.mono (by omega)
    refine ⟨_, pss_cons (ps_expr (pe_meth (pv 1) L.cl mN GN hr3 bN .nil (pas (takes_of rfl rfl rfl rfl)) (pa_cons (pe_call G1 hr2 rfl m1 k1 b1 .nil (pas (takes_of rfl rfl rfl rfl)) (pa_cons (pv 1) (pa_cons pe_int (pa_cons (pe_lst (pa_cons pe_str pa_nil)) pa_nil)))) pa_nil)))
      (pss_cons (ps_set (i := 2) scPScreen.nd rfl (Or.inl rfl) (pe_callTy (call_list_dK rfl) (by rfl) M.list (by decide +kernel) (pa_cons (pe_fld (pv 0) rfl) pa_nil)))
      (pss_cons (ps_fld (pv 0) (pe_call G2 hr5 rfl m2 k2 b2 .nil (pas (takes_of rfl rfl rfl rfl)) (pa_cons (pv 1) (pa_cons (pe_fld (pv 0) rfl) (pa_cons (pe_glob (v := .int 4) rfl gC ⟨_, rfl⟩) pa_nil)))) rfl)
      (pss_cons (ps_set (i := 3) scPScreen.nd rfl (Or.inl rfl) (pe_callTy (call_list_dK rfl) (by rfl) M.list (by decide +kernel) (pa_cons (pe_fld (pv 0) rfl) pa_nil)))
      (pss_cons (ps_fld (pv 0) (pe_call G3 hr4 rfl m3 k3 b3 .nil (pas (takes_of rfl rfl rfl rfl)) (pa_cons (pv 1) (pa_cons (pv 3) pa_nil))) rfl)
      (pss_cons (ps_fld (pv 0) (pe_call G4 hr5 rfl m4 k4 b4 .nil (pas (takes_of rfl rfl rfl rfl)) (pa_cons (pv 1) (pa_cons (pe_fld (pv 0) rfl) (pa_cons (pv 3) pa_nil)))) rfl)
      (pss_cons (ps_fld (pv 0) (pe_call G5 hr5 rfl m5 k5 b5 .nil (pas (takes_of rfl rfl rfl rfl)) (pa_cons (pv 1) (pa_cons (pv 2) (pa_cons (pv 3) pa_nil)))) rfl)
      (pss_cons (ps_asg (pe_listVals rfl (pe_fld (pv 0) rfl) (by rfl) M.list (by decide +kernel)) (pg_lst (by rfl) (pgs_cons (pg_fld (pv 0)) (pgs_cons (pg_fld (pv 0)) (pgs_cons (pg_fld (pv 0)) (pgs_cons (pg_fld (pv 0)) pgs_nil))))))
      (pss_one (ps_asg (pe_call G6 hr rfl m6 k6 b6 .nil (pas (takes_of rfl rfl rfl rfl)) (pa_cons (pv 1) (pa_cons (pe_fld (pv 0) rfl) (pa_cons (pv 3) (pa_cons (pv 2) pa_nil))))) (pg_tup (by rfl) (pgs_cons (pg_fld (pv 0)) (pgs_cons (pg_fld (pv 0)) (pgs_cons (pg_fld (pv 0)) pgs_nil))))))))))))), ?_⟩
    have em : pscrM rows N asks n = pscrM rows N asks n := rfl
    conv at em => rhs; unfold pscrM
    obtain ⟨_, _, dx0, r0, hp0, _⟩ := id hL
    obtain ⟨b1', n1, e1⟩ := lineM_ok rows n 0 ["screen"]
    have em := em.trans (thenM_ok e1)
    refine ⟨_, rfl, p, dx0, _, rfl, hp0, lf_no _ _ (by decide +kernel) (by decide +kernel), _, rfl, (by show 1 ≤ sizeLine; decide), fun t1 ht1 => ?_⟩
    have s1 := Same.new (o := .lst [V.str "screen"]) ht1
    have ht11 : (upd H t1 (.lst [V.str "screen"])) t1 = some (.lst [V.str "screen"]) := upd_same
    generalize hH1 : upd H t1 (.lst [V.str "screen"]) = H1 at s1 ht11
    have l1 := hL.same s1
    refine ⟨p, t1, rows, n, 0, ["screen"], rfl, l1, by omega, SqL.of ht11, (fun z hz => by rw [List.mem_singleton.mp hz]; decide +kernel), by simp, ?_⟩
    rw [e1]
    refine fun H2 v2 kk2 l2 rep2 => ?_
    subst rep2
    have kq2 : K2 p s H H2 := (K2.same s1).trans (K2.kp l1 kk2)
    have hs2 := kk2.ne s _ hsp (s1 _ _ hs)
    have rw2 := RepK.tr kq2.tr rw0
    show spNeed C CB [V.ref p, V.bl _] H2 (fun _ _ => _) _
    refine need_ofP (b := b1') l2 kq2 _ k (fun e => by rw [em, if_neg (by rw [e]; decide)]) (fun e => ?_)
    rw [if_pos e] at em
    -- asks
    obtain ⟨aw, kvw, rfl, hkw, hkeys⟩ := rw2
    refine ⟨_, rfl, s, CP, dx, _, _, rfl, hs2, PP.cl, PP.n_works, hwk, aw, kvw, rfl, hkw, fun qa hqa => ?_⟩
    have s3 := Same.new (o := .lst (kvw.map fun kv => kV kv.1)) hqa
    have hA3 : SqL K (upd H2 qa (.lst (kvw.map fun kv => kV kv.1))) qa (asks.map V.str) := SqL.of (by rw [upd_same, keys_list hkeys])
    generalize hH3 : upd H2 qa (.lst (kvw.map fun kv => kV kv.1)) = H3 at s3 hA3
    have l3f := l2.same s3
    have kq3 := kq2.trans (K2.same (p := p) (s := s) s3)
    have hs3f := s3 _ _ hs2
    have rwk3 : RepK asks (.ref aw) H3 := RepK.tr (Tr.of s3) ⟨aw, kvw, rfl, hkw, hkeys⟩
    refine ⟨_, rfl, _, rfl, s, CP, dx, _, _, rfl, hs3f, PP.cl, PP.n_worths, (by walk_at "pf"), p, rows, n1, N, 4, rfl, l3f, by omega, by omega, ?_⟩
    refine outsP_of k kq3 (fun l e => em.trans (thenM_err e)) fun a4 n4 e4 H4 v4 kk4 l4 rep4 => ?_
    have em := em.trans (thenM_ok e4)
    have tr4 := Tr.kp l3f kk4
    have hs4 := kk4.ne s _ hsp hs3f
    refine ⟨_, rfl, s, CP, dx, _, rfl, hs4, PP.cl, PP.n_firsts, Nat.lt_of_lt_of_le (by repeat (first | exact hfl | apply putF_lt)) (by decide : _ ≤ 1000), ?_⟩
    have l4f := l4.fld hs4 hsp (o' := (.ins CP dx (putF "firsts" v4 fs)))
    have trf4 := Tr.fld hs4 (o' := (.ins CP dx (putF "firsts" v4 fs)))
    have kq4 := (kq3.trans (K2.kp l3f kk4)).trans (K2.fld hs4 hsp (o' := (.ins CP dx (putF "firsts" v4 fs))))
    have hs4f : (upd H4 s (.ins CP dx (putF "firsts" v4 fs))) s = some (.ins CP dx (putF "firsts" v4 fs)) := upd_same
    have T4 : Tr H3 (upd H4 s (.ins CP dx (putF "firsts" v4 fs))) := tr4.trans trf4
    generalize hHf4 : upd H4 s (.ins CP dx (putF "firsts" v4 fs)) = Hf4 at l4f kq4 hs4f trf4 T4
    have hA4 := sql_tr T4 hA3
    have rwk4 := RepK.tr T4 rwk3
    have gc := (cellsM_good e4).1
    have gcl := (cellsM_good e4).2
    have rf4 : RepK (a4.map (·.1)) v4 Hf4 := by
      obtain ⟨z1, z2, z3⟩ := rep4
      exact RepK.tr trf4 ⟨z1, _, z2, z3, cellKv_keys a4⟩
    generalize hcn : a4.map (·.1) = cells at em gc rf4
    have hcl : cells.length ≤ 4 := by rw [← hcn, List.length_map]; exact gcl
    obtain ⟨ac, kvc, rfl, hkc, hkeysc⟩ := id rf4
    refine ⟨_, rfl, s, CP, dx, _, _, rfl, hs4f, PP.cl, PP.n_firsts, (by walk_at "pf"), ac, kvc, rfl, hkc, fun qc hqc => ?_⟩
    have s5 := Same.new (o := .lst (kvc.map fun kv => kV kv.1)) hqc
    have hC5 : SqL K (upd Hf4 qc (.lst (kvc.map fun kv => kV kv.1))) qc (cells.map V.str) := SqL.of (by rw [upd_same, keys_list hkeysc])
    generalize hH5 : upd Hf4 qc (.lst (kvc.map fun kv => kV kv.1)) = H5 at s5 hC5
    have l5f := l4f.same s5
    have kq5 := kq4.trans (K2.same (p := p) (s := s) s5)
    have hs5f := s5 _ _ hs4f
    have hA5 := sql_tr (Tr.of s5) hA4
    have rwk5 := RepK.tr (Tr.of s5) rwk4
    have rf5 := RepK.tr (Tr.of s5) rf4
    refine ⟨_, rfl, _, rfl, p, rows, n4, .ref qc, cells, rfl, l5f, ⟨qc, rfl, .inr (.inl hC5)⟩, ?_⟩
    refine outsP_of k kq5 (fun l e => em.trans (thenM_err e)) fun a6 n6 e6 H6 v6 kk6 l6 rep6 => ?_
    have em := em.trans (thenM_ok e6)
    have tr6 := Tr.kp l5f kk6
    have hs6 := kk6.ne s _ hsp hs5f
    refine ⟨_, rfl, s, CP, dx, _, rfl, hs6, PP.cl, PP.n_shows, Nat.lt_of_lt_of_le (by repeat (first | exact hfl | apply putF_lt)) (by decide : _ ≤ 1000), ?_⟩
    have l6f := l6.fld hs6 hsp (o' := (.ins CP dx (putF "shows" v6 (putF "firsts" (.ref ac) fs))))
    have trf6 := Tr.fld hs6 (o' := (.ins CP dx (putF "shows" v6 (putF "firsts" (.ref ac) fs))))
    have kq6 := (kq5.trans (K2.kp l5f kk6)).trans (K2.fld hs6 hsp (o' := (.ins CP dx (putF "shows" v6 (putF "firsts" (.ref ac) fs)))))
    have hs6f : (upd H6 s (.ins CP dx (putF "shows" v6 (putF "firsts" (.ref ac) fs)))) s = some (.ins CP dx (putF "shows" v6 (putF "firsts" (.ref ac) fs))) := upd_same
    have T6 : Tr H5 (upd H6 s (.ins CP dx (putF "shows" v6 (putF "firsts" (.ref ac) fs)))) := tr6.trans trf6
    generalize hHf6 : upd H6 s (.ins CP dx (putF "shows" v6 (putF "firsts" (.ref ac) fs))) = Hf6 at l6f kq6 hs6f trf6 T6
    have hA6 := sql_tr T6 hA5
    have rwk6 := RepK.tr T6 rwk5
    have rf6 := RepK.tr T6 rf5
    have hC6 := sql_tr T6 hC5
    refine ⟨_, rfl, _, rfl, s, CP, dx, _, _, rfl, hs6f, PP.cl, PP.n_worths, (by walk_at "pf"), _, rfl, p, rows, n6, N, .ref qc, cells, rfl, l6f, by omega, ⟨qc, rfl, .inr (.inl hC6)⟩, ?_⟩
    refine outsP_of k kq6 (fun l e => em.trans (thenM_err e)) fun a7 n7 e7 H7 v7 kk7 l7 rep7 => ?_
    have em := em.trans (thenM_ok e7)
    have tr7 := Tr.kp l6f kk7
    have hs7 := kk7.ne s _ hsp hs6f
    refine ⟨_, rfl, s, CP, dx, _, rfl, hs7, PP.cl, PP.n_unsure, Nat.lt_of_lt_of_le (by repeat (first | exact hfl | apply putF_lt)) (by decide : _ ≤ 1000), ?_⟩
    have l7f := l7.fld hs7 hsp (o' := (.ins CP dx (putF "unsure" v7 (putF "shows" v6 (putF "firsts" (.ref ac) fs)))))
    have trf7 := Tr.fld hs7 (o' := (.ins CP dx (putF "unsure" v7 (putF "shows" v6 (putF "firsts" (.ref ac) fs)))))
    have kq7 := (kq6.trans (K2.kp l6f kk7)).trans (K2.fld hs7 hsp (o' := (.ins CP dx (putF "unsure" v7 (putF "shows" v6 (putF "firsts" (.ref ac) fs))))))
    have hs7f : (upd H7 s (.ins CP dx (putF "unsure" v7 (putF "shows" v6 (putF "firsts" (.ref ac) fs))))) s = some (.ins CP dx (putF "unsure" v7 (putF "shows" v6 (putF "firsts" (.ref ac) fs)))) := upd_same
    have T7 : Tr Hf6 (upd H7 s (.ins CP dx (putF "unsure" v7 (putF "shows" v6 (putF "firsts" (.ref ac) fs))))) := tr7.trans trf7
    generalize hHf7 : upd H7 s (.ins CP dx (putF "unsure" v7 (putF "shows" v6 (putF "firsts" (.ref ac) fs)))) = Hf7 at l7f kq7 hs7f trf7 T7
    have hA7 := sql_tr T7 hA6
    have rwk7 := RepK.tr T7 rwk6
    have rf7 := RepK.tr T7 rf6
    have hC7 := sql_tr T7 hC6
    refine ⟨_, rfl, _, rfl, _, rfl, p, qa, qc, rows, n7, asks, cells, rfl, l7f, hA7, hC7, by omega, by omega, hg.nd, gc.nd, ?_⟩
    refine outsP_of k kq7 (fun l e => em.trans (chAll_err e)) fun a8 n11 e8 H8 v8 kk8 l8 rep8 => ?_
    have em := em.trans (chAll_ok e8)
    have tr8 := Tr.kp l7f kk8
    have hs8 := kk8.ne s _ hsp hs7f
    refine ⟨_, rfl, s, CP, dx, _, rfl, hs8, PP.cl, PP.n_choices, Nat.lt_of_lt_of_le (by repeat (first | exact hfl | apply putF_lt)) (by decide : _ ≤ 1000), ?_⟩
    have l8f := l8.fld hs8 hsp (o' := (.ins CP dx (putF "choices" v8 (putF "unsure" v7 (putF "shows" v6 (putF "firsts" (.ref ac) fs))))))
    have trf8 := Tr.fld hs8 (o' := (.ins CP dx (putF "choices" v8 (putF "unsure" v7 (putF "shows" v6 (putF "firsts" (.ref ac) fs))))))
    have kq8 := (kq7.trans (K2.kp l7f kk8)).trans (K2.fld hs8 hsp (o' := (.ins CP dx (putF "choices" v8 (putF "unsure" v7 (putF "shows" v6 (putF "firsts" (.ref ac) fs)))))))
    have hs8f : (upd H8 s (.ins CP dx (putF "choices" v8 (putF "unsure" v7 (putF "shows" v6 (putF "firsts" (.ref ac) fs)))))) s = some (.ins CP dx (putF "choices" v8 (putF "unsure" v7 (putF "shows" v6 (putF "firsts" (.ref ac) fs))))) := upd_same
    have T8 : Tr Hf7 (upd H8 s (.ins CP dx (putF "choices" v8 (putF "unsure" v7 (putF "shows" v6 (putF "firsts" (.ref ac) fs)))))) := tr8.trans trf8
    generalize hHf8 : upd H8 s (.ins CP dx (putF "choices" v8 (putF "unsure" v7 (putF "shows" v6 (putF "firsts" (.ref ac) fs))))) = Hf8 at l8f kq8 hs8f trf8 T8
    have hA8 := sql_tr T8 hA7
    have rwk8 := RepK.tr T8 rwk7
    have rf8 := RepK.tr T8 rf7
    have hC8 := sql_tr T8 hC7
    obtain ⟨DC, y1, y2, y3, y4, tv, sv, kv, bv, rfl, hDC, rt8, rs8, rk8, rb8⟩ := RepCh.four (RepCh.tr trf8 rep8)
    refine ⟨_, rfl, s, CP, dx, _, _, rfl, hs8f, PP.cl, PP.n_choices, (by walk_at "pf"), DC, _, rfl, hDC, fun ql hql => ?_⟩
    have sl := Same.new (o := .lst ([(y1, tv), (y2, sv), (y3, kv), (y4, bv)].map (·.2))) hql
    have hql1 : (upd Hf8 ql (.lst ([(y1, tv), (y2, sv), (y3, kv), (y4, bv)].map (·.2)))) ql = some (.lst [tv, sv, kv, bv]) := upd_same
    generalize hHl : upd Hf8 ql (.lst ([(y1, tv), (y2, sv), (y3, kv), (y4, bv)].map (·.2))) = Hl at sl hql1
    have ll9 := l8f.same sl
    have kql := kq8.trans (K2.same (p := p) (s := s) sl)
    have hsl := sl _ _ hs8f
    have Tl := Tr.of sl
    refine ⟨ql, _, rfl, SqL.of hql1, rfl, ?_⟩
    refine ⟨_, _, rfl, _, rfl, s, CP, dx, _, rfl, hsl, PP.cl, PP.n_takes, Nat.lt_of_lt_of_le (by repeat (first | exact hfl | apply putF_lt)) (by decide : _ ≤ 1000), ?_⟩
    refine ⟨_, _, rfl, _, rfl, s, CP, dx, _, rfl, upd_same, PP.cl, PP.n_sends, Nat.lt_of_lt_of_le (by repeat (first | exact hfl | apply putF_lt)) (by decide : _ ≤ 1000), ?_⟩
    rw [upd_upd]
    refine ⟨_, _, rfl, _, rfl, s, CP, dx, _, rfl, upd_same, PP.cl, PP.n_keeps, Nat.lt_of_lt_of_le (by repeat (first | exact hfl | apply putF_lt)) (by decide : _ ≤ 1000), ?_⟩
    rw [upd_upd]
    refine ⟨_, _, rfl, _, rfl, s, CP, dx, _, rfl, upd_same, PP.cl, PP.n_backs, Nat.lt_of_lt_of_le (by repeat (first | exact hfl | apply putF_lt)) (by decide : _ ≤ 1000), rfl, ?_⟩
    rw [upd_upd]
    have l11f := ll9.fld hsl hsp (o' := (.ins CP dx (putF "backs" bv (putF "keeps" kv (putF "sends" sv (putF "takes" tv (putF "choices" (.ref DC) (putF "unsure" v7 (putF "shows" v6 (putF "firsts" (.ref ac) fs))))))))))
    have trf11 := Tr.fld hsl (o' := (.ins CP dx (putF "backs" bv (putF "keeps" kv (putF "sends" sv (putF "takes" tv (putF "choices" (.ref DC) (putF "unsure" v7 (putF "shows" v6 (putF "firsts" (.ref ac) fs))))))))))
    have kq11 := kql.trans (K2.fld hsl hsp (o' := (.ins CP dx (putF "backs" bv (putF "keeps" kv (putF "sends" sv (putF "takes" tv (putF "choices" (.ref DC) (putF "unsure" v7 (putF "shows" v6 (putF "firsts" (.ref ac) fs)))))))))))
    have hs11f : (upd Hl s (.ins CP dx (putF "backs" bv (putF "keeps" kv (putF "sends" sv (putF "takes" tv (putF "choices" (.ref DC) (putF "unsure" v7 (putF "shows" v6 (putF "firsts" (.ref ac) fs)))))))))) s = some (.ins CP dx (putF "backs" bv (putF "keeps" kv (putF "sends" sv (putF "takes" tv (putF "choices" (.ref DC) (putF "unsure" v7 (putF "shows" v6 (putF "firsts" (.ref ac) fs))))))))) := upd_same
    have T11 : Tr Hf8 (upd Hl s (.ins CP dx (putF "backs" bv (putF "keeps" kv (putF "sends" sv (putF "takes" tv (putF "choices" (.ref DC) (putF "unsure" v7 (putF "shows" v6 (putF "firsts" (.ref ac) fs)))))))))) := Tl.trans trf11
    generalize hHf11 : upd Hl s (.ins CP dx (putF "backs" bv (putF "keeps" kv (putF "sends" sv (putF "takes" tv (putF "choices" (.ref DC) (putF "unsure" v7 (putF "shows" v6 (putF "firsts" (.ref ac) fs))))))))) = Hf11 at l11f kq11 hs11f trf11 T11
    have hA11 := sql_tr T11 hA8
    have rwk11 := RepK.tr T11 rwk8
    have rf11 := RepK.tr T11 rf8
    have hC11 := sql_tr T11 hC8
    have rt11 := RepK.tr T11 rt8
    have rs11 := RepK.tr T11 rs8
    have rk11 := RepKS.tr T11 rk8
    have rb11 := RepKS.tr T11 rb8
    refine ⟨_, rfl, _, rfl, s, CP, dx, _, _, rfl, hs11f, PP.cl, PP.n_worths, (by walk_at "pf"), _, rfl, _, rfl, p, qa, rows, n11, N, .ref qc, cells, asks, rfl, l11f, hN, ⟨qc, rfl, .inr (.inl hC11)⟩, hA11, by omega, (fun x hx => nm_strOk (hg.nm x hx)), ?_⟩
    refine outsP_of k kq11 (fun l e => em.trans (thenM_err e)) fun ds n12 e12 H12 v12 kk12 l12 rep12 => ?_
    have em := em.trans (thenM_ok e12)
    obtain ⟨tS, dv, yv, zv, rfl, htS, repD⟩ := rep12
    have tr12 := Tr.kp l11f kk12
    have hs12 := kk12.ne s _ hsp hs11f
    refine ⟨tS, _, rfl, SqT.of htS, rfl, ?_⟩
    refine ⟨_, _, rfl, _, rfl, s, CP, dx, _, rfl, hs12, PP.cl, PP.n_hands, Nat.lt_of_lt_of_le (by repeat (first | exact hfl | apply putF_lt)) (by decide : _ ≤ 1000), ?_⟩
    refine ⟨_, _, rfl, _, rfl, s, CP, dx, _, rfl, upd_same, PP.cl, PP.n_handlers, Nat.lt_of_lt_of_le (by repeat (first | exact hfl | apply putF_lt)) (by decide : _ ≤ 1000), ?_⟩
    rw [upd_upd]
    refine ⟨_, _, rfl, _, rfl, s, CP, dx, _, rfl, upd_same, PP.cl, PP.n_over, Nat.lt_of_lt_of_le (by repeat (first | exact hfl | apply putF_lt)) (by decide : _ ≤ 1000), rfl, ?_⟩
    rw [upd_upd]
    have trz := Tr.fld hs12 (o' := .ins CP dx (putF "over" zv (putF "handlers" yv (putF "hands" dv (putF "backs" bv (putF "keeps" kv (putF "sends" sv (putF "takes" tv (putF "choices" (.ref DC) (putF "unsure" v7 (putF "shows" v6 (putF "firsts" (.ref ac) fs))))))))))))
    have TT := tr12.trans trz
    refine outsP_ok k em ((kq11.trans (K2.kp l11f kk12)).trans (K2.fld hs12 hsp)) (l12.fld hs12 hsp) ?_
    exact ⟨_, _, _, _, _, _, _, _, upd_same, Nat.lt_of_lt_of_le (by repeat (first | exact hfl | apply putF_lt)) (by decide : _ ≤ 50), (by walk_at "pf"), (by walk_at "pf"), RepK.tr TT rwk11, (by walk_at "pf"), RepK.tr TT rf11, (by walk_at "pf"), RepK.tr TT rt11, (by walk_at "pf"), RepK.tr TT rs11, (by walk_at "pf"), RepKS.tr TT rk11, (by walk_at "pf"), RepKS.tr TT rb11, (by walk_at "pf"), RepD.tr trz repD⟩
end
end K6

/-! text L21x -/
set_option Elab.async false
set_option linter.all false
set_option maxRecDepth 100000
set_option maxHeartbeats 4000000
namespace K6
open PySem PySem.Spec PyProof.Rows L2
local macro_rules | `(tactic| walk_at "lk") => `(tactic| (repeat (first | with_reducible exact lk_hd _ _ _ | with_reducible exact lk_nil _ | refine lk_tl (by decide +kernel) ?_)))


structure PIx (K : PySem.W.Frag) (mg : Str → Option Value) (C : Addr) : Prop where
  isi : mg "isinstance" = none
  str : mg "str" = none
  gL : mg "Lines" = some (.ref C)
local macro_rules | `(tactic| walk_at "pf") => `(tactic| (repeat (first | with_reducible exact lkp_eq _ _ _ | assumption | refine lkp_ne (by decide +kernel) ?_)))
theorem valV_there {ns : List Str} {kvs : List (Key × V)} {x : Str} (e : kvs.map (·.1) = ns.map Sum.inr) (h : x ∈ ns) : ∃ v, valV kvs (Sum.inr x : Key) = some v ∧ ∃ kv ∈ kvs, kv.2 = v := by
  have z := valV_names (x := x) e
  rw [List.contains_iff_mem.mpr h] at z
  obtain ⟨v, hv⟩ := Option.isSome_iff_exists.mp z
  refine ⟨v, hv, ?_⟩
  unfold valV at hv
  cases e2 : kvs.find? fun kv => decide (kv.1 = (Sum.inr x : Key)) with
  | none =>
    rw [e2] at hv
    cases hv
  | some kv =>
    rw [e2] at hv
    exact ⟨kv, List.mem_of_find?_eq_some e2, Option.some.inj hv⟩
def progM (rows : List Str) : Rd' Unit := thenM (firstM rows 0) fun N n => thenM (houseM rows N n) fun asks n2 => thenM (pscrM rows N asks n2) fun _ n3 => if (n3 == rows.length) = true then .ok ((), n3) else .error (n3 + 1)
theorem houseM_good {rows : List Str} {N n n' : Nat} {r : List Str} (h : houseM rows N n = .ok (r, n')) : Good r ∧ r.length ≤ 3 := by
  unfold houseM at h
  split at h
  · cases h
  · split at h
    · split at h
      · cases h
      · split at h
        · cases h
        · exact asksM_good h
    · cases h
theorem thenM_ofOk {α β : Type} {m : Rd' α} {f : α → Nat → Rd' β} {r : β × Nat} (h : thenM m f = .ok r) : ∃ a n, m = .ok (a, n) ∧ f a n = .ok r := by
  unfold thenM at h
  cases e : m with
  | error l =>
    rw [e] at h
    cases h
  | ok q =>
    rw [e] at h
    exact ⟨q.1, q.2, rfl, h⟩
theorem deedLoop_len {rows : List Str} {sc : ScM} : ∀ (f : Nat) (acc : List Str) (n : Nat) (r : List Str) (n' : Nat), deedLoop rows sc f acc n = .ok (r, n') → r.length ≤ acc.length + f
  | 0, acc, n, r, n', h => by
    cases h
    exact Nat.le_refl _
  | f + 1, acc, n, r, n', h => by
    have key : ∀ {x : Str} {m : Nat}, deedLoop rows sc f (acc ++ [x]) m = .ok (r, n') → r.length ≤ acc.length + (f + 1) := fun h => by
      have z := deedLoop_len f _ _ _ _ h
      rw [List.length_append, List.length_singleton] at z
      omega
    unfold deedLoop at h
    dsimp only at h
    split at h
    · split at h
      · split at h
        · cases h
        · split at h
          · split at h
            · cases h
            · split at h
              · split at h
                · cases h
                · exact key h
              · cases h
          · split at h
            · cases h
            · exact key h
      · cases h
    · cases h
      omega
theorem screenM_len {rows cells asks : List Str} {N n n' : Nat} {r : List Str} (h : screenM rows N cells asks n = .ok (r, n')) : r.length ≤ 3 := by
  unfold screenM at h
  split at h
  · cases h
  · rename_i q e
    have hq : q.1.length ≤ 3 := by
      unfold deedsM at e
      split at e
      · cases e
      · rename_i q2 e2
        split at e
        · cases e
          simpa using deedLoop_len 3 [] n _ _ e2
        · cases e
    split at h
    · cases h
    · split at h
      · cases h
      · split at h
        · split at h
          · cases h
          · cases h
            exact hq
        · cases h
          exact hq
theorem pscrM_len {rows asks : List Str} {N n n' : Nat} {r : List Str × List Str} (h : pscrM rows N asks n = .ok (r, n')) : r.1.length ≤ 4 ∧ r.2.length ≤ 3 := by
  unfold pscrM at h
  obtain ⟨b, n1, _, h⟩ := thenM_ofOk h
  split at h
  · obtain ⟨cs, n2, ec, h⟩ := thenM_ofOk h
    obtain ⟨_, n3, _, h⟩ := thenM_ofOk h
    obtain ⟨_, n4, _, h⟩ := thenM_ofOk h
    obtain ⟨_, n5, _, h⟩ := thenM_ofOk h
    obtain ⟨_, n6, _, h⟩ := thenM_ofOk h
    obtain ⟨_, n7, _, h⟩ := thenM_ofOk h
    obtain ⟨_, n8, _, h⟩ := thenM_ofOk h
    obtain ⟨ds, n9, ed, h⟩ := thenM_ofOk h
    cases h
    exact ⟨by rw [List.length_map]; exact (cellsM_good ec).2, screenM_len ed⟩
  · cases h
/-- a tuple is laid and put to the list that grows -/
theorem tupStep {H8 H' : Hp} {D tt : Addr} {acc xs : List V} {i : Nat} (hD : H8 D = none) (sx : Same H8 H') (hacc : H' D = some (.lst acc)) (hlen : acc.length = i) (htt : H' tt = none) (hi : i < sizeLine) :
    ∃ acc', (upd H' tt (.tup xs)) D = some (.lst acc') ∧ acc'.length < sizeLine ∧ Same H8 (upd (upd H' tt (.tup xs)) D (.lst (acc' ++ [.ref tt]))) ∧ ∃ a2, (upd (upd H' tt (.tup xs)) D (.lst (acc' ++ [.ref tt]))) D = some (.lst a2) ∧ a2.length = i + 1 := by
  refine ⟨acc, by rw [upd_ne (ne_of_none hacc htt)]; exact hacc, by omega, fun b o e => ?_, _, upd_same, by rw [List.length_append, hlen]; rfl⟩
  rw [upd_ne (ne_of_none e hD), upd_ne (ne_of_none (sx b o e) htt)]
  exact sx b o e
/-- all that stands but s stays -/
def Fr (s : Addr) (H H' : Hp) : Prop := ∀ b o, b ≠ s → H b = some o → H' b = some o
theorem Fr.same {s : Addr} {H H1 H2 : Hp} (a : Fr s H H1) (k : Same H1 H2) : Fr s H H2 := fun b o h e => k b o (a b o h e)
theorem Fr.k2 {p s : Addr} {H H1 H2 : Hp} (a : Fr s H H1) (k : K2 p s H1 H2) (hp : H p = none) : Fr s H H2 := fun b o h e => k.ne b o (fun z => by
  rw [z, hp] at e
  cases e) h (a b o h e)
theorem Fr.fld {s : Addr} {H H1 : Hp} {o' : HO} (a : Fr s H H1) : Fr s H (upd H1 s o') := fun b o h e => by
  rw [upd_ne h]
  exact a b o h e
def ProgOk {α : Type} (CB CP s dx : Addr) (tx : Str) (H : Hp) (Q : VK) (E : XK) (m : Except Nat α) : Prop := match m with
  | .ok _ => ∀ H', Fr s H H' → (∃ fs, H' s = some (.ins CP dx fs) ∧ fs.lookup ("text" : Str) = some (.str tx)) → Q .non H'
  | .error l => l ≠ 0 ∧ ∀ H' d, Fr s H H' → H' d = some (.xd [(("line" : Str), V.int (l : Nat))]) → E (.ref CB) (some d) H'
theorem progOk_err {α : Type} {CB CP s dx : Addr} {tx : Str} {H : Hp} {Q : VK} {E : XK} {m : Except Nat α} {l : Nat} (k : ProgOk CB CP s dx tx H Q E m) (e : m = .error l) : l ≠ 0 ∧ ∀ H' d, Fr s H H' → H' d = some (.xd [(("line" : Str), V.int (l : Nat))]) → E (.ref CB) (some d) H' := by
  rw [e] at k
  exact k
theorem progOk_ok {α : Type} {CB CP s dx : Addr} {tx : Str} {H H' : Hp} {Q : VK} {E : XK} {m : Except Nat α} {a : α} (k : ProgOk CB CP s dx tx H Q E m) (e : m = .ok a) (f : Fr s H H') {fs : List (Str × V)} (h1 : H' s = some (.ins CP dx fs)) (h2 : fs.lookup ("text" : Str) = some (.str tx)) : Q .non H' := by
  rw [e] at k
  exact k H' f ⟨fs, h1, h2⟩
/-- a house or a screen is read, the program's mirror told -/
theorem outsP_prog {α β : Type} {C CB CP p s dx : Addr} {tx : Str} {rows : List Str} {H H1 : Hp} {Q Q1 : VK} {E : XK} {m : Except Nat (α × Nat)} {M : Except Nat β} {Rep : α → Hp → Prop} (k : ProgOk CB CP s dx tx H Q E M) (f : Fr s H H1) (hp : H p = none) (he : ∀ l, m = .error l → M = .error l)
    (ho : ∀ a n, m = .ok (a, n) → ∀ H', K2 p s H1 H' → Lns C H' p rows n → Rep a H' → Q1 .non H') : OutsP C CB p s rows H1 Q1 E m Rep := by
  cases e : m with
  | error l =>
    have z := progOk_err k (he l e)
    exact ⟨z.1, fun H' d k1 hd => z.2 H' d (fun b o hb eb => k1 b o (fun z => by
      rw [z, hp] at eb
      cases eb) hb (f b o hb eb)) hd⟩
  | ok r => exact fun H' k1 l1 r1 => ho r.1 r.2 e H' k1 l1 r1
theorem outs_prog {α β : Type} {C CB CP p s dx : Addr} {tx : Str} {rows : List Str} {H H1 : Hp} {Q Q1 : VK} {E : XK} {m : Except Nat (α × Nat)} {M : Except Nat β} {Rep : α → V → Hp → Prop} (k : ProgOk CB CP s dx tx H Q E M) (f : Fr s H H1) (hp : H p = none) (he : ∀ l, m = .error l → M = .error l)
    (ho : ∀ a n, m = .ok (a, n) → ∀ H' v, Kp p H1 H' → Lns C H' p rows n → Rep a v H' → Q1 v H') : Outs C CB p rows H1 Q1 E m Rep := by
  cases e : m with
  | error l =>
    have z := progOk_err k (he l e)
    exact ⟨z.1, fun H' d k1 hd => z.2 H' d (fun b o hb eb => k1.ne b o (fun z => by
      rw [z, hp] at eb
      cases eb) (f b o hb eb)) hd⟩
  | ok r => exact fun H' v k1 l1 r1 => ho r.1 r.2 e H' v k1 l1 r1
section
variable {P : Program} {w : World} {K : PySem.W.Frag} {mg : Str → Option Value} {base : Heap} {C CB CS CP fB : Addr}
def spProg (CB CP : Addr) : Sp := fun vs H Q E => ∃ (s dx : Addr) (tx : Str), vs = [.ref s, .str tx] ∧ H s = some (.ins CP dx []) ∧ tx.length ≤ 1000000 ∧ Small (Txt.split tx "\n") ∧ ProgOk CB CP s dx tx H Q E (progM (Txt.split tx "\n"))
theorem scPInit : FnScope ["self", "text", "lines", "names", "name"] ["self", "text"] (defScope sPInit) := ⟨rfl, rfl, rfl, by decide +kernel, rfl, by decide +kernel, by decide +kernel⟩
end
end K6

/-! text L21p -/
set_option Elab.async false
set_option linter.all false
set_option maxRecDepth 100000
set_option maxHeartbeats 4000000
namespace K6
open PySem PySem.Spec PyProof.Rows L2
local macro_rules | `(tactic| walk_at "lk") => `(tactic| (repeat (first | with_reducible exact lk_hd _ _ _ | with_reducible exact lk_nil _ | refine lk_tl (by decide +kernel) ?_)))
local macro_rules | `(tactic| walk_at "pf") => `(tactic| (repeat (first | with_reducible exact lkp_eq _ _ _ | assumption | refine lkp_ne (by decide +kernel) ?_)))
section
variable {P : Program} {w : World} {K : PySem.W.Frag} {mg : Str → Option Value} {base : Heap} {C CB CS CP fB : Addr}
theorem ok_pinit {f fL : Addr} {fd fdL : FuncData} (F : Fun K "__init__" "Program.__init__" sPInit f fd) (L : LX P w K mg base C CB) (PP : PX K CP) (M : TM mg) (T : TN K mg) (PI : PIx K mg C) (ML : Mk K C fL) (GL : FnOk P w K mg base CX0 1 fL fdL ["self", "text"] (spLInit C)) (bL : Binds K fdL ["self", "text"] [])
    (R1 : FnAt P w K mg base (L2.CX P w) 4 "read_first_line" ["lines"] (spFirst C CB)) (R2 : MeAt P w K mg base (L2.CX P w) CP 18 "_read_house" ["self", "lines"] (spPHouse C CB CP)) (R3 : MeAt P w K mg base (L2.CX P w) CP 19 "_read_screen" ["self", "lines"] (spPScreen C CB CP)) :
    FnOk P w K mg base (L2.CX P w) 20 f fd ["self", "text"] (spProg CB CP) := by
  refine F.okX scPInit (fun vs H Q E h => ?_) (fun cdv A outer s0 H vs Q E hr h => ?_)
  · obtain ⟨s, dx, tx, rfl, _⟩ := h
    rfl
  · obtain ⟨s, dx, tx, rfl, hs, htl, hsm, k⟩ := h
    obtain ⟨fN, dN, mN, bN, GN⟩ := L.need
    obtain ⟨f1, d1, m1, k1, b1, G1⟩ := R1
    obtain ⟨fH, dH, mH, bH, GH⟩ := R2
    obtain ⟨fS, dS, mS, bS, GS⟩ := R3
    have hr2 : Room 2 _ := hr.mono (by omega)
    have hr3 : Room 3 _ := hr.mono (by omega)
    have hr4 : Room 4 _ := hr.mono (by omega)
    have hr18 : Room 18 _ := hr.mono (by omega)
    refine ⟨_, (pss_cons (ps_if (pt_not (pt_val (pe_callB call_isi (by rfl) PI.isi (by decide +kernel) (pa_cons (pv 1) (pa_cons (pe_bltn (v := .ty "str") (by rfl) PI.str (by decide +kernel) rfl) pa_nil))))) pss_never pss_nil)
      (pss_cons (ps_fld (pv 0) (pv 1) rfl)
      (pss_cons (ps_set (i := 2) scPInit.nd rfl (Or.inl rfl) (pe_make ML GL hr2 rfl PI.gL bL .nil pass0 (pa_cons (pv 1) pa_nil)))
      (pss_cons (ps_fld (pv 0) (pe_call G1 hr4 rfl m1 k1 b1 .nil (pas (takes_of rfl rfl rfl rfl)) (pa_cons (pv 2) pa_nil)) rfl)
      (pss_cons (ps_expr (pe_meth (pv 0) PP.cl mH GH hr18 bH .nil (pas (takes_of rfl rfl rfl rfl)) (pa_cons (pv 2) pa_nil)))
      (pss_cons (ps_expr (pe_meth (pv 0) PP.cl mS GS hr bS .nil (pas (takes_of rfl rfl rfl rfl)) (pa_cons (pv 2) pa_nil)))
      (pss_cons (ps_expr (pe_meth (pv 2) L.cl mN GN hr3 bN .nil (pas (takes_of rfl rfl rfl rfl)) (pa_cons (pe_cmpR op_eq (pe_fld (pv 2) rfl) (pe_callB call_len_seq (by rfl) T.len PySem.boot_len (pa_cons (pe_fld (pv 2) rfl) pa_nil)) (nomark _)) pa_nil)))
      (pss_cons (ps_set (i := 3) scPInit.nd rfl (Or.inl rfl) (pe_callTy (call_list_dK rfl) (by rfl) M.list (by decide +kernel) (pa_cons (pe_fld (pv 0) rfl) pa_nil)))
      (pss_cons (ps_fld (pv 0) (pe_callTy call_tuple_of (by rfl) M.tuple (by decide +kernel) (pa_cons (pe_lc (own := [("name", 4)]) (g := gName 4) (tt := tYes) rfl scPInit.nd (pi_list (pv 3)) (blkOk_by (own := [("name", 4)]) (N := ["self", "text", "lines", "names", "name"]) (sc := defScope sPInit) (by decide +kernel)) (fun _ _ _ _ _ => pg_name (i := 4) scPInit.nd rfl (Or.inl rfl)) (fun _ _ _ _ _ => pts_nil) (fun _ _ _ _ _ => (pe_tup (pa_cons (pv 4) (pa_cons (pe_dget (hu_of hr) (show PE _ _ (tFld K (tVar 0) "takes") from pe_fld (pv 0) rfl) (pv 4) (fun _ _ => rfl)) (pa_cons (pe_dget (hu_of hr) (show PE _ _ (tFld K (tVar 0) "sends") from pe_fld (pv 0) rfl) (pv 4) (fun _ _ => rfl)) (pa_cons (pe_dget (hu_of hr) (show PE _ _ (tFld K (tVar 0) "keeps") from pe_fld (pv 0) rfl) (pv 4) (fun _ _ => rfl)) pa_nil))))))) pa_nil)) rfl)
      (pss_cons (ps_fld (pv 0) (pe_callTy call_tuple_of (by rfl) M.tuple (by decide +kernel) (pa_cons (pe_lc (own := [("name", 4)]) (g := gName 4) (tt := tYes) rfl scPInit.nd (pi_list (pe_callTy (call_list_dK rfl) (by rfl) M.list (by decide +kernel) (pa_cons (pe_fld (pv 0) rfl) pa_nil))) (blkOk_by (own := [("name", 4)]) (N := ["self", "text", "lines", "names", "name"]) (sc := defScope sPInit) (by decide +kernel)) (fun _ _ _ _ _ => pg_name (i := 4) scPInit.nd rfl (Or.inl rfl)) (fun _ _ _ _ _ => pts_nil) (fun _ _ _ _ _ => (pe_tup (pa_cons (pv 4) (pa_cons (pe_dget (hu_of hr) (show PE _ _ (tFld K (tVar 0) "firsts") from pe_fld (pv 0) rfl) (pv 4) (fun _ _ => rfl)) (pa_cons (pe_dget (hu_of hr) (show PE _ _ (tFld K (tVar 0) "backs") from pe_fld (pv 0) rfl) (pv 4) (fun _ _ => rfl)) pa_nil)))))) pa_nil)) rfl)
      (pss_cons (ps_fld (pv 0) (pe_callTy call_tuple_of (by rfl) M.tuple (by decide +kernel) (pa_cons (pe_lc (own := [("name", 4)]) (g := gName 4) (tt := tYes) rfl scPInit.nd (pi_list (pe_callTy (call_list_dK rfl) (by rfl) M.list (by decide +kernel) (pa_cons (pe_fld (pv 0) rfl) pa_nil))) (blkOk_by (own := [("name", 4)]) (N := ["self", "text", "lines", "names", "name"]) (sc := defScope sPInit) (by decide +kernel)) (fun _ _ _ _ _ => pg_name (i := 4) scPInit.nd rfl (Or.inl rfl)) (fun _ _ _ _ _ => pts_nil) (fun _ _ _ _ _ => (pe_tup (pa_cons (pv 4) (pa_cons (pe_ix (show IxR _ (rIxT K) from ix_tup) (pe_dget (hu_of hr) (show PE _ _ (tFld K (tVar 0) "hands") from pe_fld (pv 0) rfl) (pv 4) (fun _ _ => rfl)) pe_int (fun _ _ => rfl)) pa_nil))))) pa_nil)) rfl)
      (pss_cons (ps_fld (pv 0) (pe_lc (own := [("name", 4)]) (g := gName 4) rfl scPInit.nd (pi_list (pv 3)) (blkOk_by (own := [("name", 4)]) (N := ["self", "text", "lines", "names", "name"]) (sc := defScope sPInit) (by decide +kernel)) (fun _ _ _ _ _ => pg_name (i := 4) scPInit.nd rfl (Or.inl rfl)) (fun _ _ _ _ _ => pts_one (pt_cmpR op_ne (pe_dget (hu_of hr) (show PE _ _ (tFld K (tVar 0) "keeps") from pe_fld (pv 0) rfl) (pv 4) (fun _ _ => rfl)) pe_str (nomark _))) (fun _ _ _ _ _ => (pv 4))) rfl)
      (pss_one (ps_fld (pv 0) (pe_lc (own := [("name", 4)]) (g := gName 4) rfl scPInit.nd (pi_list (pe_callTy (call_list_dK rfl) (by rfl) M.list (by decide +kernel) (pa_cons (pe_fld (pv 0) rfl) pa_nil))) (blkOk_by (own := [("name", 4)]) (N := ["self", "text", "lines", "names", "name"]) (sc := defScope sPInit) (by decide +kernel)) (fun _ _ _ _ _ => pg_name (i := 4) scPInit.nd rfl (Or.inl rfl)) (fun _ _ _ _ _ => pts_one (pt_cmpR op_eq (pe_dget (hu_of hr) (show PE _ _ (tFld K (tVar 0) "backs") from pe_fld (pv 0) rfl) (pv 4) (fun _ _ => rfl)) pe_str (nomark _))) (fun _ _ _ _ _ => (pv 4))) rfl)))))))))))))), ?_⟩
    have em : progM (Txt.split tx "\n") = progM (Txt.split tx "\n") := rfl
    conv at em => rhs; unfold progM
    refine ⟨_, rfl, _, _, .type "str", .type "str", true, rfl, .ty "str", .base (.str _), kit_ty (by decide +kernel), _, rfl, ?_⟩
    refine iteF ?_
    refine ⟨_, rfl, _, rfl, s, CP, dx, [], rfl, hs, PP.cl, PP.n_text, (by decide), ?_⟩
    rw [show putF "text" (V.str tx) ([] : List (Str × V)) = [(("text" : Str), V.str tx)] from rfl]
    refine ⟨_, rfl, fun p dl hp1 hdl hne => ?_⟩
    have hsp : s ≠ p := fun z => by
      rw [← z, upd_same] at hp1
      cases hp1
    have hsdl : s ≠ dl := fun z => by
      rw [← z, upd_same] at hdl
      cases hdl
    have hp : H p = none := by
      rw [upd_ne hsp.symm] at hp1
      exact hp1
    have hdl0 : H dl = none := by
      rw [upd_ne hsdl.symm] at hdl
      exact hdl
    have f2 : Fr s H (upd (upd (upd H s (.ins CP dx [(("text" : Str), V.str tx)])) dl (HO.own p)) p (HO.ins C dl [])) := fun b o hb e => by
      rw [upd_ne (ne_of_none e hp), upd_ne (ne_of_none e hdl0), upd_ne hb]
      exact e
    have hs2 : (upd (upd (upd H s (.ins CP dx [(("text" : Str), V.str tx)])) dl (HO.own p)) p (HO.ins C dl [])) s = some (.ins CP dx [(("text" : Str), V.str tx)]) := by
      rw [upd_ne hsp, upd_ne hsdl, upd_same]
    have hpp : (upd (upd (upd H s (.ins CP dx [(("text" : Str), V.str tx)])) dl (HO.own p)) p (HO.ins C dl [])) p = some (.ins C dl []) := upd_same
    generalize (upd (upd (upd H s (.ins CP dx [(("text" : Str), V.str tx)])) dl (HO.own p)) p (HO.ins C dl [])) = H2 at f2 hs2 hpp
    refine ⟨p, dl, tx, rfl, hpp, htl, hsm, fun H3 kk3 l3 => ⟨rfl, ?_⟩⟩
    generalize hrows : Txt.split tx "\n" = rows at em k hsm l3
    have f3 : Fr s H H3 := fun b o hb e => kk3.ne b o (ne_of_none e hp) (f2 b o hb e)
    have hs3 := kk3.ne s _ hsp hs2
    refine ⟨_, rfl, p, rows, 0, rfl, l3, ?_⟩
    refine outs_prog k f3 hp (fun l e => em.trans (thenM_err e)) fun N n4 e4 H4 v4 kk4 l4 rep4 => ?_
    have em := em.trans (thenM_ok e4)
    obtain ⟨rfl, hN⟩ := rep4
    have f4 : Fr s H H4 := fun b o hb e => kk4.ne b o (ne_of_none e hp) (f3 b o hb e)
    have hs4 := kk4.ne s _ hsp hs3
    refine ⟨_, rfl, s, CP, dx, _, rfl, hs4, PP.cl, PP.n_worths, (by show 1 < 1000; decide), ?_⟩
    have hs5 : (upd H4 s (.ins CP dx (putF "worths" (V.int (N : Nat)) [(("text" : Str), V.str tx)]))) s = some (.ins CP dx (putF "worths" (V.int (N : Nat)) [(("text" : Str), V.str tx)])) := upd_same
    have f5 : Fr s H (upd H4 s (.ins CP dx (putF "worths" (V.int (N : Nat)) [(("text" : Str), V.str tx)]))) := f4.fld
    have l5 := l4.fld hs4 hsp (o' := .ins CP dx (putF "worths" (V.int (N : Nat)) [(("text" : Str), V.str tx)]))
    generalize upd H4 s (.ins CP dx (putF "worths" (V.int (N : Nat)) [(("text" : Str), V.str tx)])) = H5 at hs5 f5 l5
    have htx0 : ([(("text" : Str), V.str tx)] : List (Str × V)).lookup ("text" : Str) = some (V.str tx) := by
      rw [show ([(("text" : Str), V.str tx)] : List (Str × V)) = putF "text" (V.str tx) [] from rfl]
      exact lkp_eq _ _ _
    have hno0 : ∀ g : Str, ¬ g = "text" → ([(("text" : Str), V.str tx)] : List (Str × V)).lookup g = none := fun g hg => by
      rw [show ([(("text" : Str), V.str tx)] : List (Str × V)) = putF "text" (V.str tx) [] from rfl]
      exact lkp_ne hg rfl
    refine ⟨_, rfl, s, dx, _, rfl, hs5, lkp_ne (by decide +kernel) (hno0 _ (by decide +kernel)), _, rfl, ?_⟩
    refine ⟨s, p, dx, _, rows, n4, N, .str tx, rfl, hs5, Nat.le_trans (putF_len _ _ _) (by show 2 ≤ 5; decide), lkp_eq _ _ _, lkp_ne (by decide +kernel) htx0, lkp_ne (by decide +kernel) (hno0 _ (by decide +kernel)), l5, hN, hsp, ?_⟩
    refine outsP_prog k f5 hp (fun l e => em.trans (thenM_err e)) fun asks n6 e6 H6 k6 l6 rep6 => ?_
    have em := em.trans (thenM_ok e6)
    obtain ⟨fs6, hs6, hlen6, hw6, htx6, hrs6, wv, hwk6, rwk6⟩ := rep6
    have f6 := f5.k2 k6 hp
    have hgood := houseM_good e6
    have l6' := l6
    refine ⟨_, rfl, s, dx, _, rfl, hs6, hrs6, _, rfl, ?_⟩
    refine ⟨s, p, dx, fs6, rows, n6, N, .str tx, wv, asks, rfl, hs6, by omega, hw6, htx6, hwk6, rwk6, hgood.1, hgood.2, l6, hN, hsp, ?_⟩
    refine outsP_prog k f6 hp (fun l e => em.trans (thenM_err e)) fun r7 n7 e7 H7 k7 l7 rep7 => ?_
    have em := em.trans (thenM_ok e7)
    have f7 := f6.k2 k7 hp
    obtain ⟨hl7c, hl7d⟩ := pscrM_len e7
    obtain ⟨fs7, wv7, fv7, tv7, sv7, kv7, bv7, hv7, hs7, hlen7, htx7, hwk7, rwk7, hff7, rff7, htk7, rtk7, hsd7, rsd7, hkp7, rkp7, hbk7, rbk7, hhd7, rhd7⟩ := rep7
    obtain ⟨_, hn7, dl7, rl7, hp7, hrl7⟩ := id l7
    refine ⟨_, rfl, p, dl7, _, rfl, hp7, lf_no _ _ (by decide +kernel) (by decide +kernel), _, rfl, p, C, dl7, _, _, rfl, hp7, L.cl, L.nA, lf_at _ _, _, rfl, p, C, dl7, _, _, rfl, hp7, L.cl, L.nR, lf_rows _ _, rl7, _, rfl, .inl (SqL.of hrl7), rfl, ?_⟩
    have hlr : (rows.map V.str).length = rows.length := List.length_map ..
    rw [hlr]
    show spNeed C CB [V.ref p, V.bl _] H7 (fun _ _ => _) _
    have ed : (decide ((V.int (n7 : Nat)) = (V.int (rows.length : Nat)))) = (n7 == rows.length) := by
      by_cases z : n7 = rows.length
      · rw [z]
        simp
      · rw [beq_eq_false_iff_ne.mpr z]
        refine decide_eq_false fun q => z ?_
        injection q with q
        omega
    rw [ed]
    refine ⟨p, rows, n7, n7 == rows.length, rfl, l7, fun hb => ?_, fun hb d hd => ?_⟩
    rotate_left
    · have z := progOk_err k (em.trans (if_neg (by rw [hb]; decide)))
      exact z.2 _ _ (f7.same (Same.new hd)) upd_same
    have em := em.trans (if_pos hb)
    -- the properties
    obtain ⟨aw, kw, rfl, hkw, ekw⟩ := rwk7
    obtain ⟨at7, kt, rfl, hkt, ekt⟩ := rtk7
    obtain ⟨as7, ks, rfl, hks, eks⟩ := rsd7
    obtain ⟨ak7, kk, rfl, hkk, ekk, allK⟩ := rkp7
    obtain ⟨af7, kf, rfl, hkf, ekf⟩ := rff7
    obtain ⟨ab7, kb, rfl, hkb, ekb, allB⟩ := rbk7
    obtain ⟨ah7, kh, rfl, hkh, ekh, hth⟩ := rhd7
    refine ⟨_, rfl, s, CP, dx, _, _, rfl, hs7, PP.cl, PP.n_works, hwk7, aw, kw, rfl, hkw, fun qa hqa => ?_⟩
    have s8 := Same.new (o := .lst (kw.map fun kv => kV kv.1)) hqa
    have hA8 : (upd H7 qa (.lst (kw.map fun kv => kV kv.1))) qa = some (.lst (asks.map V.str)) := by rw [upd_same, keys_list ekw]
    generalize upd H7 qa (.lst (kw.map fun kv => kV kv.1)) = H8 at s8 hA8
    refine ⟨_, rfl, qa, rfl, ⟨_, SqL.of hA8⟩, fun D hD => ?_⟩
    have sD := Same.new (o := .lst []) hD
    refine lc_list (K := K) (a := qa) (xs := asks.map V.str) (fun i H' => Same H8 H' ∧ ∃ acc, H' D = some (.lst acc) ∧ acc.length = i) ⟨sD, [], upd_same, rfl⟩ (fun i H' _ ⟨sx, _⟩ => sx.seq (SqL.of hA8)) ?_ ?_
    · rintro i x H' hx ⟨sx, acc, hacc, hlen⟩
      obtain ⟨y, hy, rfl⟩ : ∃ y, asks[i]? = some y ∧ x = V.str y := by
        rw [List.getElem?_map] at hx
        cases e : asks[i]? with
        | none =>
          rw [e] at hx
          cases hx
        | some y =>
          rw [e] at hx
          exact ⟨y, rfl, (Option.some.inj hx).symm⟩
      have hm : y ∈ asks := List.mem_of_getElem? hy
      have hil : i < asks.length := (List.getElem?_eq_some_iff.mp hy).1
      obtain ⟨v1, g1, _⟩ := valV_there ekt hm
      obtain ⟨v2, g2, _⟩ := valV_there eks hm
      obtain ⟨v3, g3, _⟩ := valV_there ekk hm
      have sk := s8.trans sx
      refine ⟨rfl, ?_⟩
      refine ⟨_, rfl, _, rfl, s, CP, dx, _, _, rfl, sk _ _ hs7, PP.cl, PP.n_takes, htk7, _, rfl, at7, v1, rfl, (by rw [← g1]; exact DGet.k (k := Sum.inr y) (sk _ _ hkt)), _, rfl, s, CP, dx, _, _, rfl, sk _ _ hs7, PP.cl, PP.n_sends, hsd7, _, rfl, as7, v2, rfl, (by rw [← g2]; exact DGet.k (k := Sum.inr y) (sk _ _ hks)),
        _, rfl, s, CP, dx, _, _, rfl, sk _ _ hs7, PP.cl, PP.n_keeps, hkp7, _, rfl, ak7, v3, rfl, (by rw [← g3]; exact DGet.k (k := Sum.inr y) (sk _ _ hkk)), (by show 4 ≤ sizeLine; decide), fun tt htt => ?_⟩
      exact tupStep hD sx hacc hlen htt (by have := hgood.2; rw [sizeLine_eq]; omega)
    rintro H9 ⟨sx9, acc9, hacc9, hlen9⟩
    refine ⟨D, acc9, rfl, .inl ⟨SqL.of hacc9, fun l9 hl9 => ?_⟩⟩
    have s9 := (s8.trans sx9).trans (Same.new (o := .tup acc9) hl9)
    have hqa10 := (sx9.trans (Same.new (o := .tup acc9) hl9)) _ _ hA8
    generalize upd H9 l9 (.tup acc9) = H10 at s9 hqa10
    have f10 := f7.same s9
    have hs10 := s9 _ _ hs7
    have hkf10 := s9 _ _ hkf
    have hkb10 := s9 _ _ hkb
    have hkk10 := s9 _ _ hkk
    have hkh10 := s9 _ _ hkh
    have hth10 : ∀ kv ∈ kh, ∃ t x y, kv.2 = .ref t ∧ H10 t = some (.tup [x, y]) := fun kv h => by
      obtain ⟨t, x, y, e1, e2⟩ := hth kv h
      exact ⟨t, x, y, e1, s9 _ _ e2⟩
    refine ⟨_, rfl, s, CP, dx, _, rfl, hs10, PP.cl, PP.n_asks, by omega, ?_⟩
    have hlenA := putF_len "asks" (.ref l9) fs7
    have htxA : (putF "asks" (.ref l9) fs7).lookup ("text" : Str) = some (.str tx) := by walk_at "pf"
    have hfA : (putF "asks" (.ref l9) fs7).lookup ("firsts" : Str) = some (.ref af7) := by walk_at "pf"
    have hpA : (putF "asks" (.ref l9) fs7).lookup ("keeps" : Str) = some (.ref ak7) := by walk_at "pf"
    have hbA : (putF "asks" (.ref l9) fs7).lookup ("backs" : Str) = some (.ref ab7) := by walk_at "pf"
    have hhA : (putF "asks" (.ref l9) fs7).lookup ("hands" : Str) = some (.ref ah7) := by walk_at "pf"
    have hsA : (upd H10 s (.ins CP dx (putF "asks" (.ref l9) fs7))) s = some (.ins CP dx (putF "asks" (.ref l9) fs7)) := upd_same
    have TA := Tr.fld hs10 (o' := .ins CP dx (putF "asks" (.ref l9) fs7))
    have fA : Fr s H (upd H10 s (.ins CP dx (putF "asks" (.ref l9) fs7))) := f10.fld
    generalize putF "asks" (.ref l9) fs7 = fsA at hlenA htxA hfA hpA hbA hhA hsA TA fA
    have hkfA := TA _ _ (by intro _ _ _ z; cases z) hkf10
    have hkkA := TA _ _ (by intro _ _ _ z; cases z) hkk10
    have hqaA := TA _ _ (by intro _ _ _ z; cases z) hqa10
    have hkbA := TA _ _ (by intro _ _ _ z; cases z) hkb10
    have hkhA := TA _ _ (by intro _ _ _ z; cases z) hkh10
    have hthA : ∀ kv ∈ kh, ∃ t x y, kv.2 = .ref t ∧ (upd H10 s (.ins CP dx fsA)) t = some (.tup [x, y]) := fun kv h => by
      obtain ⟨t, x, y, e1, e2⟩ := hth10 kv h
      exact ⟨t, x, y, e1, TA _ _ (by intro _ _ _ z; cases z) e2⟩
    generalize upd H10 s (.ins CP dx fsA) = HA at hsA fA hkfA hkkA hqaA hkbA hkhA hthA
    -- cells
    refine ⟨_, rfl, s, CP, dx, _, _, rfl, hsA, PP.cl, PP.n_firsts, hfA, af7, kf, rfl, hkfA, fun qb hqb => ?_⟩
    have sB := Same.new (o := .lst (kf.map fun kv => kV kv.1)) hqb
    have hB : (upd HA qb (.lst (kf.map fun kv => kV kv.1))) qb = some (.lst (r7.1.map V.str)) := by rw [upd_same, keys_list ekf]
    generalize upd HA qb (.lst (kf.map fun kv => kV kv.1)) = HB at sB hB
    refine ⟨qb, rfl, ⟨_, SqL.of hB⟩, fun D2 hD2 => ?_⟩
    have sD2 := Same.new (o := .lst []) hD2
    refine lc_list (K := K) (a := qb) (xs := r7.1.map V.str) (fun i H' => Same HB H' ∧ ∃ acc, H' D2 = some (.lst acc) ∧ acc.length = i) ⟨sD2, [], upd_same, rfl⟩ (fun i H' _ ⟨sx, _⟩ => sx.seq (SqL.of hB)) ?_ ?_
    · rintro i x H' hx ⟨sx, acc, hacc, hlen⟩
      obtain ⟨y, hy, rfl⟩ : ∃ y, r7.1[i]? = some y ∧ x = V.str y := by
        rw [List.getElem?_map] at hx
        cases e : r7.1[i]? with
        | none =>
          rw [e] at hx
          cases hx
        | some y =>
          rw [e] at hx
          exact ⟨y, rfl, (Option.some.inj hx).symm⟩
      have hm : y ∈ r7.1 := List.mem_of_getElem? hy
      have hil : i < r7.1.length := (List.getElem?_eq_some_iff.mp hy).1
      obtain ⟨v1, g1, _⟩ := valV_there ekf hm
      obtain ⟨v2, g2, _⟩ := valV_there ekb hm
      have sk := sB.trans sx
      refine ⟨rfl, ?_⟩
      refine ⟨_, rfl, _, rfl, s, CP, dx, _, _, rfl, sk _ _ hsA, PP.cl, PP.n_firsts, hfA, _, rfl, af7, v1, rfl, (by rw [← g1]; exact DGet.k (k := Sum.inr y) (sk _ _ hkfA)), _, rfl, s, CP, dx, _, _, rfl, sk _ _ hsA, PP.cl, PP.n_backs, hbA, _, rfl, ab7, v2, rfl, (by rw [← g2]; exact DGet.k (k := Sum.inr y) (sk _ _ hkbA)),
        (by show 3 ≤ sizeLine; decide), fun tt htt => ?_⟩
      exact tupStep hD2 sx hacc hlen htt (by rw [sizeLine_eq]; omega)
    rintro H11 ⟨sx11, acc11, hacc11, hlen11⟩
    refine ⟨D2, acc11, rfl, .inl ⟨SqL.of hacc11, fun l11 hl11 => ?_⟩⟩
    have s11 := (sB.trans sx11).trans (Same.new (o := .tup acc11) hl11)
    generalize upd H11 l11 (.tup acc11) = H12 at s11
    have f12 := fA.same s11
    have hs12 := s11 _ _ hsA
    have hkh12 := s11 _ _ hkhA
    have hkk12 := s11 _ _ hkkA
    have hkb12 := s11 _ _ hkbA
    have hqa12 := s11 _ _ hqaA
    have hth12 : ∀ kv ∈ kh, ∃ t x y, kv.2 = .ref t ∧ H12 t = some (.tup [x, y]) := fun kv h => by
      obtain ⟨t, x, y, e1, e2⟩ := hthA kv h
      exact ⟨t, x, y, e1, s11 _ _ e2⟩
    refine ⟨_, rfl, s, CP, dx, _, rfl, hs12, PP.cl, PP.n_cells, by omega, ?_⟩
    have hlenC := putF_len "cells" (.ref l11) fsA
    have htxC : (putF "cells" (.ref l11) fsA).lookup ("text" : Str) = some (.str tx) := by walk_at "pf"
    have hpC : (putF "cells" (.ref l11) fsA).lookup ("keeps" : Str) = some (.ref ak7) := by walk_at "pf"
    have hbC : (putF "cells" (.ref l11) fsA).lookup ("backs" : Str) = some (.ref ab7) := by walk_at "pf"
    have hhC : (putF "cells" (.ref l11) fsA).lookup ("hands" : Str) = some (.ref ah7) := by walk_at "pf"
    have hsC : (upd H12 s (.ins CP dx (putF "cells" (.ref l11) fsA))) s = some (.ins CP dx (putF "cells" (.ref l11) fsA)) := upd_same
    have TC := Tr.fld hs12 (o' := .ins CP dx (putF "cells" (.ref l11) fsA))
    have fC : Fr s H (upd H12 s (.ins CP dx (putF "cells" (.ref l11) fsA))) := f12.fld
    generalize putF "cells" (.ref l11) fsA = fsC at hlenC htxC hpC hbC hhC hsC TC fC
    have hkkC := TC _ _ (by intro _ _ _ z; cases z) hkk12
    have hkbC := TC _ _ (by intro _ _ _ z; cases z) hkb12
    have hqaC := TC _ _ (by intro _ _ _ z; cases z) hqa12
    have hkhC := TC _ _ (by intro _ _ _ z; cases z) hkh12
    have hthC : ∀ kv ∈ kh, ∃ t x y, kv.2 = .ref t ∧ (upd H12 s (.ins CP dx fsC)) t = some (.tup [x, y]) := fun kv h => by
      obtain ⟨t, x, y, e1, e2⟩ := hth12 kv h
      exact ⟨t, x, y, e1, TC _ _ (by intro _ _ _ z; cases z) e2⟩
    generalize upd H12 s (.ins CP dx fsC) = HC at hsC fC hkkC hkbC hqaC hkhC hthC
    -- deeds
    refine ⟨_, rfl, s, CP, dx, _, _, rfl, hsC, PP.cl, PP.n_hands, hhC, ah7, kh, rfl, hkhC, fun qd hqd => ?_⟩
    have sE := Same.new (o := .lst (kh.map fun kv => kV kv.1)) hqd
    have hE : (upd HC qd (.lst (kh.map fun kv => kV kv.1))) qd = some (.lst (r7.2.map V.str)) := by rw [upd_same, keys_list ekh]
    generalize upd HC qd (.lst (kh.map fun kv => kV kv.1)) = HE at sE hE
    refine ⟨qd, rfl, ⟨_, SqL.of hE⟩, fun D3 hD3 => ?_⟩
    have sD3 := Same.new (o := .lst []) hD3
    refine lc_list (K := K) (a := qd) (xs := r7.2.map V.str) (fun i H' => Same HE H' ∧ ∃ acc, H' D3 = some (.lst acc) ∧ acc.length = i) ⟨sD3, [], upd_same, rfl⟩ (fun i H' _ ⟨sx, _⟩ => sx.seq (SqL.of hE)) ?_ ?_
    · rintro i x H' hx ⟨sx, acc, hacc, hlen⟩
      obtain ⟨y, hy, rfl⟩ : ∃ y, r7.2[i]? = some y ∧ x = V.str y := by
        rw [List.getElem?_map] at hx
        cases e : r7.2[i]? with
        | none =>
          rw [e] at hx
          cases hx
        | some y =>
          rw [e] at hx
          exact ⟨y, rfl, (Option.some.inj hx).symm⟩
      have hm : y ∈ r7.2 := List.mem_of_getElem? hy
      have hil : i < r7.2.length := (List.getElem?_eq_some_iff.mp hy).1
      obtain ⟨v1, g1, kv1, hkv1, ekv1⟩ := valV_there ekh hm
      obtain ⟨tq, xq, yq, eq1, eq2⟩ := hthC kv1 hkv1
      have ev1 : v1 = .ref tq := ekv1.symm.trans eq1
      have sk := sE.trans sx
      refine ⟨rfl, ?_⟩
      refine ⟨_, rfl, _, rfl, s, CP, dx, _, _, rfl, sk _ _ hsC, PP.cl, PP.n_hands, hhC, _, rfl, ah7, v1, rfl, (by rw [← g1]; exact DGet.k (k := Sum.inr y) (sk _ _ hkhC)), tq, _, _, _, ev1, rfl, SqT.of (sk _ _ eq2), rfl,
        (by show 2 ≤ sizeLine; decide), fun tt htt => ?_⟩
      exact tupStep hD3 sx hacc hlen htt (by rw [sizeLine_eq]; omega)
    rintro H13 ⟨sx13, acc13, hacc13, hlen13⟩
    refine ⟨D3, acc13, rfl, .inl ⟨SqL.of hacc13, fun l13 hl13 => ?_⟩⟩
    have s13 := (sE.trans sx13).trans (Same.new (o := .tup acc13) hl13)
    generalize upd H13 l13 (.tup acc13) = H14 at s13
    have f14 := fC.same s13
    have hs14 := s13 _ _ hsC
    refine ⟨_, rfl, s, CP, dx, _, rfl, hs14, PP.cl, PP.n_deeds, by omega, ?_⟩
    have hlenE := putF_len "deeds" (.ref l13) fsC
    have htxE : (putF "deeds" (.ref l13) fsC).lookup ("text" : Str) = some (.str tx) := by walk_at "pf"
    have hpE : (putF "deeds" (.ref l13) fsC).lookup ("keeps" : Str) = some (.ref ak7) := by walk_at "pf"
    have hbE : (putF "deeds" (.ref l13) fsC).lookup ("backs" : Str) = some (.ref ab7) := by walk_at "pf"
    have hsE : (upd H14 s (.ins CP dx (putF "deeds" (.ref l13) fsC))) s = some (.ins CP dx (putF "deeds" (.ref l13) fsC)) := upd_same
    have TE := Tr.fld hs14 (o' := .ins CP dx (putF "deeds" (.ref l13) fsC))
    have fE : Fr s H (upd H14 s (.ins CP dx (putF "deeds" (.ref l13) fsC))) := f14.fld
    generalize putF "deeds" (.ref l13) fsC = fsE at hlenE htxE hpE hbE hsE TE fE
    have hkkE := TE _ _ (by intro _ _ _ z; cases z) (s13 _ _ hkkC)
    have hkbE := TE _ _ (by intro _ _ _ z; cases z) (s13 _ _ hkbC)
    have hqaE := TE _ _ (by intro _ _ _ z; cases z) (s13 _ _ hqaC)
    generalize upd H14 s (.ins CP dx fsE) = HE2 at hsE fE hkkE hkbE hqaE
    -- keeping
    refine ⟨_, rfl, qa, rfl, ⟨_, SqL.of hqaE⟩, fun D4 hD4 => ?_⟩
    have sD4 := Same.new (o := .lst []) hD4
    refine lc_list (K := K) (a := qa) (xs := asks.map V.str) (fun i H' => Same HE2 H' ∧ ∃ acc, H' D4 = some (.lst acc) ∧ acc.length ≤ i) ⟨sD4, [], upd_same, Nat.le_refl _⟩ (fun i H' _ ⟨sx, _⟩ => sx.seq (SqL.of hqaE)) ?_ ?_
    · rintro i x H' hx ⟨sx, acc, hacc, hlen⟩
      obtain ⟨y, hy, rfl⟩ : ∃ y, asks[i]? = some y ∧ x = V.str y := by
        rw [List.getElem?_map] at hx
        cases e : asks[i]? with
        | none =>
          rw [e] at hx
          cases hx
        | some y =>
          rw [e] at hx
          exact ⟨y, rfl, (Option.some.inj hx).symm⟩
      have hm : y ∈ asks := List.mem_of_getElem? hy
      have hil : i < asks.length := (List.getElem?_eq_some_iff.mp hy).1
      obtain ⟨v1, g1, kv1, hkv1, ekv1⟩ := valV_there ekk hm
      obtain ⟨zs, ezs⟩ := allK kv1 hkv1
      have ev1 : v1 = .str zs := ekv1.symm.trans ezs
      have sk := (Same.refl HE2).trans sx
      refine ⟨rfl, ?_⟩
      refine ⟨_, rfl, s, CP, dx, _, _, rfl, sk _ _ hsE, PP.cl, PP.n_keeps, hpE, _, rfl, ak7, v1, rfl, (by rw [← g1]; exact DGet.k (k := Sum.inr y) (sk _ _ hkkE)), (by rw [ev1]; rfl), _, rfl, ?_⟩
      refine ite2 (fun c => ?_) (fun c => ?_)
      · refine ⟨_, rfl, acc, hacc, by rw [sizeLine_eq]; omega, fun b o e => ?_, _, upd_same, by rw [List.length_append]; show acc.length + 1 ≤ _; omega⟩
        rw [upd_ne (ne_of_none e hD4)]
        exact sx b o e
      · exact ⟨sx, acc, hacc, by omega⟩
    rintro H15 ⟨sx15, acc15, hacc15, hlen15⟩
    have hsF0 := sx15 _ _ hsE
    refine ⟨_, rfl, s, CP, dx, _, rfl, hsF0, PP.cl, PP.n_keeping, by omega, ?_⟩
    have hlenF := putF_len "keeping" (.ref D4) fsE
    have htxF : (putF "keeping" (.ref D4) fsE).lookup ("text" : Str) = some (.str tx) := by walk_at "pf"
    have hbF : (putF "keeping" (.ref D4) fsE).lookup ("backs" : Str) = some (.ref ab7) := by walk_at "pf"
    have hsF : (upd H15 s (.ins CP dx (putF "keeping" (.ref D4) fsE))) s = some (.ins CP dx (putF "keeping" (.ref D4) fsE)) := upd_same
    have TF := Tr.fld hsF0 (o' := .ins CP dx (putF "keeping" (.ref D4) fsE))
    have fF : Fr s H (upd H15 s (.ins CP dx (putF "keeping" (.ref D4) fsE))) := (fE.same sx15).fld
    generalize putF "keeping" (.ref D4) fsE = fsF at hlenF htxF hbF hsF TF fF
    have hkbF := TF _ _ (by intro _ _ _ z; cases z) (sx15 _ _ hkbE)
    generalize upd H15 s (.ins CP dx fsF) = HF at hsF fF hkbF
    -- redone
    refine ⟨_, rfl, s, CP, dx, _, _, rfl, hsF, PP.cl, PP.n_backs, hbF, ab7, kb, rfl, hkbF, fun qe hqe => ?_⟩
    have sG := Same.new (o := .lst (kb.map fun kv => kV kv.1)) hqe
    have hG : (upd HF qe (.lst (kb.map fun kv => kV kv.1))) qe = some (.lst (r7.1.map V.str)) := by rw [upd_same, keys_list ekb]
    generalize upd HF qe (.lst (kb.map fun kv => kV kv.1)) = HG at sG hG
    refine ⟨qe, rfl, ⟨_, SqL.of hG⟩, fun D5 hD5 => ?_⟩
    have sD5 := Same.new (o := .lst []) hD5
    refine lc_list (K := K) (a := qe) (xs := r7.1.map V.str) (fun i H' => Same HG H' ∧ ∃ acc, H' D5 = some (.lst acc) ∧ acc.length ≤ i) ⟨sD5, [], upd_same, Nat.le_refl _⟩ (fun i H' _ ⟨sx, _⟩ => sx.seq (SqL.of hG)) ?_ ?_
    · rintro i x H' hx ⟨sx, acc, hacc, hlen⟩
      obtain ⟨y, hy, rfl⟩ : ∃ y, r7.1[i]? = some y ∧ x = V.str y := by
        rw [List.getElem?_map] at hx
        cases e : r7.1[i]? with
        | none =>
          rw [e] at hx
          cases hx
        | some y =>
          rw [e] at hx
          exact ⟨y, rfl, (Option.some.inj hx).symm⟩
      have hm : y ∈ r7.1 := List.mem_of_getElem? hy
      have hil : i < r7.1.length := (List.getElem?_eq_some_iff.mp hy).1
      obtain ⟨v1, g1, kv1, hkv1, ekv1⟩ := valV_there ekb hm
      obtain ⟨zs, ezs⟩ := allB kv1 hkv1
      have ev1 : v1 = .str zs := ekv1.symm.trans ezs
      have sk := sG.trans sx
      refine ⟨rfl, ?_⟩
      refine ⟨_, rfl, s, CP, dx, _, _, rfl, sk _ _ hsF, PP.cl, PP.n_backs, hbF, _, rfl, ab7, v1, rfl, (by rw [← g1]; exact DGet.k (k := Sum.inr y) (sk _ _ hkbF)), (by rw [ev1]; rfl), _, rfl, ?_⟩
      refine ite2 (fun c => ?_) (fun c => ?_)
      · refine ⟨_, rfl, acc, hacc, by rw [sizeLine_eq]; omega, fun b o e => ?_, _, upd_same, by rw [List.length_append]; show acc.length + 1 ≤ _; omega⟩
        rw [upd_ne (ne_of_none e hD5)]
        exact sx b o e
      · exact ⟨sx, acc, hacc, by omega⟩
    rintro H16 ⟨sx16, acc16, hacc16, hlen16⟩
    have hsH := sx16 _ _ (sG _ _ hsF)
    refine ⟨_, rfl, s, CP, dx, _, rfl, hsH, PP.cl, PP.n_redone, by omega, ?_⟩
    exact progOk_ok k em ((fF.same sG).same sx16).fld upd_same (by walk_at "pf")
end
end K6

/-! text LC -/
set_option Elab.async false
set_option linter.all false
set_option maxRecDepth 100000
set_option maxHeartbeats 4000000
namespace K6
open PySem PySem.Spec PyProof.Rows L2
/-! ### a class is called in a try -/
section
variable {X : Cx} {k : Nat} {f C : Addr} {fd : FuncData} {ps : List Str} {sp : Sp} {E : L2.St → XK} {x : Str} {p pos : Pos} {e : Expr} {es : List Expr} {t : TA}
theorem mkAt {pn0 : List (Addr × Obj)} {τ : L2.St} {G : Hp} {z : Shared} {R : VK} {as0 : List Value} {bs : List V} {EE : XK} {XT : CXT} (M : Mk X.K C f) (F : FnOk X.prog X.w X.K X.mg X.base XT k f fd ps sp) (room : Room (k + 1) X.A) (B : Binds X.K fd ps []) (hx : PassesAt XT X τ EE) (J : Inv X pn0 τ G z) (r : Vals bs as0)
    (g : ∀ s dx, G s = none → G dx = none → dx ≠ s → sp (.ref s :: bs) (upd (upd G dx (.own s)) s (.ins C dx [])) (fun v G2 => v = .non ∧ R (.ref s) G2) EE) : wpAny (model X.prog X.w) X.A (call (.ref C) as0) (EP X pn0 τ R) X.xe z := by
  have g1 := g (z.heap.objs.size + 1) z.heap.objs.size (J.hok.fresh (Nat.le_succ _)) (J.hok.fresh (Nat.le_refl _)) (Nat.ne_of_lt (Nat.lt_succ_self _))
  have J2 := Inv.made (C := C) J
  have r1 : Vals (V.ref (z.heap.objs.size + 1) :: bs) (Value.ref (z.heap.objs.size + 1) :: as0) := .cons rfl r
  have len1 : (Value.ref (z.heap.objs.size + 1) :: as0).length = ps.length := r1.length.symm.trans (F.len _ _ _ _ g1)
  have b1 := B _ (Value.ref (z.heap.objs.size + 1) :: as0) J2.kIn (by rw [List.append_nil]; exact len1)
  rw [List.append_nil] at b1
  refine wpAny_call (make_map (f := f) J.kIn M.makes M.init (beq_iff_eq.mp M.fn) (codeAny_mono (F.run _ X.stack _ _ ⟨Value.ref (z.heap.objs.size + 1) :: as0, []⟩ (Value.ref (z.heap.objs.size + 1) :: as0) _ _ EE (room.make C as0 []) (J2.env0.make C as0 []) b1 r1 g1) fun q z' hz => ?_))
  match q, hz with
  | .error w, hz => exact hx pn0 _ _ w z' J2 hz
  | .ok (.ret u), hz =>
    obtain ⟨v, G3, J3, rv, ev, q3⟩ := J2.after hz
    cases ev
    exact ⟨rv, .ref (z.heap.objs.size + 1), G3, J3, rfl, q3⟩
  | .ok .next, hz => exact hz.elim
  | .ok .brk, hz => exact hz.elim
  | .ok .cont, hz => exact hz.elim
def tMkS (C : Addr) (sp : Sp) (E : L2.St → XK) (t : TA) : TE := fun σ H Q => t σ H fun vs H1 => ∀ s dx, H1 s = none → H1 dx = none → dx ≠ s → sp (.ref s :: vs) (upd (upd H1 dx (.own s)) s (.ins C dx [])) (fun v H2 => v = .non ∧ Q (.ref s) H2) (E σ)
theorem pe_mkS {XT : CXT} (M : Mk X.K C f) (F : FnOk X.prog X.w X.K X.mg X.base XT k f fd ps sp) (room : Room (k + 1) X.A) (hg : Gl X x) (hm : X.mg x = some (.ref C)) (B : Binds X.K fd ps []) (hx : ∀ σ, PassesAt XT X σ (E σ)) (ha : PA X (e :: es) t) (nd : (x == ("__debug__" : Str)) = false := by decide)
    (st : starEach (e :: es) X.env = (false, eval e X.env) :: starEach es X.env := by rfl) (pl : (backTo pos (starEach es X.env)).any (·.1) = false := by rfl) : PE X (.Call (.Name x p) (e :: es) [] pos) (tMkS C sp E t) := by
  refine ⟨fun pn0 z τ G R J h => wpAny_Call_Name_kw (ld_glob J hg hm ?_ nd)⟩
  exact PySem.W.callWith_K (h₀ := X.base) J.ok.mod.kin M.kp (thn (ha.run pos pn0 z τ G _ J h) fun us z1 ⟨vs, G1, J1, r, q⟩ => ⟨J1.kIn, mkAt M F room B (hx τ) J1 r q⟩) st pl
end
/-! ### isinstance(error, c), error the BadText that the suite holds, with its own dict -/
structure IsD (K : PySem.W.Frag) (C : Addr) : Prop where
  cl : (PySem.W.clsIn K C).isSome = true
  hg : PySem.W.findIn K (.ref C) "__getattribute__" = some (some (.builtin "BaseException.__getattribute__"))
  gt : ∃ gt, PySem.W.findIn K (.ref C) "__getattr__" = some gt
  sb : PySem.W.subIn K (.ref C) (.type "BaseException") = some true
  ac : PySem.W.findIn K (.ref C) "__class__" = some (some (.builtin "object.__class__"))
  sg : PySem.W.specialIn K (.builtin "object.__class__") "__get__" = some (some (.builtin "getset_descriptor.__get__"))
  tk : PySem.W.takesIn K (.builtin "object.__class__") = some true
  mo : PySem.W.mroIn K C (.type "object") = some true
def rIsD (K : PySem.W.Frag) (C a : Addr) (cls : Value) (d : Option Addr) : List V → Hp → VK → Prop := fun xs H Q => cls = .ref C ∧ ∃ (dd : Addr) (v : V) (c : V) (u : Value) (b : Bool), d = some dd ∧ H dd = some (.xd [(("line" : Str), v)]) ∧ xs = [.ref a, c] ∧ (∀ y, RelV c y → y = u) ∧ PySem.W.kitOne K (.ref C) u = some b ∧ Q (.bl b) H
theorem call_isD {X : Cx} {a C : Addr} {oe : Obj} {cls : Value} {d : Option Addr} {pn : List (Addr × Obj)} (D : IsD X.K C) (hz : Zc cls d oe) (hf : ∃ vs, oe.data = .fields vs) : CallR (X.suite a ((a, oe) :: pn)) (.builtin "isinstance") (rIsD X.K C a cls d) := by
  intro pins s σ H xs us Q I r h
  obtain ⟨ec, dd, v, c, u, b, ed, hd, rfl, hu, ek, q⟩ := h
  subst ec ed
  obtain ⟨u1, u2, rfl, rx, ry⟩ := vals2 r
  cases (show u1 = Value.ref a from rx)
  cases hu _ ry
  obtain ⟨ha, _⟩ := I.pin (a, oe) (List.mem_append_left _ List.mem_cons_self)
  obtain ⟨vs, hv⟩ := hf
  obtain ⟨mA, hns, _⟩ := (show ObjOk X.prog X.w H s.heap dd (.xd [(("line" : Str), v)]) from I.hok dd _ hd)
  obtain ⟨od, ho, _⟩ := lookIn_ns hns
  have J : PySem.W.InstAt s.heap a oe C (some od) := ⟨ha, hz.1, by unfold PySem.W.notCls; rw [hv] <;> rfl, by rw [hz.2]; exact ho⟩
  obtain ⟨gt, hgt⟩ := D.gt
  exact PySem.W.kia_one (PySem.W.kitx_exc (od := some od) D.cl D.hg hgt D.sb D.ac D.sg D.tk D.mo) I.kIn J ek (fun z => nomatch z) fun tk => ⟨.bl b, H, I.tok tk, rfl, q⟩
/-! ### _law_caught -/
abbrev sCaught : Stmt := top 50
def capM (tx : Str) : V := match progM (Txt.split tx "\n") with
  | .ok _ => .str "told"
  | .error l => .int (l : Nat)
/-- a text that is small enough, and whose mirror is told -/
structure TxOk (tx : Str) : Prop where
  len : tx.length ≤ 1000000
  sm : Small (Txt.split tx "\n")
  no : ∀ l, progM (Txt.split tx "\n") = .error l → l ≠ 0
structure CX6 (K : PySem.W.Frag) (mg : Str → Option Value) (CB CL CP : Addr) : Prop where
  gP : mg "Program" = some (.ref CP)
  gL : mg "LateError" = some (.ref CL)
  gB : mg "BadText" = some (.ref CB)
  isi : mg "isinstance" = none
  val : mg "ValueError" = none
  ex : PySem.W.exmOne K (.ref CB) (.ref CL) = some true
  k1 : PySem.W.kitOne K (.ref CB) (.ref CB) = some true
  k2 : PySem.W.kitOne K (.ref CB) (.type "ValueError") = some true
section
variable {P : Program} {w : World} {K : PySem.W.Frag} {mg : Str → Option Value} {base : Heap} {C CB CL CP fB : Addr}
def spCaught : Sp := fun vs H Q _ => ∃ tx : Str, vs = [.str tx] ∧ TxOk tx ∧ ∀ H', Same H H' → Q (capM tx) H'
theorem scCaught : FnScope ["_law_text", "_law_made", "error"] ["_law_text"] (defScope sCaught) := ⟨rfl, rfl, rfl, by decide +kernel, rfl, by decide +kernel, by decide +kernel⟩
theorem ok_caught {f fP : Addr} {fd fdP : FuncData} (F : Fun K "_law_caught" "_law_caught" sCaught f fd) (low : PySem.LowX.LowTxt K mg CB fB) (PP : PX K CP) (D : IsD K CB) (X6 : CX6 K mg CB CL CP) (MP : Mk K CP fP) (GP : FnOk P w K mg base (L2.CX P w) 20 fP fdP ["self", "text"] (spProg CB CP)) (bP : Binds K fdP ["self", "text"] []) :
    FnOk P w K mg base CX0 22 f fd ["_law_text"] spCaught := by
  refine F.ok scCaught (fun vs H Q E h => ?_) (fun cdv A outer s0 H vs Q E hr h => ?_)
  · obtain ⟨tx, rfl, _⟩ := h
    rfl
  · obtain ⟨tx, rfl, ht, k⟩ := h
    refine ⟨_, pss_cons (ps_try_as (i := 2) (Wout := fun _ _ _ _ => False) rfl rfl scCaught.nd rfl rfl ⟨rfl, by decide, .inl X6.gL⟩ takes0
        (fun W pn xe tk _ => pss_one (ps_set (i := 1) scCaught.nd rfl (Or.inl rfl) (pe_mkS MP GP hr rfl X6.gP bP (fun σ => passAt tk σ) (pa_cons (pv 0) pa_nil))))
        (fun a oe cls d pn hz hf => pss_one (ps_ret (pe_ifExp (PW.pt (pw_and (pt_val (pe_callB (call_isD D hz hf) (by rfl) X6.isi (by decide +kernel) (pa_cons (pv 2) (pa_cons (pe_glob (v := .ref CB) rfl X6.gB rfl) pa_nil)))) (pw_and1 (pt_val (pe_callB (call_isD D hz hf) (by rfl) X6.isi (by decide +kernel) (pa_cons (pv 2) (pa_cons (pe_bltn (v := .ty "ValueError") (by rfl) X6.val (by decide +kernel) rfl) pa_nil))))))) (pe_byLow low hz hf (pv 2)) pe_non))))
      (pss_one (ps_ret (pe_ifExp (pt_cmpR op_eq (pe_fld (pv 1) rfl) (pv 0) (nomark _)) pe_str pe_non))), ?_⟩
    refine ⟨_, rfl, fun s dx hs hdx hne => ?_⟩
    refine ⟨s, dx, tx, rfl, upd_same, ht.len, ht.sm, ?_⟩
    have fr : ∀ {H' : Hp}, Fr s (upd (upd H dx (.own s)) s (.ins CP dx [])) H' → Same H H' := fun f b o e => f b o (ne_of_none e hs) (by rw [upd_ne (ne_of_none e hs), upd_ne (ne_of_none e hdx)]; exact e)
    have hcap : capM tx = capM tx := rfl
    conv at hcap => rhs; unfold capM
    unfold ProgOk
    cases em : progM (Txt.split tx "\n") with
    | ok r =>
      rw [em] at hcap
      refine fun H' f' h' => ?_
      obtain ⟨fs, hfs, htx⟩ := h'
      refine ⟨rfl, ?_⟩
      refine ⟨_, rfl, s, CP, dx, _, _, rfl, hfs, PP.cl, PP.n_text, htx, _, rfl, rfl, ?_⟩
      rw [decide_eq_true rfl]
      refine ⟨_, rfl, ?_⟩
      have z := k _ (fr f')
      rw [hcap] at z
      exact z
    | error l =>
      rw [em] at hcap
      refine ⟨ht.no l em, fun H' d f' hd => ?_⟩
      refine ⟨true, X6.ex, fun _ a0 ha0 => ?_, fun q => Bool.noConfusion q⟩
      refine ⟨_, rfl, rfl, d, _, _, _, true, rfl, hd, rfl, (fun y hy => hy), X6.k1, true, rfl, ?_⟩
      refine iteT ?_
      refine ⟨_, rfl, rfl, d, _, _, _, true, rfl, hd, rfl, (fun y hy => hy), X6.k2, true, rfl, ?_⟩
      refine iteT ?_
      refine ⟨_, rfl, rfl, rfl, d, _, rfl, hd, ?_⟩
      have z := k _ (fr f')
      rw [hcap] at z
      exact z
end
end K6

/-! text MA -/
set_option Elab.async false
set_option linter.all false
set_option maxRecDepth 100000
set_option maxHeartbeats 4000000
namespace K6
open PySem PySem.Spec PyProof.Rows L2
theorem app_list (a b : Str) : (a ++ b).cps.toList = a.cps.toList ++ b.cps.toList := by
  show (a.cps ++ b.cps).toList = _
  exact Array.toList_append
theorem join_mem {y p : Str} {c : Nat} : ∀ {l : List Str}, p ∈ l → c ∈ p.cps.toList → c ∈ (Str.join y l).cps.toList
  | [], h, _ => by cases h
  | [x], h, hc => by
    rw [List.mem_singleton.mp h] at hc
    exact hc
  | x :: z :: r, h, hc => by
    show c ∈ (x ++ y ++ Str.join y (z :: r)).cps.toList
    rw [app_list, app_list]
    rcases List.mem_cons.mp h with rfl | h
    · exact List.mem_append_left _ (List.mem_append_left _ hc)
    · exact List.mem_append_right _ (join_mem h hc)
theorem part_mem {x y p : Str} {c : Nat} (h : p ∈ Txt.split x y) (hc : c ∈ p.cps.toList) : c ∈ x.cps.toList := by
  have z := join_mem (y := y) h hc
  rw [StrLaws.join_split] at z
  exact z
theorem cut_mem {x : Str} {lo hi : Option Int} {c : Nat} (hc : c ∈ (cutS x lo hi).cps.toList) : c ∈ x.cps.toList := by
  have z : c ∈ (x.cps.toList.drop _).take _ := hc
  exact List.mem_of_mem_drop (List.mem_of_mem_take z)
theorem strOk_of {x : Str} (h : ∀ c ∈ x.cps.toList, c < 0x110000) : PyData.strOk x = true := by
  unfold PyData.strOk
  rw [← Array.all_toList]
  exact List.all_eq_true.mpr fun c hc => decide_eq_true (h c hc)
theorem ok_strOf {x : Str} (h : PyData.strOk x = true) : ∀ c ∈ x.cps.toList, c < 0x110000 := fun c hc => by
  unfold PyData.strOk at h
  rw [← Array.all_toList] at h
  exact of_decide_eq_true (List.all_eq_true.mp h c hc)
theorem small_of {rows : List Str} (h1 : rows.length ≤ 20000) (h2 : ∀ x ∈ rows, x.length ≤ 100000 ∧ PyData.strOk x = true) : Small rows := by
  have key : ∀ n d, (wordsM rows n d).length ≤ 1000000 ∧ ∀ x ∈ wordsM rows n d, PyData.strOk x = true ∧ x.length ≤ 1000000 := fun n d => by
    unfold wordsM
    split
    · exact ⟨by simp, fun x h => by cases h⟩
    · rename_i row e
      obtain ⟨a, b⟩ := h2 row (List.mem_of_getElem? e)
      split
      · split
        · exact ⟨by simp, fun x h => by cases h⟩
        · refine ⟨?_, fun x h => ⟨?_, ?_⟩⟩
          · have z := split_le (cutS row (some ((leadM d).length : Int)) none) " "
            have q := cutS_len row (some ((leadM d).length : Int)) none
            omega
          · exact strOk_of fun c hc => ok_strOf b c (cut_mem (part_mem h hc))
          · have z := part_short h
            have q := cutS_len row (some ((leadM d).length : Int)) none
            omega
      · exact ⟨by simp, fun x h => by cases h⟩
  exact ⟨h1, fun x h => by have := (h2 x h).1; omega, fun n d => (key n d).1, fun n d => (key n d).2⟩
end K6

/-! text DR -/
set_option Elab.async false
set_option linter.all false
set_option maxRecDepth 100000
set_option maxHeartbeats 4000000
namespace K6
open PySem PySem.Spec PyProof.Rows L2
/-! ### what a value stands for -/
inductive D where
  | s (x : Str)
  | i (n : Int)
  | l (ds : List D)
  | t (ds : List D)
abbrev SA := Addr → Prop
mutual
def Rep (S : SA) : D → V → Hp → Prop
  | .s x, v, _ => v = .str x
  | .i n, v, _ => v = .int n
  | .l ds, v, H => ∃ a xs, v = .ref a ∧ S a ∧ H a = some (.lst xs) ∧ Reps S ds xs H
  | .t ds, v, H => ∃ a xs, v = .ref a ∧ S a ∧ H a = some (.tup xs) ∧ Reps S ds xs H
def Reps (S : SA) : List D → List V → Hp → Prop
  | [], xs, _ => xs = []
  | d :: ds, xs, H => ∃ y ys, xs = y :: ys ∧ Rep S d y H ∧ Reps S ds ys H
end
section
variable {S S' : SA}
mutual
theorem rep_mono {H H' : Hp} (k : ∀ a o, S a → H a = some o → S' a ∧ H' a = some o) : ∀ (d : D) (v : V), Rep S d v H → Rep S' d v H'
  | .s x, v, h => h
  | .i n, v, h => h
  | .l ds, v, h => by
    obtain ⟨a, xs, e, hs, h1, h2⟩ := h
    obtain ⟨z1, z2⟩ := k _ _ hs h1
    exact ⟨a, xs, e, z1, z2, reps_mono k ds xs h2⟩
  | .t ds, v, h => by
    obtain ⟨a, xs, e, hs, h1, h2⟩ := h
    obtain ⟨z1, z2⟩ := k _ _ hs h1
    exact ⟨a, xs, e, z1, z2, reps_mono k ds xs h2⟩
theorem reps_mono {H H' : Hp} (k : ∀ a o, S a → H a = some o → S' a ∧ H' a = some o) : ∀ (ds : List D) (xs : List V), Reps S ds xs H → Reps S' ds xs H'
  | [], xs, h => h
  | d :: ds, xs, h => by
    obtain ⟨y, ys, e, h1, h2⟩ := h
    exact ⟨y, ys, e, rep_mono k d y h1, reps_mono k ds ys h2⟩
end
theorem reps_len {H : Hp} : ∀ {ds : List D} {xs : List V}, Reps S ds xs H → xs.length = ds.length
  | [], xs, h => by
    rw [show xs = [] from h]
    rfl
  | d :: ds, xs, h => by
    obtain ⟨y, ys, rfl, _, h2⟩ := h
    rw [List.length_cons, List.length_cons, reps_len h2]
theorem reps_app {H : Hp} : ∀ {ds es : List D} {xs ys : List V}, Reps S ds xs H → Reps S es ys H → Reps S (ds ++ es) (xs ++ ys) H
  | [], es, xs, ys, h, g => by
    rw [show xs = [] from h]
    exact g
  | d :: ds, es, xs, ys, h, g => by
    obtain ⟨y, r, rfl, h1, h2⟩ := h
    exact ⟨y, r ++ ys, rfl, h1, reps_app h2 g⟩
theorem reps_take {H : Hp} : ∀ (k : Nat) {ds : List D} {xs : List V}, Reps S ds xs H → Reps S (ds.take k) (xs.take k) H
  | 0, ds, xs, h => by
    rw [List.take_zero, List.take_zero]
    rfl
  | k + 1, [], xs, h => by
    rw [show xs = [] from h]
    rfl
  | k + 1, d :: ds, xs, h => by
    obtain ⟨y, r, rfl, h1, h2⟩ := h
    exact ⟨y, r.take k, rfl, h1, reps_take k h2⟩
theorem reps_drop {H : Hp} : ∀ (k : Nat) {ds : List D} {xs : List V}, Reps S ds xs H → Reps S (ds.drop k) (xs.drop k) H
  | 0, ds, xs, h => h
  | k + 1, [], xs, h => by
    rw [show xs = [] from h]
    rfl
  | k + 1, d :: ds, xs, h => by
    obtain ⟨y, r, rfl, h1, h2⟩ := h
    exact reps_drop k h2
theorem reps_get {H : Hp} : ∀ {k : Nat} {ds : List D} {xs : List V} {d : D}, Reps S ds xs H → ds[k]? = some d → ∃ v, xs[k]? = some v ∧ Rep S d v H
  | k, [], xs, d, h, e => by
    rw [List.getElem?_nil] at e
    cases e
  | 0, c :: ds, xs, d, h, e => by
    obtain ⟨y, r, rfl, h1, h2⟩ := h
    cases e
    exact ⟨y, rfl, h1⟩
  | k + 1, c :: ds, xs, d, h, e => by
    obtain ⟨y, r, rfl, h1, h2⟩ := h
    have e2 : ds[k]? = some d := by
      rw [List.getElem?_cons_succ] at e
      exact e
    obtain ⟨v, z, q⟩ := reps_get h2 e2
    exact ⟨v, by rw [List.getElem?_cons_succ]; exact z, q⟩
theorem reps_at {H : Hp} {k : Nat} {ds : List D} {xs : List V} {v : V} (h : Reps S ds xs H) (e : xs[k]? = some v) : ∃ d, ds[k]? = some d ∧ Rep S d v H := by
  have hk : k < ds.length := by
    rw [← reps_len h]
    exact (List.getElem?_eq_some_iff.mp e).1
  obtain ⟨v', e', r⟩ := reps_get h (List.getElem?_eq_getElem hk)
  rw [e] at e'
  cases e'
  exact ⟨_, List.getElem?_eq_getElem hk, r⟩
theorem reps_flat {H : Hp} {ds : List D} {xs : List V} (h : Reps S ds xs H) : ∀ n, Reps S (List.replicate n ds).flatten (List.replicate n xs).flatten H
  | 0 => rfl
  | n + 1 => by
    rw [List.replicate_succ, List.replicate_succ, List.flatten_cons, List.flatten_cons]
    exact reps_app h (reps_flat h n)
/-- a list of texts -/
theorem reps_str {H : Hp} : ∀ {ys : List Str} {xs : List V}, Reps S (ys.map D.s) xs H → xs = ys.map V.str
  | [], xs, h => h
  | y :: ys, xs, h => by
    obtain ⟨z, r, rfl, h1, h2⟩ := h
    rw [reps_str h2, show z = .str y from h1]
    rfl
theorem str_reps {H : Hp} : ∀ (ys : List Str), Reps S (ys.map D.s) (ys.map V.str) H
  | [] => rfl
  | y :: ys => ⟨_, _, rfl, rfl, str_reps ys⟩
end
theorem cut_to (xs : List V) (k : Nat) : cutV xs none (some (k : Int)) = xs.take k := by
  unfold cutV
  rw [HT.sIx_none, HT.sIx_nat, List.drop_zero, Nat.sub_zero, List.take_eq_take_min]
  simp
theorem cut_fr (xs : List V) (k : Nat) : cutV xs (some (k : Int)) none = xs.drop k := by
  unfold cutV
  rw [HT.sIx_none, HT.sIx_nat]
  rcases Nat.le_total k xs.length with h | h
  · rw [Nat.min_eq_left h]
    exact List.take_of_length_le (by rw [List.length_drop]; omega)
  · rw [Nat.min_eq_right h, List.drop_of_length_le h, List.drop_of_length_le (Nat.le_refl _), List.take_nil]
/-! ### readings, to what stands for; a fresh one or one that stood in H -/
def S2 (B : SA) (H1 : Hp) : SA := fun a => B a ∨ H1 a = none
abbrev SH (H : Hp) : SA := fun a => H a ≠ none
theorem s2_back {B : SA} {H1 H2 : Hp} (k : Same H1 H2) {a : Addr} (h : S2 B H2 a) : S2 B H1 a := by
  rcases h with h | h
  · exact .inl h
  · exact .inr (k.free h)
theorem rep_on {S : SA} {H1 H2 : Hp} (k : Same H1 H2) {d : D} {v : V} (r : Rep S d v H1) : Rep S d v H2 := rep_mono (fun a o hs e => ⟨hs, k a o e⟩) d v r
theorem reps_on {S : SA} {H1 H2 : Hp} (k : Same H1 H2) {d : List D} {v : List V} (r : Reps S d v H1) : Reps S d v H2 := reps_mono (fun a o hs e => ⟨hs, k a o e⟩) d v r
theorem rep_bk {B : SA} {H1 H2 H3 : Hp} (k : Same H1 H2) {d : D} {v : V} (r : Rep (S2 B H2) d v H3) : Rep (S2 B H1) d v H3 := rep_mono (fun a o hs e => ⟨s2_back k hs, e⟩) d v r
theorem reps_bk {B : SA} {H1 H2 H3 : Hp} (k : Same H1 H2) {d : List D} {v : List V} (r : Reps (S2 B H2) d v H3) : Reps (S2 B H1) d v H3 := reps_mono (fun a o hs e => ⟨s2_back k hs, e⟩) d v r
def EvD (B : SA) (te : TE) (σ : L2.St) (H : Hp) (d : D) : Prop := ∀ H1, Same H H1 → ∀ Q : VK, (∀ v H2, Same H1 H2 → Rep (S2 B H1) d v H2 → Q v H2) → te σ H1 Q
def EvDA (B : SA) (ta : TA) (σ : L2.St) (H : Hp) (ds : List D) : Prop := ∀ H1, Same H H1 → ∀ Q : List V → Hp → Prop, (∀ vs H2, Same H1 H2 → Reps (S2 B H1) ds vs H2 → Q vs H2) → ta σ H1 Q
section
variable {B : SA} {K : PySem.W.Frag} {σ : L2.St} {H H' : Hp} {ta tb te : TE}
theorem d_is {d d' : D} (h : EvD B te σ H d) (e : d = d') : EvD B te σ H d' := e ▸ h
theorem d_s {x : Str} : EvD B (tC (.str x)) σ H (.s x) := fun H1 _ Q q => q _ H1 (Same.refl H1) rfl
theorem d_i {n : Int} : EvD B (tC (.int n)) σ H (.i n) := fun H1 _ Q q => q _ H1 (Same.refl H1) rfl
theorem d_v {i : Nat} {v : V} {d : D} (h : σ[i]? = some (some v)) (r : Rep B d v H) : EvD B (tVar i) σ H d := fun H1 k Q q => ⟨v, h, q _ H1 (Same.refl H1) (rep_mono (fun a o hs e => ⟨.inl hs, k a o e⟩) d v r)⟩
theorem da_nil : EvDA B tNil σ H [] := fun H1 _ Q q => q _ H1 (Same.refl H1) rfl
theorem da_cons {tr : TA} {d : D} {ds : List D} (h : EvD B ta σ H d) (hr : EvDA B tr σ H ds) : EvDA B (tCons ta tr) σ H (d :: ds) := fun H1 k Q q =>
  h H1 k _ fun v H2 k2 r => hr H2 (k.trans k2) _ fun vs H3 k3 rs => q _ H3 (k2.trans k3) ⟨v, vs, rfl, rep_on k3 r, reps_bk k2 rs⟩
/-- a new object -/
theorem new_rep {B : SA} {H1 H2 : Hp} {p : Addr} {xs : List V} {ds : List D} (k2 : Same H1 H2) (hp : H2 p = none) (r : Reps (S2 B H1) ds xs H2) : Rep (S2 B H1) (.l ds) (.ref p) (upd H2 p (.lst xs)) := ⟨p, xs, rfl, .inr (k2.free hp), upd_same, reps_on (Same.new hp) r⟩
theorem new_repT {B : SA} {H1 H2 : Hp} {p : Addr} {xs : List V} {ds : List D} (k2 : Same H1 H2) (hp : H2 p = none) (r : Reps (S2 B H1) ds xs H2) : Rep (S2 B H1) (.t ds) (.ref p) (upd H2 p (.tup xs)) := ⟨p, xs, rfl, .inr (k2.free hp), upd_same, reps_on (Same.new hp) r⟩
theorem d_lst {t : TA} {ds : List D} (h : EvDA B t σ H ds) (hl : ds.length ≤ 100000) : EvD B (tLst t) σ H (.l ds) := fun H1 k Q q =>
  h H1 k _ fun vs H2 k2 r => ⟨by rw [reps_len r, sizeLine_eq]; omega, fun p hp => q _ _ (k2.trans (Same.new hp)) (new_rep k2 hp r)⟩
theorem d_tup {t : TA} {ds : List D} (h : EvDA B t σ H ds) (hl : ds.length ≤ 100000) : EvD B (tTup t) σ H (.t ds) := fun H1 k Q q =>
  h H1 k _ fun vs H2 k2 r => ⟨by rw [reps_len r, sizeLine_eq]; omega, fun p hp => q _ _ (k2.trans (Same.new hp)) (new_repT k2 hp r)⟩
theorem d_cat {a b : List D} (h : EvD B ta σ H (.l a)) (g : EvD B tb σ H (.l b)) (hl : a.length + b.length ≤ 100000) : EvD B (tOp rCat ta tb) σ H (.l (a ++ b)) := fun H1 k Q q =>
  h H1 k _ fun v H2 k2 r => g H2 (k.trans k2) _ fun w H3 k3 r2 => by
    obtain ⟨p, xs, rfl, _, e1, e2⟩ := rep_on k3 r
    obtain ⟨p2, ys, rfl, _, f1, f2⟩ := rep_bk k2 r2
    exact ⟨p, p2, xs, ys, rfl, rfl, e1, f1, by rw [reps_len e2, reps_len f2, sizeLine_eq]; omega, fun n hn => q _ _ ((k2.trans k3).trans (Same.new hn)) (new_rep (k2.trans k3) hn (reps_app e2 f2))⟩
theorem d_cats {x y : Str} (h : EvD B ta σ H (.s x)) (g : EvD B tb σ H (.s y)) (hl : x.length + y.length ≤ 100000) : EvD B (tOp (fun x y H Q => ∃ i j, x = .str i ∧ y = .str j ∧ i.length + j.length ≤ sizeLine ∧ Q (.str (i ++ j)) H) ta tb) σ H (.s (x ++ y)) := fun H1 k Q q =>
  h H1 k _ fun v H2 k2 r => g H2 (k.trans k2) _ fun w H3 k3 r2 => ⟨x, y, r, r2, by rw [sizeLine_eq]; omega, q _ _ (k2.trans k3) rfl⟩
theorem d_rep {a : List D} {n : Nat} (h : EvD B ta σ H (.l a)) (g : EvD B tb σ H (.i n)) (hl : a.length * n ≤ 100000) (hn : n ≤ 100000) : EvD B (tOp rRep ta tb) σ H (.l (List.replicate n a).flatten) := fun H1 k Q q =>
  h H1 k _ fun v H2 k2 r => g H2 (k.trans k2) _ fun w H3 k3 r2 => by
    obtain ⟨p, xs, rfl, _, e1, e2⟩ := rep_on k3 r
    refine ⟨p, n, xs, rfl, r2, e1, by omega, by omega, by rw [reps_len e2, sizeLine_eq, Int.toNat_natCast]; omega, fun z hz => ?_⟩
    rw [Int.toNat_natCast]
    exact q _ _ ((k2.trans k3).trans (Same.new hz)) (new_rep (k2.trans k3) hz (reps_flat e2 n))
theorem d_to {a : List D} {n : Nat} (h : EvD B ta σ H (.l a)) (g : EvD B tb σ H (.i n)) : EvD B (tSl (rSlL K) ta tNoPart (tPart tb)) σ H (.l (a.take n)) := fun H1 k Q q =>
  h H1 k _ fun v H2 k2 r => g H2 (k.trans k2) _ fun w H3 k3 r2 => by
    obtain ⟨p, xs, rfl, _, e1, e2⟩ := rep_on k3 r
    refine ⟨n, r2, p, xs, rfl, SqL.of e1, fun z hz => ?_⟩
    rw [cut_to]
    exact q _ _ ((k2.trans k3).trans (Same.new hz)) (new_rep (k2.trans k3) hz (reps_take n e2))
theorem d_fr {a : List D} {n : Nat} (h : EvD B ta σ H (.l a)) (g : EvD B tb σ H (.i n)) : EvD B (tSl (rSlL K) ta (tPart tb) tNoPart) σ H (.l (a.drop n)) := fun H1 k Q q =>
  h H1 k _ fun v H2 k2 r => g H2 (k.trans k2) _ fun w H3 k3 r2 => by
    obtain ⟨p, xs, rfl, _, e1, e2⟩ := rep_on k3 r
    refine ⟨n, r2, p, xs, rfl, SqL.of e1, fun z hz => ?_⟩
    rw [cut_fr]
    exact q _ _ ((k2.trans k3).trans (Same.new hz)) (new_rep (k2.trans k3) hz (reps_drop n e2))
theorem d_ix {a : List D} {n : Nat} {d : D} (h : EvD B ta σ H (.l a)) (g : EvD B tb σ H (.i n)) (e : a[n]? = some d) : EvD B (tOp (rIxL K) ta tb) σ H d := fun H1 k Q q =>
  h H1 k _ fun v H2 k2 r => g H2 (k.trans k2) _ fun w H3 k3 r2 => by
    obtain ⟨p, xs, rfl, _, e1, e2⟩ := rep_on k3 r
    obtain ⟨y, f1, f2⟩ := reps_get e2 e
    exact ⟨p, xs, n, y, rfl, r2, SqL.of e1, atI_nat f1, q _ _ (k2.trans k3) f2⟩
theorem d_add {x y : Int} (h : EvD B ta σ H (.i x)) (g : EvD B tb σ H (.i y)) : EvD B (tOp (rI0 fun i j => .int (i + j)) ta tb) σ H (.i (x + y)) := fun H1 k Q q =>
  h H1 k _ fun v H2 k2 r => g H2 (k.trans k2) _ fun w H3 k3 r2 => ⟨x, y, r, r2, q _ _ (k2.trans k3) rfl⟩
theorem d_sub {x y : Int} (h : EvD B ta σ H (.i x)) (g : EvD B tb σ H (.i y)) : EvD B (tOp (rI0 fun i j => .int (i - j)) ta tb) σ H (.i (x - y)) := fun H1 k Q q =>
  h H1 k _ fun v H2 k2 r => g H2 (k.trans k2) _ fun w H3 k3 r2 => ⟨x, y, r, r2, q _ _ (k2.trans k3) rfl⟩
theorem d_mul {x y : Int} (h : EvD B ta σ H (.i x)) (g : EvD B tb σ H (.i y)) (hy : 0 ≤ y) (hl : y ≤ 1000) : EvD B (tOp (rI CMul fun i j => .int (i * j)) ta tb) σ H (.i (x * y)) := fun H1 k Q q =>
  h H1 k _ fun v H2 k2 r => g H2 (k.trans k2) _ fun w H3 k3 r2 => ⟨x, y, r, r2, .inr ⟨by omega, by omega⟩, q _ _ (k2.trans k3) rfl⟩
theorem d_max {x y : Int} (h : EvD B ta σ H (.i x)) (g : EvD B tb σ H (.i y)) : EvD B (tCB (fun xs H Q => ∃ i j, xs = [.int i, .int j] ∧ Q (.int (if j > i then j else i)) H) (tCons ta (tCons tb tNil))) σ H (.i (if y > x then y else x)) := fun H1 k Q q =>
  h H1 k _ fun v H2 k2 r => g H2 (k.trans k2) _ fun w H3 k3 r2 => ⟨x, y, by rw [show v = .int x from r, show w = .int y from r2], q _ _ (k2.trans k3) rfl⟩
/-- what one turn of a comprehension asks -/
def Turn (g : TG) (te : TE) (vs : List Nat) (σ : L2.St) (H : Hp) (d e : D) : Prop := ∀ (x : V) (Hb : Hp), Same H Hb → Rep (SH Hb) d x Hb → ∃ σ2, EvD (SH Hb) te σ2 Hb e ∧ wipe σ2 vs = wipe σ vs ∧ ∀ (H1 : Hp) (R : L2.St → Hp → Prop), Same Hb H1 → R σ2 H1 → g x (wipe σ vs) H1 R
theorem turn_ok {g : TG} {vs : List Nat} {ds : List D} {f : D → D} {H2 H' : Hp} {A : Addr} {xs acc : List V} {i : Nat} {x : V} (ht : ∀ d ∈ ds, Turn g te vs σ H d (f d)) (k : Same H H2) (r : Reps (SH H2) ds xs H2) (hA : H2 A = none) (hl : ds.length ≤ 100000) (hx : xs[i]? = some x) (sx : Same H2 H') (hacc : H' A = some (.lst acc)) (hlen : acc.length = i) (racc : Reps (fun a => a ≠ A) ((ds.take i).map f) acc H') :
    g x (wipe σ vs) H' fun σ2 H3 => wipe σ2 vs = wipe σ vs ∧ tYes σ2 H3 fun b H4 => if b = true then te σ2 H4 fun y H5 => ∃ acc', H5 A = some (.lst acc') ∧ acc'.length < sizeLine ∧ (Same H2 (upd H5 A (.lst (acc' ++ [y]))) ∧ ∃ a2, (upd H5 A (.lst (acc' ++ [y]))) A = some (.lst a2) ∧ a2.length = i + 1 ∧ Reps (fun a => a ≠ A) ((ds.take (i + 1)).map f) a2 (upd H5 A (.lst (acc' ++ [y]))))
      else (Same H2 H4 ∧ ∃ a2, H4 A = some (.lst a2) ∧ a2.length = i + 1 ∧ Reps (fun a => a ≠ A) ((ds.take (i + 1)).map f) a2 H4) := by
  obtain ⟨d, hd, rd⟩ := reps_at r hx
  obtain ⟨σ2, he, hw, hg⟩ := ht d (List.mem_of_getElem? hd) x H2 k rd
  refine hg H' _ sx ⟨hw, ?_⟩
  show te σ2 H' _
  have hi : i < ds.length := (List.getElem?_eq_some_iff.mp hd).1
  refine he H' sx _ fun y H5 k5 ry => ⟨acc, k5 _ _ hacc, by rw [sizeLine_eq]; omega, fun b o e => ?_, _, upd_same, by rw [List.length_append, hlen]; rfl, ?_⟩
  · rw [upd_ne (ne_of_none e hA)]
    exact k5 b o (sx b o e)
  · have e1 : (ds.take (i + 1)).map f = (ds.take i).map f ++ [f d] := by
      rw [List.take_add_one, hd, List.map_append]
      rfl
    rw [e1]
    refine reps_app (reps_mono (fun a o hs e => ⟨hs, by rw [upd_ne hs]; exact k5 a o e⟩) _ _ racc) ⟨y, [], rfl, rep_mono (fun a o hs e => ?_) _ _ ry, rfl⟩
    have hne : a ≠ A := fun z => by
      rw [z] at hs
      rcases hs with hs | hs
      · exact hs hA
      · rw [hacc] at hs
        cases hs
    exact ⟨hne, by rw [upd_ne hne]; exact e⟩
theorem rep_dom {S : SA} {H : Hp} {d : D} {v : V} (r : Rep S d v H) : Rep (SH H) d v H := rep_mono (S' := SH H) (fun a o _ e => ⟨(fun z => by rw [e] at z; cases z), e⟩) d v r
theorem reps_dom {S : SA} {H : Hp} {d : List D} {v : List V} (r : Reps S d v H) : Reps (SH H) d v H := reps_mono (S' := SH H) (fun a o _ e => ⟨(fun z => by rw [e] at z; cases z), e⟩) d v r
abbrev Any : SA := fun _ => True
theorem rep_any {S : SA} {H : Hp} {d : D} {v : V} (r : Rep S d v H) : Rep Any d v H := rep_mono (fun a o _ e => ⟨trivial, e⟩) d v r
theorem reps_any {S : SA} {H : Hp} {d : List D} {v : List V} (r : Reps S d v H) : Reps Any d v H := reps_mono (fun a o _ e => ⟨trivial, e⟩) d v r
theorem d_lcT {g : TG} {vs : List Nat} {ds : List D} {f : D → D} (h : EvD Any ta σ H (.t ds)) (hl : ds.length ≤ 100000) (ht : ∀ d ∈ ds, Turn g te vs σ H d (f d)) : EvD Any (tLc (iTup K ta) g tYes te vs) σ H (.l (ds.map f)) := fun H1 k Q q =>
  h H1 k _ fun v H2 k2 r => by
    obtain ⟨p, xs, rfl, _, e1, e2⟩ := r
    have e3 := reps_dom e2
    refine ⟨p, rfl, ⟨xs, SqT.of e1⟩, fun A hA => lc_tup (K := K) (a := p) (xs := xs) (fun i H' => Same H2 H' ∧ ∃ acc, H' A = some (.lst acc) ∧ acc.length = i ∧ Reps (fun a => a ≠ A) ((ds.take i).map f) acc H') ⟨Same.new hA, [], upd_same, rfl, rfl⟩ (fun i H' _ z => SqT.of (z.1 _ _ e1)) ?_ ?_⟩
    · rintro i x H' hx ⟨sx, acc, hacc, hlen, racc⟩
      exact turn_ok ht (k.trans k2) e3 hA hl hx sx hacc hlen racc
    · rintro H' ⟨sx, acc, hacc, _, racc⟩
      rw [reps_len e2, List.take_length] at racc
      exact q _ _ (k2.trans sx) ⟨A, acc, rfl, .inl trivial, hacc, reps_mono (fun a o _ e => ⟨.inl trivial, e⟩) _ _ racc⟩
theorem d_lcL {g : TG} {vs : List Nat} {ds : List D} {f : D → D} (h : EvD Any ta σ H (.l ds)) (hl : ds.length ≤ 100000) (ht : ∀ d ∈ ds, Turn g te vs σ H d (f d)) : EvD Any (tLc (iList K ta) g tYes te vs) σ H (.l (ds.map f)) := fun H1 k Q q =>
  h H1 k _ fun v H2 k2 r => by
    obtain ⟨p, xs, rfl, _, e1, e2⟩ := r
    have e3 := reps_dom e2
    refine ⟨p, rfl, ⟨xs, SqL.of e1⟩, fun A hA => lc_list (K := K) (a := p) (xs := xs) (fun i H' => Same H2 H' ∧ ∃ acc, H' A = some (.lst acc) ∧ acc.length = i ∧ Reps (fun a => a ≠ A) ((ds.take i).map f) acc H') ⟨Same.new hA, [], upd_same, rfl, rfl⟩ (fun i H' _ z => SqL.of (z.1 _ _ e1)) ?_ ?_⟩
    · rintro i x H' hx ⟨sx, acc, hacc, hlen, racc⟩
      exact turn_ok ht (k.trans k2) e3 hA hl hx sx hacc hlen racc
    · rintro H' ⟨sx, acc, hacc, _, racc⟩
      rw [reps_len e2, List.take_length] at racc
      exact q _ _ (k2.trans sx) ⟨A, acc, rfl, .inl trivial, hacc, reps_mono (fun a o _ e => ⟨.inl trivial, e⟩) _ _ racc⟩
theorem app_len (a b : Str) : (a ++ b).length = a.length + b.length := by
  show (a ++ b).cps.size = a.cps.size + b.cps.size
  rw [← Array.length_toList, app_list, List.length_append, Array.length_toList, Array.length_toList]
theorem len_le {a b : Str} {m n : Nat} (p : a.length ≤ m) (q : b.length ≤ n) : (a ++ b).length ≤ m + n := by
  rw [app_len]
  omega
theorem d_catsB {x y : Str} {m n : Nat} (p : x.length ≤ m) (q : y.length ≤ n) (h : EvD B ta σ H (.s x)) (g : EvD B tb σ H (.s y)) (hl : Nat.ble (m + n) 100000 = true := by rfl) : EvD B (tOp (fun x y H Q => ∃ i j, x = .str i ∧ y = .str j ∧ i.length + j.length ≤ sizeLine ∧ Q (.str (i ++ j)) H) ta tb) σ H (.s (x ++ y)) :=
  d_cats h g (by have := Nat.le_of_ble_eq_true hl; omega)
theorem seq_go {i : Nat} {d : D} {Dn : Ends} {u : TS} (h : EvD Any te σ H d) (q : ∀ v H2, Same H H2 → Rep Any d v H2 → u Dn (σ.set i (some v)) H2) : tSeq (tAsg te (gName i)) u Dn σ H := h H (Same.refl H) _ fun v H2 k r => q v H2 k (rep_any r)
theorem ret_go {d : D} {Dn : Ends} (h : EvD Any te σ H d) (q : ∀ v H2, Same H H2 → Rep Any d v H2 → Dn.rt v H2) : tRet te Dn σ H := h H (Same.refl H) _ fun v H2 k r => q v H2 k (rep_any r)
theorem seq_go2 {i j : Nat} {d e : D} {Dn : Ends} {u : TS} (h : EvD Any te σ H (.t [d, e])) (q : ∀ v w H2, Same H H2 → Rep Any d v H2 → Rep Any e w H2 → u Dn ((σ.set i (some v)).set j (some w)) H2) : tSeq (tAsg te (gTup K 2 (gCons (gName i) (gCons (gName j) gNil)))) u Dn σ H := h H (Same.refl H) _ fun v H2 k r => by
  obtain ⟨a, xs, rfl, _, e1, y, ys, rfl, r1, z, zs, rfl, r2, rfl⟩ := rep_any r
  exact ⟨a, _, rfl, SqT.of e1, rfl, y, _, rfl, z, _, rfl, rfl, q y z H2 k r1 r2⟩
/-- a value is told, and goes on -/
theorem EvD.go {d : D} {Q : VK} (h : EvD B te σ H d) (q : ∀ v H2, Same H H2 → Rep Any d v H2 → Q v H2) : te σ H Q := h H (Same.refl H) _ fun v H2 k r => q v H2 k (rep_any r)
end
end K6

/-! text MB -/
set_option Elab.async false
set_option linter.all false
set_option maxRecDepth 100000
set_option maxHeartbeats 4000000
namespace K6
open PySem PySem.Spec PyProof.Rows L2
def resV (rows : List Str) : V := match progM rows with
  | .ok _ => .str "told"
  | .error l => .int (l : Nat)
/-- what a row of a text must be -/
def rowOk (x : Str) : Bool := decide (x.length ≤ 1000) && PyData.strOk x && !x.cps.toList.contains 10
theorem join_le {rows : List Str} (h : ∀ x ∈ rows, x.length ≤ 1000) : (rows.map (·.length)).sum ≤ rows.length * 1000 := by
  induction rows with
  | nil => exact Nat.le_refl _
  | cons x r ih =>
    have z := ih fun y hy => h y (List.mem_cons_of_mem _ hy)
    have q := h x List.mem_cons_self
    rw [List.map_cons, List.sum_cons, List.length_cons]
    omega
theorem rows_text {rows : List Str} (hne : rows ≠ []) (hl : rows.length ≤ 200) (hok : ∀ x ∈ rows, rowOk x = true) (hno : ∀ l, progM rows = .error l → l ≠ 0) :
    TxOk (Txt.join "\n" rows) ∧ capM (Txt.join "\n" rows) = resV rows := by
  have h1 : ∀ x ∈ rows, x.length ≤ 1000 ∧ PyData.strOk x = true ∧ 10 ∉ x.cps.toList := fun x hx => by
    have z := hok x hx
    unfold rowOk at z
    simp only [Bool.and_eq_true, decide_eq_true_eq, Bool.not_eq_true', List.contains_eq_mem, decide_eq_false_iff_not] at z
    exact ⟨z.1.1, z.1.2, z.2⟩
  have hs : Txt.split (Txt.join "\n" rows) "\n" = rows := TL.split_join (s := 10) (S := []) (by decide +kernel) (by decide +kernel) hne fun p hp => (h1 p hp).2.2
  have hj : (Txt.join "\n" rows).length ≤ 1000000 := by
    rw [TL.join_eq]
    have z := StrLaws.join_length_le "\n" rows
    have q := join_le fun x hx => (h1 x hx).1
    have e : ("\n" : Str).length = 1 := by decide +kernel
    rw [e] at z
    omega
  refine ⟨⟨hj, ?_, ?_⟩, ?_⟩
  · rw [hs]
    exact small_of (by omega) fun x hx => ⟨by have := (h1 x hx).1; omega, (h1 x hx).2.1⟩
  · rw [hs]
    exact hno
  · unfold capM resV
    rw [hs]
    all_goals rfl
end K6

/-! text HR -/
set_option Elab.async false
set_option linter.all false
set_option maxRecDepth 100000
set_option maxHeartbeats 4000000
namespace K6
open PySem PySem.Spec PyProof.Rows L2
def rowsD (rows : List (List Str × Int)) : D := .l (rows.map fun r => .t [.l (r.1.map D.s), .i r.2])
structure LNames (mg : Str → Option Value) : Prop where
  max : mg "max" = none
  min : mg "min" = none
  len : mg "len" = none
  int : mg "int" = none
  abs : mg "abs" = none
  sum : mg "sum" = none
  str : mg "str" = none
  range : mg "range" = none
theorem allD3 {p : D → Prop} {a b c : D} (h1 : p a) (h2 : p b) (h3 : p c) : ∀ d ∈ [a, b, c], p d := by
  intro d hd
  simp only [List.mem_cons, List.not_mem_nil, or_false] at hd
  rcases hd with rfl | rfl | rfl <;> assumption
theorem turn_name {te : TE} {σ : L2.St} {H : Hp} {vs : List Nat} {d e : D} {i : Nat} (h : ∀ x Hb, Same H Hb → Rep (SH Hb) d x Hb → EvD (SH Hb) te ((wipe σ vs).set i (some x)) Hb e) (hw : ∀ x, wipe ((wipe σ vs).set i (some x)) vs = wipe σ vs := by intro _; rfl) : Turn (gName i) te vs σ H d e :=
  fun x Hb k r => ⟨(wipe σ vs).set i (some x), h x Hb k r, hw x, fun H1 R _ hR => hR⟩
theorem turn_pair {K : PySem.W.Frag} {te : TE} {σ : L2.St} {H : Hp} {vs : List Nat} {d1 d2 e : D} {i j : Nat} (h : ∀ x y Hb, Same H Hb → Rep (SH Hb) d1 x Hb → Rep (SH Hb) d2 y Hb → EvD (SH Hb) te (((wipe σ vs).set i (some x)).set j (some y)) Hb e) (hw : ∀ x y, wipe (((wipe σ vs).set i (some x)).set j (some y)) vs = wipe σ vs := by intro _ _; rfl) :
    Turn (gTup K 2 (gCons (gName i) (gCons (gName j) gNil))) te vs σ H (.t [d1, d2]) e := fun x Hb k r => by
  obtain ⟨a, xs, rfl, _, e1, y, ys, rfl, r1, z, zs, rfl, r2, rfl⟩ := r
  exact ⟨((wipe σ vs).set i (some y)).set j (some z), h y z Hb k r1 r2, hw y z, fun H1 R k1 hR => ⟨a, _, rfl, SqT.of (k1 _ _ e1), rfl, y, _, rfl, z, _, rfl, rfl, hR⟩⟩
theorem allD6 {p : D → Prop} {a b c a' b' c' : D} (h1 : p a) (h2 : p b) (h3 : p c) (h4 : p a') (h5 : p b') (h6 : p c') : ∀ d ∈ [a, b, c, a', b', c'], p d := by
  intro d hd
  simp only [List.mem_cons, List.not_mem_nil, or_false] at hd
  rcases hd with rfl | rfl | rfl | rfl | rfl | rfl <;> assumption
abbrev sHouseRows : Stmt := top 52
def houseRows (ask : Str) : List (List Str × Int) := [([("house" : Str), ("  cell aq 0" : Str), ("  cell house 1" : Str), (("  ask " : Str) ++ ask)], (0 : Int)),
  ([("house" : Str), ("  cell aq 0" : Str), ("  cell house 1" : Str), ("  cell q 0" : Str), (("  ask " : Str) ++ ask)], (4 : Int)),
  ([("house" : Str), (("  ask " : Str) ++ ask), ("  ask aq" : Str), ("  ask bq" : Str)], (0 : Int)),
  ([("house" : Str), (("  ask " : Str) ++ ask), ("  ask aq" : Str), ("  ask bq" : Str), ("  ask cq" : Str)], (5 : Int)),
  ([("house" : Str)], (2 : Int)),
  ([("house" : Str), ("  in order" : Str), (("  ask " : Str) ++ ask)], (0 : Int)),
  ([("house" : Str), ("  in order" : Str), ("  in order" : Str), (("  ask " : Str) ++ ask)], (3 : Int)),
  ([("house" : Str), ("  cell aq 0" : Str), ("  in order" : Str)], (3 : Int)),
  ([("house" : Str), (("  ask " : Str) ++ ask)], (0 : Int)),
  ([("house" : Str), (("  ask " : Str) ++ ask), ("    answer it" : Str), ("    answer it" : Str), ("    answer it" : Str), ("    answer it" : Str), ("    answer it" : Str), ("    answer it" : Str), ("    answer it" : Str), ("    answer it" : Str)], (0 : Int)),
  ([("house" : Str), (("  ask " : Str) ++ ask), ("    answer it" : Str), ("    answer it" : Str), ("    answer it" : Str), ("    answer it" : Str), ("    answer it" : Str), ("    answer it" : Str), ("    answer it" : Str), ("    answer it" : Str), ("    answer it" : Str)], (11 : Int)),
  ([("house" : Str), (("  ask " : Str) ++ ask), (("  ask " : Str) ++ ask)], (3 : Int)),
  ([("house" : Str), ("  cell aq 0" : Str), ("  cell aq 0" : Str), (("  ask " : Str) ++ ask)], (3 : Int)),
  ([("house" : Str), (("  ask " : Str) ++ ask), ("    answer aq" : Str)], (3 : Int)),
  ([("house" : Str), ("  cell aq 0" : Str), (("  ask " : Str) ++ ask), ("    answer aq" : Str)], (0 : Int))]
section
variable {P : Program} {w : World} {K : PySem.W.Frag} {mg : Str → Option Value} {base : Heap}
def spHouseRows : Sp := fun vs H Q _ => ∃ ask : Str, vs = [.str ask] ∧ ask.length ≤ 20 ∧ ∀ v H', Same H H' → Rep Any (rowsD (houseRows ask)) v H' → Q v H'
theorem scHouseRows : FnScope ["_law_ask", "_law_boxes", "_law_asks", "_law_found", "_law_many"] ["_law_ask"] (defScope sHouseRows) := ⟨rfl, rfl, rfl, by decide +kernel, rfl, by decide +kernel, by decide +kernel⟩
theorem ok_house_rows {f : Addr} {fd : FuncData} (F : Fun K "_law_house_rows" "_law_house_rows" sHouseRows f fd) (LN : LNames mg) : FnOk P w K mg base CX0 1 f fd ["_law_ask"] spHouseRows := by
  refine F.ok scHouseRows (fun vs H Q E h => ?_) (fun cdv A outer s0 H vs Q E hr h => ?_)
  · obtain ⟨ask, rfl, _⟩ := h
    rfl
  · obtain ⟨ask, rfl, h_ask, k⟩ := h
    refine ⟨_, pss_cons (ps_asg (pe_tup (pa_cons (pe_lst (pa_cons pe_str (pa_cons pe_str (pa_cons pe_str pa_nil)))) (pa_cons (pe_lst (pa_cons (pe_op op_add_str pe_str (pv 0)) (pa_cons pe_str (pa_cons pe_str (pa_cons pe_str pa_nil))))) pa_nil))) (pg_tup (by rfl) (pgs_cons (pg_name (i := 1) scHouseRows.nd rfl (Or.inl rfl)) (pgs_cons (pg_name (i := 2) scHouseRows.nd rfl (Or.inr rfl)) pgs_nil))))
      (pss_cons (ps_set (i := 3) scHouseRows.nd rfl (Or.inl rfl) (pe_lst (pa_cons (pe_tup (pa_cons (pe_op op_cat (pe_op op_cat (pe_lst (pa_cons pe_str pa_nil)) (pe_slice sl_list (pv 1) po_none (po_some pe_int))) (pe_slice sl_list (pv 2) po_none (po_some pe_int))) (pa_cons pe_int pa_nil))) (pa_cons (pe_tup (pa_cons (pe_op op_cat (pe_op op_cat (pe_lst (pa_cons pe_str pa_nil)) (pv 1)) (pe_slice sl_list (pv 2) po_none (po_some pe_int))) (pa_cons pe_int pa_nil))) (pa_cons (pe_tup (pa_cons (pe_op op_cat (pe_lst (pa_cons pe_str pa_nil)) (pe_slice sl_list (pv 2) po_none (po_some pe_int))) (pa_cons pe_int pa_nil))) pa_nil)))))
      (pss_cons (ps_set (i := 3) scHouseRows.nd rfl (Or.inl rfl) (pe_op op_cat (pv 3) (pe_lst (pa_cons (pe_tup (pa_cons (pe_op op_cat (pe_lst (pa_cons pe_str pa_nil)) (pv 2)) (pa_cons pe_int pa_nil))) (pa_cons (pe_tup (pa_cons (pe_lst (pa_cons pe_str pa_nil)) (pa_cons pe_int pa_nil))) (pa_cons (pe_tup (pa_cons (pe_op op_cat (pe_lst (pa_cons pe_str (pa_cons pe_str pa_nil))) (pe_slice sl_list (pv 2) po_none (po_some pe_int))) (pa_cons pe_int pa_nil))) pa_nil))))))
      (pss_cons (ps_set (i := 3) scHouseRows.nd rfl (Or.inl rfl) (pe_op op_cat (pv 3) (pe_lst (pa_cons (pe_tup (pa_cons (pe_op op_cat (pe_lst (pa_cons pe_str (pa_cons pe_str (pa_cons pe_str pa_nil)))) (pe_slice sl_list (pv 2) po_none (po_some pe_int))) (pa_cons pe_int pa_nil))) (pa_cons (pe_tup (pa_cons (pe_lst (pa_cons pe_str (pa_cons (pe_ix ix_list (pv 1) pe_int (fun _ _ => rfl)) (pa_cons pe_str pa_nil)))) (pa_cons pe_int pa_nil))) pa_nil)))))
      (pss_cons (ps_set (i := 3) scHouseRows.nd rfl (Or.inl rfl) (pe_op op_cat (pv 3) (pe_lc (own := [("_law_many", 4)]) (g := gName 4) (tt := tYes) rfl scHouseRows.nd (pi_tup (pe_tup (pa_cons pe_int (pa_cons pe_int (pa_cons pe_int pa_nil))))) (blkOk_by (own := [("_law_many", 4)]) (N := ["_law_ask", "_law_boxes", "_law_asks", "_law_found", "_law_many"]) (sc := defScope sHouseRows) (by decide +kernel)) (fun _ _ _ _ _ => pg_name (i := 4) scHouseRows.nd rfl (Or.inl rfl)) (fun _ _ _ _ _ => pts_nil) (fun _ _ _ _ _ => (pe_tup (pa_cons (pe_op op_cat (pe_lst (pa_cons pe_str (pa_cons (pe_ix (show IxR _ (rIxL K) from ix_list) (pv 2) pe_int (fun _ _ => rfl)) pa_nil))) (pe_op op_rep (pe_lst (pa_cons pe_str pa_nil)) (pv 4))) (pa_cons (pe_op op_mul (pe_callB (call_max2 rfl) (by rfl) LN.max (by decide +kernel) (pa_cons pe_int (pa_cons (pe_op op_sub (pv 4) pe_int) pa_nil))) pe_int) pa_nil)))))))
      (pss_cons (ps_set (i := 3) scHouseRows.nd rfl (Or.inl rfl) (pe_op op_cat (pv 3) (pe_lst (pa_cons (pe_tup (pa_cons (pe_lst (pa_cons pe_str (pa_cons (pe_ix ix_list (pv 2) pe_int (fun _ _ => rfl)) (pa_cons (pe_ix ix_list (pv 2) pe_int (fun _ _ => rfl)) pa_nil)))) (pa_cons pe_int pa_nil))) (pa_cons (pe_tup (pa_cons (pe_op op_cat (pe_lst (pa_cons pe_str (pa_cons (pe_ix ix_list (pv 1) pe_int (fun _ _ => rfl)) (pa_cons (pe_ix ix_list (pv 1) pe_int (fun _ _ => rfl)) pa_nil)))) (pe_slice sl_list (pv 2) po_none (po_some pe_int))) (pa_cons pe_int pa_nil))) pa_nil)))))
      (pss_one (ps_ret (pe_op op_cat (pv 3) (pe_lst (pa_cons (pe_tup (pa_cons (pe_lst (pa_cons pe_str (pa_cons (pe_ix ix_list (pv 2) pe_int (fun _ _ => rfl)) (pa_cons pe_str pa_nil)))) (pa_cons pe_int pa_nil))) (pa_cons (pe_tup (pa_cons (pe_lst (pa_cons pe_str (pa_cons (pe_ix ix_list (pv 1) pe_int (fun _ _ => rfl)) (pa_cons (pe_ix ix_list (pv 2) pe_int (fun _ _ => rfl)) (pa_cons pe_str pa_nil))))) (pa_cons pe_int pa_nil))) pa_nil))))))))))), ?_⟩
    refine seq_go2 (d_tup (da_cons (d_lst (da_cons d_s (da_cons d_s (da_cons d_s da_nil))) (Nat.le_of_ble_eq_true rfl)) (da_cons (d_lst (da_cons (d_catsB (show ("  ask " : Str).length ≤ 6 from by decide +kernel) h_ask d_s (d_v rfl rfl)) (da_cons d_s (da_cons d_s (da_cons d_s da_nil)))) (Nat.le_of_ble_eq_true rfl)) da_nil)) (Nat.le_of_ble_eq_true rfl)) fun v1 w1 H1 k1 r1 q1 => ?_
    refine seq_go (d_lst (da_cons (d_tup (da_cons (d_cat (d_cat (d_lst (da_cons d_s da_nil) (Nat.le_of_ble_eq_true rfl)) (d_to (d_v rfl r1) d_i) (Nat.le_of_ble_eq_true rfl)) (d_to (d_v rfl q1) d_i) (Nat.le_of_ble_eq_true rfl)) (da_cons d_i da_nil)) (Nat.le_of_ble_eq_true rfl)) (da_cons (d_tup (da_cons (d_cat (d_cat (d_lst (da_cons d_s da_nil) (Nat.le_of_ble_eq_true rfl)) (d_v rfl r1) (Nat.le_of_ble_eq_true rfl)) (d_to (d_v rfl q1) d_i) (Nat.le_of_ble_eq_true rfl)) (da_cons d_i da_nil)) (Nat.le_of_ble_eq_true rfl)) (da_cons (d_tup (da_cons (d_cat (d_lst (da_cons d_s da_nil) (Nat.le_of_ble_eq_true rfl)) (d_to (d_v rfl q1) d_i) (Nat.le_of_ble_eq_true rfl)) (da_cons d_i da_nil)) (Nat.le_of_ble_eq_true rfl)) da_nil))) (Nat.le_of_ble_eq_true rfl)) fun v2 H2 k2 r2 => ?_
    have r1 := rep_on k2 r1
    have q1 := rep_on k2 q1
    refine seq_go (d_cat (d_v rfl r2) (d_lst (da_cons (d_tup (da_cons (d_cat (d_lst (da_cons d_s da_nil) (Nat.le_of_ble_eq_true rfl)) (d_v rfl q1) (Nat.le_of_ble_eq_true rfl)) (da_cons d_i da_nil)) (Nat.le_of_ble_eq_true rfl)) (da_cons (d_tup (da_cons (d_lst (da_cons d_s da_nil) (Nat.le_of_ble_eq_true rfl)) (da_cons d_i da_nil)) (Nat.le_of_ble_eq_true rfl)) (da_cons (d_tup (da_cons (d_cat (d_lst (da_cons d_s (da_cons d_s da_nil)) (Nat.le_of_ble_eq_true rfl)) (d_to (d_v rfl q1) d_i) (Nat.le_of_ble_eq_true rfl)) (da_cons d_i da_nil)) (Nat.le_of_ble_eq_true rfl)) da_nil))) (Nat.le_of_ble_eq_true rfl)) (Nat.le_of_ble_eq_true rfl)) fun v3 H3 k3 r3 => ?_
    have r1 := rep_on k3 r1
    have q1 := rep_on k3 q1
    have r2 := rep_on k3 r2
    refine seq_go (d_cat (d_v rfl r3) (d_lst (da_cons (d_tup (da_cons (d_cat (d_lst (da_cons d_s (da_cons d_s (da_cons d_s da_nil))) (Nat.le_of_ble_eq_true rfl)) (d_to (d_v rfl q1) d_i) (Nat.le_of_ble_eq_true rfl)) (da_cons d_i da_nil)) (Nat.le_of_ble_eq_true rfl)) (da_cons (d_tup (da_cons (d_lst (da_cons d_s (da_cons (d_ix (d_v rfl r1) d_i rfl) (da_cons d_s da_nil))) (Nat.le_of_ble_eq_true rfl)) (da_cons d_i da_nil)) (Nat.le_of_ble_eq_true rfl)) da_nil)) (Nat.le_of_ble_eq_true rfl)) (Nat.le_of_ble_eq_true rfl)) fun v4 H4 k4 r4 => ?_
    have r1 := rep_on k4 r1
    have q1 := rep_on k4 q1
    have r3 := rep_on k4 r3
    refine seq_go (d_cat (d_v rfl r4) (d_lcT (f := (fun d => match d with | .i n => if n = 0 then D.t [.l [.s ("house" : Str), .s (("  ask " : Str) ++ ask)], .i 0] else if n = 8 then D.t [.l [.s ("house" : Str), .s (("  ask " : Str) ++ ask), .s ("    answer it" : Str), .s ("    answer it" : Str), .s ("    answer it" : Str), .s ("    answer it" : Str), .s ("    answer it" : Str), .s ("    answer it" : Str), .s ("    answer it" : Str), .s ("    answer it" : Str)], .i 0] else D.t [.l [.s ("house" : Str), .s (("  ask " : Str) ++ ask), .s ("    answer it" : Str), .s ("    answer it" : Str), .s ("    answer it" : Str), .s ("    answer it" : Str), .s ("    answer it" : Str), .s ("    answer it" : Str), .s ("    answer it" : Str), .s ("    answer it" : Str), .s ("    answer it" : Str)], .i 11] | d => d)) (d_tup (da_cons d_i (da_cons d_i (da_cons d_i da_nil))) (Nat.le_of_ble_eq_true rfl)) (Nat.le_of_ble_eq_true rfl) (allD3 (turn_name fun x Hb kb rx => d_is (d_tup (da_cons (d_cat (d_lst (da_cons d_s (da_cons (d_ix (d_v rfl (rep_dom (rep_on kb q1))) d_i rfl) da_nil)) (Nat.le_of_ble_eq_true rfl)) (d_rep (d_lst (da_cons d_s da_nil) (Nat.le_of_ble_eq_true rfl)) (d_v rfl rx) (Nat.le_of_ble_eq_true rfl) (Nat.le_of_ble_eq_true rfl)) (Nat.le_of_ble_eq_true rfl)) (da_cons (d_mul (d_max d_i (d_sub (d_v rfl rx) d_i)) d_i (by omega) (by omega)) da_nil)) (Nat.le_of_ble_eq_true rfl)) rfl) (turn_name fun x Hb kb rx => d_is (d_tup (da_cons (d_cat (d_lst (da_cons d_s (da_cons (d_ix (d_v rfl (rep_dom (rep_on kb q1))) d_i rfl) da_nil)) (Nat.le_of_ble_eq_true rfl)) (d_rep (d_lst (da_cons d_s da_nil) (Nat.le_of_ble_eq_true rfl)) (d_v rfl rx) (Nat.le_of_ble_eq_true rfl) (Nat.le_of_ble_eq_true rfl)) (Nat.le_of_ble_eq_true rfl)) (da_cons (d_mul (d_max d_i (d_sub (d_v rfl rx) d_i)) d_i (by omega) (by omega)) da_nil)) (Nat.le_of_ble_eq_true rfl)) rfl) (turn_name fun x Hb kb rx => d_is (d_tup (da_cons (d_cat (d_lst (da_cons d_s (da_cons (d_ix (d_v rfl (rep_dom (rep_on kb q1))) d_i rfl) da_nil)) (Nat.le_of_ble_eq_true rfl)) (d_rep (d_lst (da_cons d_s da_nil) (Nat.le_of_ble_eq_true rfl)) (d_v rfl rx) (Nat.le_of_ble_eq_true rfl) (Nat.le_of_ble_eq_true rfl)) (Nat.le_of_ble_eq_true rfl)) (da_cons (d_mul (d_max d_i (d_sub (d_v rfl rx) d_i)) d_i (by omega) (by omega)) da_nil)) (Nat.le_of_ble_eq_true rfl)) rfl))) (Nat.le_of_ble_eq_true rfl)) fun v5 H5 k5 r5 => ?_
    have r1 := rep_on k5 r1
    have q1 := rep_on k5 q1
    have r4 := rep_on k5 r4
    refine seq_go (d_cat (d_v rfl r5) (d_lst (da_cons (d_tup (da_cons (d_lst (da_cons d_s (da_cons (d_ix (d_v rfl q1) d_i rfl) (da_cons (d_ix (d_v rfl q1) d_i rfl) da_nil))) (Nat.le_of_ble_eq_true rfl)) (da_cons d_i da_nil)) (Nat.le_of_ble_eq_true rfl)) (da_cons (d_tup (da_cons (d_cat (d_lst (da_cons d_s (da_cons (d_ix (d_v rfl r1) d_i rfl) (da_cons (d_ix (d_v rfl r1) d_i rfl) da_nil))) (Nat.le_of_ble_eq_true rfl)) (d_to (d_v rfl q1) d_i) (Nat.le_of_ble_eq_true rfl)) (da_cons d_i da_nil)) (Nat.le_of_ble_eq_true rfl)) da_nil)) (Nat.le_of_ble_eq_true rfl)) (Nat.le_of_ble_eq_true rfl)) fun v6 H6 k6 r6 => ?_
    have r1 := rep_on k6 r1
    have q1 := rep_on k6 q1
    have r5 := rep_on k6 r5
    refine ret_go (d_cat (d_v rfl r6) (d_lst (da_cons (d_tup (da_cons (d_lst (da_cons d_s (da_cons (d_ix (d_v rfl q1) d_i rfl) (da_cons d_s da_nil))) (Nat.le_of_ble_eq_true rfl)) (da_cons d_i da_nil)) (Nat.le_of_ble_eq_true rfl)) (da_cons (d_tup (da_cons (d_lst (da_cons d_s (da_cons (d_ix (d_v rfl r1) d_i rfl) (da_cons (d_ix (d_v rfl q1) d_i rfl) (da_cons d_s da_nil)))) (Nat.le_of_ble_eq_true rfl)) (da_cons d_i da_nil)) (Nat.le_of_ble_eq_true rfl)) da_nil)) (Nat.le_of_ble_eq_true rfl)) (Nat.le_of_ble_eq_true rfl)) fun v Hz kz rz => ?_
    exact k v Hz (Same.trans k1 (Same.trans k2 (Same.trans k3 (Same.trans k4 (Same.trans k5 (Same.trans k6 kz)))))) rz
end
end K6

/-! text SR -/
set_option Elab.async false
set_option linter.all false
set_option maxRecDepth 100000
set_option maxHeartbeats 4000000
namespace K6
open PySem PySem.Spec PyProof.Rows L2
abbrev sScreenRows : Stmt := top 53
def screenRows (cell : Str) : List (List Str × Int) := [([("screen" : Str), ((("  cell " : Str) ++ cell) ++ (" 0" : Str)), ("  cell aq 0" : Str), ("  cell bq 1" : Str), ("  cell cq 0" : Str), (("  show " : Str) ++ cell)], (0 : Int)),
  ([("screen" : Str), ((("  cell " : Str) ++ cell) ++ (" 0" : Str)), ("  cell aq 0" : Str), ("  cell bq 1" : Str), ("  cell cq 0" : Str), ("  cell dq 0" : Str), (("  show " : Str) ++ cell)], (6 : Int)),
  ([("screen" : Str), (("  show " : Str) ++ cell)], (2 : Int)),
  ([("screen" : Str), ((("  cell " : Str) ++ cell) ++ (" 0" : Str)), ("  cell aq 0" : Str), ((("  show " : Str) ++ cell) ++ (" aq" : Str))], (0 : Int)),
  ([("screen" : Str), ((("  cell " : Str) ++ cell) ++ (" 0" : Str)), ("  cell aq 0" : Str), ("  cell bq 1" : Str), ((("  show " : Str) ++ cell) ++ (" aq bq" : Str))], (5 : Int)),
  ([("screen" : Str), ((("  cell " : Str) ++ cell) ++ (" 0" : Str)), (((("  show " : Str) ++ cell) ++ (" " : Str)) ++ cell)], (3 : Int)),
  ([("screen" : Str), ((("  cell " : Str) ++ cell) ++ (" 0" : Str)), ("  show" : Str)], (3 : Int)),
  ([("screen" : Str), ((("  cell " : Str) ++ cell) ++ (" 0" : Str)), (("  show " : Str) ++ cell), ((("  unsure " : Str) ++ cell) ++ (" = 1" : Str))], (0 : Int)),
  ([("screen" : Str), ((("  cell " : Str) ++ cell) ++ (" 0" : Str)), (("  show " : Str) ++ cell), ((("  unsure " : Str) ++ cell) ++ (" = 1" : Str)), ((("  unsure " : Str) ++ cell) ++ (" = 1" : Str))], (0 : Int)),
  ([("screen" : Str), ((("  cell " : Str) ++ cell) ++ (" 0" : Str)), (("  show " : Str) ++ cell), ((("  unsure " : Str) ++ cell) ++ (" = 1" : Str)), ((("  unsure " : Str) ++ cell) ++ (" = 1" : Str)), ((("  unsure " : Str) ++ cell) ++ (" = 1" : Str))], (6 : Int)),
  ([("screen" : Str), ((("  cell " : Str) ++ cell) ++ (" 0" : Str)), (("  show " : Str) ++ cell), (("  show " : Str) ++ cell)], (4 : Int)),
  ([("screen" : Str), ((("  cell " : Str) ++ cell) ++ (" 0" : Str)), (("  show " : Str) ++ cell), (((("  unsure " : Str) ++ cell) ++ (" = 1" : Str)) ++ ("1" : Str))], (4 : Int))]
section
variable {P : Program} {w : World} {K : PySem.W.Frag} {mg : Str → Option Value} {base : Heap}
def spScreenRows : Sp := fun vs H Q _ => ∃ cell : Str, vs = [.str cell] ∧ cell.length ≤ 20 ∧ ∀ v H', Same H H' → Rep Any (rowsD (screenRows cell)) v H' → Q v H'
theorem scScreenRows : FnScope ["_law_cell", "_law_boxes", "_law_show", "_law_found", "_law_hide", "_law_many"] ["_law_cell"] (defScope sScreenRows) := ⟨rfl, rfl, rfl, by decide +kernel, rfl, by decide +kernel, by decide +kernel⟩
theorem ok_screen_rows {f : Addr} {fd : FuncData} (F : Fun K "_law_screen_rows" "_law_screen_rows" sScreenRows f fd) (LN : LNames mg) : FnOk P w K mg base CX0 1 f fd ["_law_cell"] spScreenRows := by
  refine F.ok scScreenRows (fun vs H Q E h => ?_) (fun cdv A outer s0 H vs Q E hr h => ?_)
  · obtain ⟨cell, rfl, _⟩ := h
    rfl
  · obtain ⟨cell, rfl, h_cell, k⟩ := h
    refine ⟨_, pss_cons (ps_set (i := 1) scScreenRows.nd rfl (Or.inr rfl) (pe_lst (pa_cons (pe_op op_add_str (pe_op op_add_str pe_str (pv 0)) pe_str) (pa_cons pe_str (pa_cons pe_str (pa_cons pe_str (pa_cons pe_str pa_nil)))))))
      (pss_cons (ps_set (i := 2) scScreenRows.nd rfl (Or.inr rfl) (pe_op op_add_str pe_str (pv 0)))
      (pss_cons (ps_set (i := 3) scScreenRows.nd rfl (Or.inl rfl) (pe_lst (pa_cons (pe_tup (pa_cons (pe_op op_cat (pe_op op_cat (pe_lst (pa_cons pe_str pa_nil)) (pe_slice sl_list (pv 1) po_none (po_some pe_int))) (pe_lst (pa_cons (pv 2) pa_nil))) (pa_cons pe_int pa_nil))) (pa_cons (pe_tup (pa_cons (pe_op op_cat (pe_op op_cat (pe_lst (pa_cons pe_str pa_nil)) (pv 1)) (pe_lst (pa_cons (pv 2) pa_nil))) (pa_cons pe_int pa_nil))) (pa_cons (pe_tup (pa_cons (pe_lst (pa_cons pe_str (pa_cons (pv 2) pa_nil))) (pa_cons pe_int pa_nil))) pa_nil)))))
      (pss_cons (ps_set (i := 3) scScreenRows.nd rfl (Or.inl rfl) (pe_op op_cat (pv 3) (pe_lst (pa_cons (pe_tup (pa_cons (pe_op op_cat (pe_op op_cat (pe_lst (pa_cons pe_str pa_nil)) (pe_slice sl_list (pv 1) po_none (po_some pe_int))) (pe_lst (pa_cons (pe_op op_add_str (pv 2) pe_str) pa_nil))) (pa_cons pe_int pa_nil))) (pa_cons (pe_tup (pa_cons (pe_op op_cat (pe_op op_cat (pe_lst (pa_cons pe_str pa_nil)) (pe_slice sl_list (pv 1) po_none (po_some pe_int))) (pe_lst (pa_cons (pe_op op_add_str (pv 2) pe_str) pa_nil))) (pa_cons pe_int pa_nil))) pa_nil)))))
      (pss_cons (ps_set (i := 3) scScreenRows.nd rfl (Or.inl rfl) (pe_op op_cat (pv 3) (pe_lst (pa_cons (pe_tup (pa_cons (pe_lst (pa_cons pe_str (pa_cons (pe_ix ix_list (pv 1) pe_int (fun _ _ => rfl)) (pa_cons (pe_op op_add_str (pe_op op_add_str (pv 2) pe_str) (pv 0)) pa_nil)))) (pa_cons pe_int pa_nil))) (pa_cons (pe_tup (pa_cons (pe_lst (pa_cons pe_str (pa_cons (pe_ix ix_list (pv 1) pe_int (fun _ _ => rfl)) (pa_cons pe_str pa_nil)))) (pa_cons pe_int pa_nil))) pa_nil)))))
      (pss_cons (ps_set (i := 4) scScreenRows.nd rfl (Or.inr rfl) (pe_op op_add_str (pe_op op_add_str pe_str (pv 0)) pe_str))
      (pss_cons (ps_set (i := 3) scScreenRows.nd rfl (Or.inl rfl) (pe_op op_cat (pv 3) (pe_lc (own := [("_law_many", 5)]) (g := gName 5) (tt := tYes) rfl scScreenRows.nd (pi_tup (pe_tup (pa_cons pe_int (pa_cons pe_int (pa_cons pe_int pa_nil))))) (blkOk_by (own := [("_law_many", 5)]) (N := ["_law_cell", "_law_boxes", "_law_show", "_law_found", "_law_hide", "_law_many"]) (sc := defScope sScreenRows) (by decide +kernel)) (fun _ _ _ _ _ => pg_name (i := 5) scScreenRows.nd rfl (Or.inl rfl)) (fun _ _ _ _ _ => pts_nil) (fun _ _ _ _ _ => (pe_tup (pa_cons (pe_op op_cat (pe_lst (pa_cons pe_str (pa_cons (pe_ix (show IxR _ (rIxL K) from ix_list) (pv 1) pe_int (fun _ _ => rfl)) (pa_cons (pv 2) pa_nil)))) (pe_op op_rep (pe_lst (pa_cons (pv 4) pa_nil)) (pv 5))) (pa_cons (pe_op op_mul (pe_callB (call_max2 rfl) (by rfl) LN.max (by decide +kernel) (pa_cons pe_int (pa_cons (pe_op op_sub (pv 5) pe_int) pa_nil))) pe_int) pa_nil)))))))
      (pss_one (ps_ret (pe_op op_cat (pv 3) (pe_lst (pa_cons (pe_tup (pa_cons (pe_lst (pa_cons pe_str (pa_cons (pe_ix ix_list (pv 1) pe_int (fun _ _ => rfl)) (pa_cons (pv 2) (pa_cons (pv 2) pa_nil))))) (pa_cons pe_int pa_nil))) (pa_cons (pe_tup (pa_cons (pe_lst (pa_cons pe_str (pa_cons (pe_ix ix_list (pv 1) pe_int (fun _ _ => rfl)) (pa_cons (pv 2) (pa_cons (pe_op op_add_str (pv 4) pe_str) pa_nil))))) (pa_cons pe_int pa_nil))) pa_nil)))))))))))), ?_⟩
    refine seq_go (d_lst (da_cons (d_catsB (len_le (show ("  cell " : Str).length ≤ 7 from by decide +kernel) h_cell) (show (" 0" : Str).length ≤ 2 from by decide +kernel) (d_catsB (show ("  cell " : Str).length ≤ 7 from by decide +kernel) h_cell d_s (d_v rfl rfl)) d_s) (da_cons d_s (da_cons d_s (da_cons d_s (da_cons d_s da_nil))))) (Nat.le_of_ble_eq_true rfl)) fun v1 H1 k1 r1 => ?_
    refine seq_go (d_catsB (show ("  show " : Str).length ≤ 7 from by decide +kernel) h_cell d_s (d_v rfl rfl)) fun v2 H2 k2 r2 => ?_
    have r1 := rep_on k2 r1
    refine seq_go (d_lst (da_cons (d_tup (da_cons (d_cat (d_cat (d_lst (da_cons d_s da_nil) (Nat.le_of_ble_eq_true rfl)) (d_to (d_v rfl r1) d_i) (Nat.le_of_ble_eq_true rfl)) (d_lst (da_cons (d_v rfl r2) da_nil) (Nat.le_of_ble_eq_true rfl)) (Nat.le_of_ble_eq_true rfl)) (da_cons d_i da_nil)) (Nat.le_of_ble_eq_true rfl)) (da_cons (d_tup (da_cons (d_cat (d_cat (d_lst (da_cons d_s da_nil) (Nat.le_of_ble_eq_true rfl)) (d_v rfl r1) (Nat.le_of_ble_eq_true rfl)) (d_lst (da_cons (d_v rfl r2) da_nil) (Nat.le_of_ble_eq_true rfl)) (Nat.le_of_ble_eq_true rfl)) (da_cons d_i da_nil)) (Nat.le_of_ble_eq_true rfl)) (da_cons (d_tup (da_cons (d_lst (da_cons d_s (da_cons (d_v rfl r2) da_nil)) (Nat.le_of_ble_eq_true rfl)) (da_cons d_i da_nil)) (Nat.le_of_ble_eq_true rfl)) da_nil))) (Nat.le_of_ble_eq_true rfl)) fun v3 H3 k3 r3 => ?_
    have r1 := rep_on k3 r1
    have r2 := rep_on k3 r2
    refine seq_go (d_cat (d_v rfl r3) (d_lst (da_cons (d_tup (da_cons (d_cat (d_cat (d_lst (da_cons d_s da_nil) (Nat.le_of_ble_eq_true rfl)) (d_to (d_v rfl r1) d_i) (Nat.le_of_ble_eq_true rfl)) (d_lst (da_cons (d_catsB (len_le (show ("  show " : Str).length ≤ 7 from by decide +kernel) h_cell) (show (" aq" : Str).length ≤ 3 from by decide +kernel) (d_v rfl r2) d_s) da_nil) (Nat.le_of_ble_eq_true rfl)) (Nat.le_of_ble_eq_true rfl)) (da_cons d_i da_nil)) (Nat.le_of_ble_eq_true rfl)) (da_cons (d_tup (da_cons (d_cat (d_cat (d_lst (da_cons d_s da_nil) (Nat.le_of_ble_eq_true rfl)) (d_to (d_v rfl r1) d_i) (Nat.le_of_ble_eq_true rfl)) (d_lst (da_cons (d_catsB (len_le (show ("  show " : Str).length ≤ 7 from by decide +kernel) h_cell) (show (" aq bq" : Str).length ≤ 6 from by decide +kernel) (d_v rfl r2) d_s) da_nil) (Nat.le_of_ble_eq_true rfl)) (Nat.le_of_ble_eq_true rfl)) (da_cons d_i da_nil)) (Nat.le_of_ble_eq_true rfl)) da_nil)) (Nat.le_of_ble_eq_true rfl)) (Nat.le_of_ble_eq_true rfl)) fun v4 H4 k4 r4 => ?_
    have r1 := rep_on k4 r1
    have r2 := rep_on k4 r2
    have r3 := rep_on k4 r3
    refine seq_go (d_cat (d_v rfl r4) (d_lst (da_cons (d_tup (da_cons (d_lst (da_cons d_s (da_cons (d_ix (d_v rfl r1) d_i rfl) (da_cons (d_catsB (len_le (len_le (show ("  show " : Str).length ≤ 7 from by decide +kernel) h_cell) (show (" " : Str).length ≤ 1 from by decide +kernel)) h_cell (d_catsB (len_le (show ("  show " : Str).length ≤ 7 from by decide +kernel) h_cell) (show (" " : Str).length ≤ 1 from by decide +kernel) (d_v rfl r2) d_s) (d_v rfl rfl)) da_nil))) (Nat.le_of_ble_eq_true rfl)) (da_cons d_i da_nil)) (Nat.le_of_ble_eq_true rfl)) (da_cons (d_tup (da_cons (d_lst (da_cons d_s (da_cons (d_ix (d_v rfl r1) d_i rfl) (da_cons d_s da_nil))) (Nat.le_of_ble_eq_true rfl)) (da_cons d_i da_nil)) (Nat.le_of_ble_eq_true rfl)) da_nil)) (Nat.le_of_ble_eq_true rfl)) (Nat.le_of_ble_eq_true rfl)) fun v5 H5 k5 r5 => ?_
    have r1 := rep_on k5 r1
    have r2 := rep_on k5 r2
    have r4 := rep_on k5 r4
    refine seq_go (d_catsB (len_le (show ("  unsure " : Str).length ≤ 9 from by decide +kernel) h_cell) (show (" = 1" : Str).length ≤ 4 from by decide +kernel) (d_catsB (show ("  unsure " : Str).length ≤ 9 from by decide +kernel) h_cell d_s (d_v rfl rfl)) d_s) fun v6 H6 k6 r6 => ?_
    have r1 := rep_on k6 r1
    have r2 := rep_on k6 r2
    have r5 := rep_on k6 r5
    refine seq_go (d_cat (d_v rfl r5) (d_lcT (f := (fun d => match d with | .i n => if n = 1 then D.t [.l [.s ("screen" : Str), .s ((("  cell " : Str) ++ cell) ++ (" 0" : Str)), .s (("  show " : Str) ++ cell), .s ((("  unsure " : Str) ++ cell) ++ (" = 1" : Str))], .i 0] else if n = 2 then D.t [.l [.s ("screen" : Str), .s ((("  cell " : Str) ++ cell) ++ (" 0" : Str)), .s (("  show " : Str) ++ cell), .s ((("  unsure " : Str) ++ cell) ++ (" = 1" : Str)), .s ((("  unsure " : Str) ++ cell) ++ (" = 1" : Str))], .i 0] else D.t [.l [.s ("screen" : Str), .s ((("  cell " : Str) ++ cell) ++ (" 0" : Str)), .s (("  show " : Str) ++ cell), .s ((("  unsure " : Str) ++ cell) ++ (" = 1" : Str)), .s ((("  unsure " : Str) ++ cell) ++ (" = 1" : Str)), .s ((("  unsure " : Str) ++ cell) ++ (" = 1" : Str))], .i 6] | d => d)) (d_tup (da_cons d_i (da_cons d_i (da_cons d_i da_nil))) (Nat.le_of_ble_eq_true rfl)) (Nat.le_of_ble_eq_true rfl) (allD3 (turn_name fun x Hb kb rx => d_is (d_tup (da_cons (d_cat (d_lst (da_cons d_s (da_cons (d_ix (d_v rfl (rep_dom (rep_on kb r1))) d_i rfl) (da_cons (d_v rfl (rep_dom (rep_on kb r2))) da_nil))) (Nat.le_of_ble_eq_true rfl)) (d_rep (d_lst (da_cons (d_v rfl (rep_dom (rep_on kb r6))) da_nil) (Nat.le_of_ble_eq_true rfl)) (d_v rfl rx) (Nat.le_of_ble_eq_true rfl) (Nat.le_of_ble_eq_true rfl)) (Nat.le_of_ble_eq_true rfl)) (da_cons (d_mul (d_max d_i (d_sub (d_v rfl rx) d_i)) d_i (by omega) (by omega)) da_nil)) (Nat.le_of_ble_eq_true rfl)) rfl) (turn_name fun x Hb kb rx => d_is (d_tup (da_cons (d_cat (d_lst (da_cons d_s (da_cons (d_ix (d_v rfl (rep_dom (rep_on kb r1))) d_i rfl) (da_cons (d_v rfl (rep_dom (rep_on kb r2))) da_nil))) (Nat.le_of_ble_eq_true rfl)) (d_rep (d_lst (da_cons (d_v rfl (rep_dom (rep_on kb r6))) da_nil) (Nat.le_of_ble_eq_true rfl)) (d_v rfl rx) (Nat.le_of_ble_eq_true rfl) (Nat.le_of_ble_eq_true rfl)) (Nat.le_of_ble_eq_true rfl)) (da_cons (d_mul (d_max d_i (d_sub (d_v rfl rx) d_i)) d_i (by omega) (by omega)) da_nil)) (Nat.le_of_ble_eq_true rfl)) rfl) (turn_name fun x Hb kb rx => d_is (d_tup (da_cons (d_cat (d_lst (da_cons d_s (da_cons (d_ix (d_v rfl (rep_dom (rep_on kb r1))) d_i rfl) (da_cons (d_v rfl (rep_dom (rep_on kb r2))) da_nil))) (Nat.le_of_ble_eq_true rfl)) (d_rep (d_lst (da_cons (d_v rfl (rep_dom (rep_on kb r6))) da_nil) (Nat.le_of_ble_eq_true rfl)) (d_v rfl rx) (Nat.le_of_ble_eq_true rfl) (Nat.le_of_ble_eq_true rfl)) (Nat.le_of_ble_eq_true rfl)) (da_cons (d_mul (d_max d_i (d_sub (d_v rfl rx) d_i)) d_i (by omega) (by omega)) da_nil)) (Nat.le_of_ble_eq_true rfl)) rfl))) (Nat.le_of_ble_eq_true rfl)) fun v7 H7 k7 r7 => ?_
    have r1 := rep_on k7 r1
    have r2 := rep_on k7 r2
    have r5 := rep_on k7 r5
    have r6 := rep_on k7 r6
    refine ret_go (d_cat (d_v rfl r7) (d_lst (da_cons (d_tup (da_cons (d_lst (da_cons d_s (da_cons (d_ix (d_v rfl r1) d_i rfl) (da_cons (d_v rfl r2) (da_cons (d_v rfl r2) da_nil)))) (Nat.le_of_ble_eq_true rfl)) (da_cons d_i da_nil)) (Nat.le_of_ble_eq_true rfl)) (da_cons (d_tup (da_cons (d_lst (da_cons d_s (da_cons (d_ix (d_v rfl r1) d_i rfl) (da_cons (d_v rfl r2) (da_cons (d_catsB (len_le (len_le (show ("  unsure " : Str).length ≤ 9 from by decide +kernel) h_cell) (show (" = 1" : Str).length ≤ 4 from by decide +kernel)) (show ("1" : Str).length ≤ 1 from by decide +kernel) (d_v rfl r6) d_s) da_nil)))) (Nat.le_of_ble_eq_true rfl)) (da_cons d_i da_nil)) (Nat.le_of_ble_eq_true rfl)) da_nil)) (Nat.le_of_ble_eq_true rfl)) (Nat.le_of_ble_eq_true rfl)) fun v Hz kz rz => ?_
    exact k v Hz (Same.trans k1 (Same.trans k2 (Same.trans k3 (Same.trans k4 (Same.trans k5 (Same.trans k6 (Same.trans k7 kz))))))) rz
end
end K6

/-! text IA -/
set_option Elab.async false
set_option linter.all false
set_option maxRecDepth 100000
set_option maxHeartbeats 1000000
namespace K6
open PySem PySem.Spec PyProof.Rows L2
section
variable {B : SA} {σ : L2.St} {H : Hp} {K : PySem.W.Frag} {ta tb : TE}
theorem d_join {a : Str} {ys : List Str} (h : EvD B ta σ H (.s a)) (g : EvD B tb σ H (.l (ys.map D.s))) (hz : (ys.map (·.length)).sum + ys.length * a.length ≤ 16777216) :
    EvD B (tM1 (fun x xs H Q => ∃ a p, ∃ ys : List Str, x = .str a ∧ xs = [.ref p] ∧ (SqL K H p (ys.map V.str) ∨ SqT K H p (ys.map V.str)) ∧ (ys.map (·.length)).sum + ys.length * a.length ≤ 16777216 ∧ Q (.str (Txt.join a ys)) H) ta tb) σ H (.s (Txt.join a ys)) := fun H1 k Q q =>
  h H1 k _ fun v H2 k2 r => ⟨⟨a, r⟩, g H2 (k.trans k2) _ fun w H3 k3 r2 => by
    obtain ⟨p, xs, rfl, _, e1, e2⟩ := r2
    rw [reps_str e2] at e1
    exact ⟨a, p, ys, r, rfl, .inl (SqL.of e1), hz, q _ _ (k2.trans k3) rfl⟩⟩
theorem d_len {ds : List D} (h : EvD B ta σ H (.l ds)) : EvD B (tCB (fun xs H Q => ∃ p ys, xs = [.ref p] ∧ (SqL K H p ys ∨ SqT K H p ys) ∧ Q (.int ys.length) H) (tCons ta tNil)) σ H (.i ds.length) := fun H1 k Q q =>
  h H1 k _ fun v H2 k2 r => by
    obtain ⟨p, xs, rfl, _, e1, e2⟩ := r
    exact ⟨p, xs, rfl, .inl (SqL.of e1), q _ _ k2 (by rw [← reps_len e2]; rfl)⟩
theorem reps_int {S : SA} : ∀ {ys : List Int} {xs : List V}, Reps S (ys.map D.i) xs H → xs = ys.map V.int
  | [], xs, h => h
  | y :: ys, xs, h => by
    obtain ⟨z, r, rfl, h1, h2⟩ := h
    rw [reps_int h2, show z = .int y from h1]
    rfl
theorem d_sum {ns : List Int} (h : EvD B ta σ H (.l (ns.map D.i))) : EvD B (tCB (rSum K) (tCons ta tNil)) σ H (.i ns.sum) := fun H1 k Q q =>
  h H1 k _ fun v H2 k2 r => by
    obtain ⟨p, xs, rfl, _, e1, e2⟩ := r
    rw [reps_int e2] at e1
    exact ⟨p, ns, rfl, SqL.of e1, q _ _ k2 rfl⟩
end
abbrev sIsAt : Stmt := top 51
structure LNm (mg : Str → Option Value) : Prop where
  len : mg "len" = none
  sum : mg "sum" = none
section
variable {P : Program} {w : World} {K : PySem.W.Frag} {mg : Str → Option Value} {base : Heap}
theorem scIsAt : FnScope ["_law_parts", "_law_number", "_law_lined", "_law_due", "_law_some", "_law_text", "_law_before", "_law_part"] ["_law_parts", "_law_number", "_law_lined", "_law_due"] (defScope sIsAt) := ⟨rfl, rfl, rfl, by decide +kernel, rfl, by decide +kernel, by decide +kernel⟩
def someD (ps : List (List Str)) (k : Nat) (ls : List Str) : List (List Str) := ps.take k ++ [ls] ++ ps.drop (k + 1)
abbrev ll (ls : List Str) : D := .l (ls.map D.s)
def spIsAt : Sp := fun vs H Q _ => ∃ (v1 v3 : V) (ps : List (List Str)) (k : Nat) (ls a b c : List Str) (due : Nat), vs = [v1, .int k, v3, .int due] ∧ Rep Any (.l (ps.map ll)) v1 H ∧ Rep Any (ll ls) v3 H ∧ someD ps k ls = [a, b, c] ∧ TxOk (Txt.join "\n" ((["worths 2"] : List Str) ++ a ++ b ++ c)) ∧
  a.length + b.length + c.length ≤ 200 ∧ (∀ x ∈ a ++ b ++ c, x.length ≤ 1000) ∧ due ≤ 1000 ∧ capM (Txt.join "\n" ((["worths 2"] : List Str) ++ a ++ b ++ c)) = (if due > 0 then V.int ((1 + (((someD ps k ls).take k).map (·.length)).sum + due : Nat)) else V.str "told") ∧ ∀ H', Same H H' → Q (.bl true) H'
theorem ok_is_at {f : Addr} {fd : FuncData} (F : Fun K "_law_is_at" "_law_is_at" sIsAt f fd) (N : LNm mg) (RC : FnAt P w K mg base CX0 22 "_law_caught" ["_law_text"] spCaught) : FnOk P w K mg base CX0 23 f fd ["_law_parts", "_law_number", "_law_lined", "_law_due"] spIsAt := by
  refine F.ok scIsAt (fun vs H Q E h => ?_) (fun cdv A outer s0 H vs Q E hr h => ?_)
  · obtain ⟨v1, v3, ps, k, ls, a, b, c, due, rfl, _⟩ := h
    rfl
  · obtain ⟨v1, v3, ps, k, ls, a, b, c, due, rfl, r1, r3, hs, ht, hz, hx, hd, hc, q⟩ := h
    obtain ⟨f1, d1, m1, k1, b1, G1⟩ := RC
    refine ⟨_, pss_cons (ps_set (i := 4) scIsAt.nd rfl (Or.inl rfl) (pe_op op_cat (pe_op op_cat (pe_slice sl_list (pv 0) po_none (po_some (pv 1))) (pe_lst (pa_cons (pv 2) pa_nil))) (pe_slice sl_list (pv 0) (po_some (pe_op op_add (pv 1) pe_int)) po_none)))
      (pss_cons (ps_set (i := 5) scIsAt.nd rfl (Or.inl rfl) (pe_join pe_str (pe_op op_cat (pe_op op_cat (pe_op op_cat (pe_lst (pa_cons pe_str pa_nil)) (pe_ix ix_list (pv 4) pe_int (fun _ _ => rfl))) (pe_ix ix_list (pv 4) pe_int (fun _ _ => rfl))) (pe_ix ix_list (pv 4) pe_int (fun _ _ => rfl)))))
      (pss_cons (ps_set (i := 6) scIsAt.nd rfl (Or.inl rfl) (pe_op op_add pe_int (pe_callB (cr_sum rfl) (by rfl) N.sum (by decide +kernel) (pa_cons (pe_lc (own := [("_law_part", 7)]) (g := gName 7) (tt := tYes) rfl scIsAt.nd (pi_list (pe_slice sl_list (pv 4) po_none (po_some (pv 1)))) (blkOk_by (own := [("_law_part", 7)]) (N := ["_law_parts", "_law_number", "_law_lined", "_law_due", "_law_some", "_law_text", "_law_before", "_law_part"]) (sc := defScope sIsAt) (by decide +kernel)) (fun _ _ _ _ _ => pg_name (i := 7) scIsAt.nd rfl (Or.inl rfl)) (fun _ _ _ _ _ => pts_nil)
          (fun _ _ _ _ _ => pe_callB (show CallR _ _ (fun xs H Q => ∃ p ys, xs = [.ref p] ∧ (SqL K H p ys ∨ SqT K H p ys) ∧ Q (.int ys.length) H) from call_len_seq) (by rfl) N.len PySem.boot_len (pa_cons (pv 7) pa_nil))) pa_nil))))
      (pss_one (ps_ret (pe_cmpR op_eq (pe_call G1 hr rfl m1 k1 b1 .nil pass0 (pa_cons (pv 5) pa_nil)) (pe_ifExp (pt_cmpR op_gt (pv 3) pe_int (nomark _)) (pe_op op_add (pv 6) (pv 3)) pe_str) (nomark _)))))), ?_⟩
    have hlen : (ps.take k).length + 1 + (ps.drop (k + 1)).length = 3 := by
      have z := congrArg List.length hs
      unfold someD at z
      rw [List.length_append, List.length_append] at z
      exact z
    have rk : Rep Any (.i (k : Int)) (.int k) H := rfl
    refine seq_go (d := .l ([a, b, c].map ll)) (d_is (d_cat (d_cat (d_to (d_v rfl r1) (d_v rfl rk)) (d_lst (da_cons (d_v rfl r3) da_nil) (Nat.le_of_ble_eq_true rfl)) ?_) (d_fr (n := k + 1) (d_v rfl r1) (d_is (d_add (d_v rfl rk) d_i) rfl)) ?_) ?_) fun v4 H4 k4 r4 => ?_
    · rw [← List.map_take, List.length_map]
      show _ + 1 ≤ _
      omega
    · rw [List.length_append, ← List.map_take, ← List.map_drop, List.length_map, List.length_map]
      show _ + 1 + _ ≤ _
      omega
    · rw [← hs]
      unfold someD
      rw [List.map_append, List.map_append, List.map_take, List.map_drop]
      rfl
    have hb : (a.map D.s).length = a.length ∧ (b.map D.s).length = b.length ∧ (c.map D.s).length = c.length := ⟨List.length_map .., List.length_map .., List.length_map ..⟩
    refine seq_go (d := .s (Txt.join "\n" ((["worths 2"] : List Str) ++ a ++ b ++ c))) (d_join (K := K) d_s (d_is (d_cat (a := D.s "worths 2" :: (a.map D.s ++ b.map D.s)) (d_cat (a := D.s "worths 2" :: a.map D.s) (d_cat (a := [D.s "worths 2"]) (d_lst (da_cons d_s da_nil) (Nat.le_of_ble_eq_true rfl)) (d_ix (n := 0) (d_v rfl r4) d_i rfl) ?_) (d_ix (n := 1) (d_v rfl r4) d_i rfl) ?_) (d_ix (n := 2) (d_v rfl r4) d_i rfl) ?_) ?_) ?_) fun v5 H5 k5 r5 => ?_
    · rw [hb.1]
      show 1 + _ ≤ _
      omega
    · rw [List.length_cons, hb.1, hb.2.1]
      omega
    · rw [List.length_cons, List.length_append, hb.1, hb.2.1, hb.2.2]
      omega
    · rw [List.map_append, List.map_append, List.map_append]
      rfl
    · have z := join_le (rows := (["worths 2"] : List Str) ++ a ++ b ++ c) (fun x hx' => by
        rw [List.append_assoc, List.append_assoc] at hx'
        rcases List.mem_append.mp hx' with h | h
        · rw [List.mem_singleton.mp h]
          decide +kernel
        · exact hx x (by rw [List.append_assoc]; exact h))
      have e : ("\n" : Str).length = 1 := by decide +kernel
      have e2 : ((["worths 2"] : List Str) ++ a ++ b ++ c).length = 1 + a.length + b.length + c.length := by
        rw [List.length_append, List.length_append, List.length_append]
        rfl
      rw [e]
      rw [e2] at z ⊢
      omega
    have r4 := rep_on k5 r4
    have rk5 : Rep Any (.i (k : Int)) (.int k) H5 := rfl
    refine seq_go (d := .i (1 + (((someD ps k ls).take k).map fun x => (x.length : Int)).sum)) (d_add d_i (d_sum (d_is (d_lcL (f := fun d => match d with | .l xs => D.i xs.length | d => d) (d_to (d_v rfl r4) (d_v rfl rk5)) ?_ (fun d hd => ?_)) ?_))) fun v6 H6 k6 r6 => ?_
    · rw [List.length_take]
      show min k 3 ≤ _
      omega
    · obtain ⟨x, _, rfl⟩ := List.mem_map.mp (List.mem_of_mem_take hd)
      exact turn_name fun y Hb kb ry => d_len (d_v rfl ry)
    · rw [hs, ← List.map_take, List.map_map, List.map_map]
      refine congrArg D.l (List.map_congr_left fun x _ => ?_)
      show D.i ((x.map D.s).length : Nat) = D.i (x.length : Int)
      rw [List.length_map]
    obtain rfl : v5 = .str _ := r5
    obtain rfl : v6 = .int _ := r6
    have same : ∀ {H7 : Hp}, Same H6 H7 → Same H H7 := fun k7 => ((k4.trans k5).trans k6).trans k7
    refine ⟨_, rfl, _, rfl, ht, fun H7 k7 => ?_⟩
    have fin : ∀ x : V, scal x x = true → capM (Txt.join "\n" ((["worths 2"] : List Str) ++ a ++ b ++ c)) = x → rEq (capM (Txt.join "\n" ((["worths 2"] : List Str) ++ a ++ b ++ c))) x H7 Q := fun x hx e => by
      rw [e]
      refine ⟨hx, ?_⟩
      rw [decide_eq_true rfl]
      exact q _ (same k7)
    refine ⟨_, rfl, _, _, rfl, rfl, _, rfl, ?_⟩
    refine ite2 (fun c1 => ?_) (fun c1 => ?_)
    · have hp : due > 0 := by
        have z := of_decide_eq_true c1
        omega
      refine ⟨_, rfl, _, rfl, _, _, rfl, rfl, ?_⟩
      refine fin _ rfl ?_
      rw [hc, if_pos hp]
      have e : ∀ l : List (List Str), (((l.map fun x => x.length).sum : Nat) : Int) = (l.map fun x => (x.length : Int)).sum := fun l => by
        induction l with
        | nil => rfl
        | cons x r ih =>
          rw [List.map_cons, List.map_cons, List.sum_cons, List.sum_cons, ← ih]
          omega
      rw [← e]
      refine congrArg V.int ?_
      omega
    · have hp : ¬ due > 0 := fun z => c1 (decide_eq_true (by omega))
      refine fin _ rfl ?_
      rw [hc, if_neg hp]
end
end K6

/-! text TK -/
set_option Elab.async false
set_option linter.all false
set_option maxRecDepth 100000
set_option maxHeartbeats 1000000
namespace K6
open PySem PySem.Spec PyProof.Rows L2
abbrev sTake : Stmt := top 48
section
variable {P : Program} {w : World} {K : PySem.W.Frag} {mg : Str → Option Value} {base : Heap}
theorem scTake : FnScope ["_law_pot_here", "_law_upto", "_law_digit", "_law_prime", "_law_mixed"] ["_law_pot_here", "_law_upto"] (defScope sTake) := ⟨rfl, rfl, rfl, by decide +kernel, rfl, by decide +kernel, by decide +kernel⟩
def Pot (a : Addr) (p0 p1 p2 : Int) (H : Hp) : Prop := H a = some (.lst [.int p0, .int p1, .int p2]) ∧ 0 ≤ p1 ∧ p1 < 2305843009213693951 ∧ 0 ≤ p2
def spTake : Sp := fun vs H Q _ => ∃ (a : Addr) (p0 p1 p2 n : Int), vs = [.ref a, .int n] ∧ Pot a p0 p1 p2 H ∧ p2 ≤ 100 ∧ 0 < n ∧ n ≤ 100 ∧
  ∀ d q0 q2 H', 0 ≤ d → d < n → q2 ≤ p2 + 1 → Fr a H H' → Pot a q0 p1 q2 H' → Q (.int d) H'
theorem ok_take {f : Addr} {fd : FuncData} (F : Fun K "_law_take" "_law_take" sTake f fd) (hI : mg "int" = none) : FnOk P w K mg base CX0 1 f fd ["_law_pot_here", "_law_upto"] spTake := by
  refine F.ok scTake (fun vs H Q E h => ?_) (fun cdv A outer s0 H vs Q E hr h => ?_)
  · obtain ⟨a, p0, p1, p2, n, rfl, _⟩ := h
    rfl
  · obtain ⟨a, p0, p1, p2, n, rfl, ⟨hp, h10, h1, h20⟩, h2, hn0, hn, q⟩ := h
    refine ⟨_, pss_cons (ps_if (pt_cmpR op_gt (pe_ix ix_list (pv 0) pe_int (fun _ _ => rfl)) pe_int (nomark _))
        (pss_cons (ps_set (i := 2) scTake.nd rfl (Or.inl rfl) (pe_op op_mod (pe_callTy call_int1 (by rfl) hI (by decide +kernel) (pa_cons (pe_ix ix_list (pv 0) pe_int (fun _ _ => rfl)) pa_nil)) (pv 1)))
        (pss_cons (ps_asg (pe_op op_fdiv (pe_ix ix_list (pv 0) pe_int (fun _ _ => rfl)) (pv 1)) (pg_sub (pv 0) pe_int set_list))
        (pss_one (ps_ret (pv 2))))) pss_nil)
      (pss_cons (ps_asg (pe_op op_add (pe_ix ix_list (pv 0) pe_int (fun _ _ => rfl)) pe_int) (pg_sub (pv 0) pe_int set_list))
      (pss_cons (ps_set (i := 3) scTake.nd rfl (Or.inl rfl) (pe_ix ix_list (pe_lst (pa_cons pe_int (pa_cons pe_int (pa_cons pe_int (pa_cons pe_int (pa_cons pe_int pa_nil)))))) (pe_op op_mod (pe_callTy call_int1 (by rfl) hI (by decide +kernel) (pa_cons (pe_ix ix_list (pv 0) pe_int (fun _ _ => rfl)) pa_nil)) pe_int) (fun _ _ => rfl)))
      (pss_cons (ps_set (i := 4) scTake.nd rfl (Or.inl rfl) (pe_op op_mod (pe_callTy call_int1 (by rfl) hI (by decide +kernel) (pa_cons (pe_op op_pow (pe_callTy call_int1 (by rfl) hI (by decide +kernel) (pa_cons (pe_op op_add (pe_op op_add (pe_ix ix_list (pv 0) pe_int (fun _ _ => rfl)) (pe_op op_mul (pe_op op_mul pe_int (pe_ix ix_list (pv 0) pe_int (fun _ _ => rfl))) (pe_ix ix_list (pv 0) pe_int (fun _ _ => rfl)))) pe_int) pa_nil)) pe_int) pa_nil)) (pv 3)))
      (pss_cons (ps_set (i := 4) scTake.nd rfl (Or.inl rfl) (pe_op op_mod (pe_callTy call_int1 (by rfl) hI (by decide +kernel) (pa_cons (pe_op op_mul (pv 4) (pe_op op_add (pe_op op_mod (pe_callTy call_int1 (by rfl) hI (by decide +kernel) (pa_cons (pv 4) pa_nil)) pe_int) (pe_op op_mul pe_int (pe_ix ix_list (pv 0) pe_int (fun _ _ => rfl))))) pa_nil)) pe_int))
      (pss_one (ps_ret (pe_op op_mod (pe_callTy call_int1 (by rfl) hI (by decide +kernel) (pa_cons (pe_op op_fdiv (pv 4) pe_int) pa_nil)) (pv 1)))))))), ?_⟩
    refine ⟨_, rfl, a, _, _, _, rfl, rfl, SqL.of hp, atI_nat (j := 0) rfl, _, _, rfl, rfl, _, rfl, ?_⟩
    refine ite2 (fun c1 => ?_) (fun c1 => ?_)
    · refine ⟨_, rfl, a, _, _, _, rfl, rfl, SqL.of hp, atI_nat (j := 0) rfl, .inl ⟨_, rfl, _, rfl, _, _, rfl, rfl, hn0, ?_⟩⟩
      refine ⟨_, rfl, a, _, _, _, rfl, rfl, SqL.of hp, atI_nat (j := 0) rfl, _, rfl, _, _, rfl, rfl, ⟨hn0, by omega⟩, _, rfl, a, _, _, 0, rfl, rfl, hp, rfl, _, rfl, ?_⟩
      exact q _ _ p2 _ (Int.emod_nonneg _ (by omega)) (Int.emod_lt_of_pos _ hn0) (by omega) (fun b o h e => by rw [upd_ne h]; exact e) ⟨upd_same, h10, h1, h20⟩
    · refine ⟨_, rfl, a, _, _, _, rfl, rfl, SqL.of hp, atI_nat (j := 2) rfl, _, _, rfl, rfl, _, rfl, a, _, _, 2, rfl, rfl, hp, rfl, ?_⟩
      have hfr : Fr a H (upd H a (.lst (([.int p0, .int p1, .int p2] : List V).set 2 (.int (p2 + 1))))) := fun b o h e => by rw [upd_ne h]; exact e
      have hp2 : (upd H a (.lst (([.int p0, .int p1, .int p2] : List V).set 2 (.int (p2 + 1))))) a = some (.lst [.int p0, .int p1, .int (p2 + 1)]) := upd_same
      generalize upd H a (.lst (([.int p0, .int p1, .int p2] : List V).set 2 (.int (p2 + 1)))) = H2 at hfr hp2
      refine ⟨(by show 5 ≤ sizeLine; decide), fun pl hpl => ?_⟩
      have s3 := Same.new (o := .lst [V.int 2147483647, V.int 2147483629, V.int 2147483587, V.int 2147483579, V.int 2147483563]) hpl
      have hpl3 : (upd H2 pl (.lst [V.int 2147483647, V.int 2147483629, V.int 2147483587, V.int 2147483579, V.int 2147483563])) pl = some (.lst [V.int 2147483647, V.int 2147483629, V.int 2147483587, V.int 2147483579, V.int 2147483563]) := upd_same
      generalize upd H2 pl (.lst [V.int 2147483647, V.int 2147483629, V.int 2147483587, V.int 2147483579, V.int 2147483563]) = H3 at s3 hpl3
      have hp3 := s3 _ _ hp2
      have e5 : ((p2 + 1) % 5) = (((p2 + 1) % 5).toNat : Int) := by omega
      have l5 : ((p2 + 1) % 5).toNat < 5 := by omega
      generalize ((p2 + 1) % 5).toNat = j at e5 l5
      obtain ⟨pr, hpr, hpr1⟩ : ∃ pr : Int, ([V.int 2147483647, V.int 2147483629, V.int 2147483587, V.int 2147483579, V.int 2147483563] : List V)[j]? = some (V.int pr) ∧ 0 < pr := by
        match j, l5 with
        | 0, _ => exact ⟨_, rfl, by decide⟩
        | 1, _ => exact ⟨_, rfl, by decide⟩
        | 2, _ => exact ⟨_, rfl, by decide⟩
        | 3, _ => exact ⟨_, rfl, by decide⟩
        | 4, _ => exact ⟨_, rfl, by decide⟩
      have hpr2 : pr ≤ 2147483647 := by
        match j, l5, hpr with
        | 0, _, h | 1, _, h | 2, _, h | 3, _, h | 4, _, h =>
          injection h with h
          injection h with h
          omega
      refine ⟨_, rfl, a, _, _, _, rfl, rfl, SqL.of hp3, atI_nat (j := 2) rfl, .inl ⟨_, rfl, _, _, rfl, rfl, (by show (0 : Int) < 5; decide), pl, _, _, _, rfl, rfl, SqL.of hpl3, (by rw [e5]; exact atI_nat hpr), ?_⟩⟩
      have sq : 0 ≤ (p2 + 1) * (p2 + 1) ∧ (p2 + 1) * (p2 + 1) ≤ 101 * 101 := ⟨Int.mul_nonneg (by omega) (by omega), Int.mul_le_mul (by omega) (by omega) (by omega) (by omega)⟩
      have sq2 : 99041 * (p2 + 1) * (p2 + 1) = 99041 * ((p2 + 1) * (p2 + 1)) := Int.mul_assoc ..
      refine ⟨_, rfl, a, _, _, _, rfl, rfl, SqL.of hp3, atI_nat (j := 1) rfl, _, rfl, a, _, _, _, rfl, rfl, SqL.of hp3, atI_nat (j := 2) rfl, _, _, rfl, rfl, .inl (by omega), _, rfl, a, _, _, _, rfl, rfl, SqL.of hp3, atI_nat (j := 2) rfl, _, _, rfl, rfl, .inr (by omega), _, _, rfl, rfl, _, _, rfl, rfl, .inl ⟨_, rfl, _, _, rfl, rfl, ⟨by omega, by omega, by omega⟩, .inl ⟨_, rfl, _, rfl, _, _, rfl, rfl, hpr1, ?_⟩⟩⟩
      generalize (p1 + 99041 * (p2 + 1) * (p2 + 1) + 37) ^ _ = big
      have b1 := Int.emod_nonneg big (show pr ≠ 0 by omega)
      have b2 := Int.emod_lt_of_pos big hpr1
      refine ⟨_, rfl, _, rfl, .inl ⟨_, rfl, _, _, rfl, rfl, (by show (0 : Int) < 10007; decide), _, rfl, a, _, _, _, rfl, rfl, SqL.of hp3, atI_nat (j := 2) rfl, _, _, rfl, rfl, .inl (by omega), _, _, rfl, rfl, _, _, rfl, rfl, .inl ⟨by omega, by omega⟩, .inl ⟨_, rfl, _, _, rfl, rfl, (by show (0 : Int) < 2305843009213693907; decide), ?_⟩⟩⟩
      refine ⟨_, rfl, _, _, rfl, rfl, ⟨by decide, by decide⟩, .inl ⟨_, rfl, _, rfl, _, _, rfl, rfl, hn0, ?_⟩⟩
      exact q _ p0 (p2 + 1) _ (Int.emod_nonneg _ (by omega)) (Int.emod_lt_of_pos _ hn0) (by omega) (hfr.same s3) ⟨hp3, h10, h1, by omega⟩
end
end K6

/-! text OF -/
set_option Elab.async false
set_option linter.all false
set_option maxRecDepth 100000
set_option maxHeartbeats 1000000
namespace K6
open PySem PySem.Spec PyProof.Rows L2
abbrev sOf : Stmt := top 49
section
variable {P : Program} {w : World} {K : PySem.W.Frag} {mg : Str → Option Value} {base : Heap}
theorem scOf : FnScope ["_law_pot_here", "_law_some"] ["_law_pot_here", "_law_some"] (defScope sOf) := ⟨rfl, rfl, rfl, by decide +kernel, rfl, by decide +kernel, by decide +kernel⟩
def spOf : Sp := fun vs H Q _ => ∃ (a b : Addr) (p0 p1 p2 : Int) (xs : List Str), vs = [.ref a, .ref b] ∧ Pot a p0 p1 p2 H ∧ p2 ≤ 100 ∧ H b = some (.lst (xs.map V.str)) ∧ b ≠ a ∧ 0 < xs.length ∧ xs.length ≤ 100 ∧
  ∀ x q0 q2 H', x ∈ xs → q2 ≤ p2 + 1 → Fr a H H' → Pot a q0 p1 q2 H' → Q (.str x) H'
theorem ok_of {f : Addr} {fd : FuncData} (F : Fun K "_law_of" "_law_of" sOf f fd) (hL : mg "len" = none) (R : FnAt P w K mg base CX0 1 "_law_take" ["_law_pot_here", "_law_upto"] spTake) : FnOk P w K mg base CX0 2 f fd ["_law_pot_here", "_law_some"] spOf := by
  refine F.ok scOf (fun vs H Q E h => ?_) (fun cdv A outer s0 H vs Q E hr h => ?_)
  · obtain ⟨a, b, p0, p1, p2, xs, rfl, _⟩ := h
    rfl
  · obtain ⟨a, b, p0, p1, p2, xs, rfl, hp, h2, hb, hne, hx0, hx, q⟩ := h
    obtain ⟨f1, d1, m1, k1, b1, G1⟩ := R
    refine ⟨_, pss_one (ps_ret (pe_ix ix_list (pv 1) (pe_call G1 hr rfl m1 k1 b1 .nil pass0 (pa_cons (pv 0) (pa_cons (pe_callB call_len_seq (by rfl) hL PySem.boot_len (pa_cons (pv 1) pa_nil)) pa_nil))) (fun _ _ => rfl))), ?_⟩
    refine ⟨_, rfl, _, rfl, _, rfl, b, _, rfl, .inl (SqL.of hb), ?_⟩
    have hl : ((xs.map V.str).length : Int) = (xs.length : Int) := by rw [List.length_map]
    refine ⟨a, p0, p1, p2, _, rfl, hp, h2, by omega, by omega, fun d q0 q2 H' hd0 hd hq hf hp' => ?_⟩
    have hdl : d.toNat < xs.length := by omega
    refine ⟨b, _, d, _, rfl, rfl, SqL.of (hf b _ hne hb), (?_ : _ = some (V.str xs[d.toNat])), q _ q0 q2 H' (List.getElem_mem hdl) hq hf hp'⟩
    have z : atI (xs.map V.str) ((d.toNat : Nat) : Int) = some (V.str xs[d.toNat]) := atI_nat (by
      rw [List.getElem?_map]
      simp [hdl])
    rw [show ((d.toNat : Nat) : Int) = d by omega] at z
    exact z
end
end K6

/-! text PT -/
set_option Elab.async false
set_option linter.all false
set_option maxRecDepth 100000
set_option maxHeartbeats 1000000
namespace K6
open PySem PySem.Spec PyProof.Rows L2
abbrev sPot : Stmt := top 47
theorem op_pow5 {X : Cx} : OpR X (binaryOp .Pow) (rI (fun i j => i = 10 ^ 60 ∧ j = 5) fun i j => .int (i ^ j.toNat)) := opI fun i j _ _ _ _ _ hc q => PyProof.Rows.pow_int (by rw [hc.2]; decide) (by rw [hc.1, hc.2]; decide +kernel) q
section
variable {P : Program} {w : World} {K : PySem.W.Frag} {mg : Str → Option Value} {base : Heap}
theorem scPot : FnScope ["_law_script", "_law_k", "_law_cell", "_law_own", "_law_mixed"] ["_law_script", "_law_k"] (defScope sPot) := ⟨rfl, rfl, rfl, by decide +kernel, rfl, by decide +kernel, by decide +kernel⟩
def spPot (K : PySem.W.Frag) : Sp := fun vs H Q _ => ∃ (a : Addr) (k : Nat) (ns : List Int), vs = [.ref a, .int k] ∧ SqL K H a (ns.map V.int) ∧ k ≤ 2 ∧ ∀ p p0 p1 H', H p = none → Same H H' → Pot p p0 p1 0 H' → Q (.ref p) H'
theorem ok_pot {f : Addr} {fd : FuncData} (F : Fun K "_law_pot" "_law_pot" sPot f fd) (hL : mg "len" = none) (hI : mg "int" = none) (hA : mg "abs" = none) : FnOk P w K mg base CX0 1 f fd ["_law_script", "_law_k"] (spPot K) := by
  refine F.ok scPot (fun vs H Q E h => ?_) (fun cdv A outer s0 H vs Q E hr h => ?_)
  · obtain ⟨a, k, ns, rfl, _⟩ := h
    rfl
  · obtain ⟨a, k, ns, rfl, ha, hk, q⟩ := h
    refine ⟨_, pss_cons (ps_set (i := 2) scPot.nd rfl (Or.inl rfl) (pe_ifExp (pt_cmpR op_lt (pv 1) (pe_callB call_len_seq (by rfl) hL PySem.boot_len (pa_cons (pv 0) pa_nil)) (nomark _)) (pe_ix ix_list (pv 0) (pv 1) (fun _ _ => rfl)) (pe_op op_add (pe_op op_mul pe_int (pv 1)) pe_int)))
      (pss_cons (ps_set (i := 3) scPot.nd rfl (Or.inl rfl) (pe_op op_mul (pe_op op_mod (pe_callTy call_int1 (by rfl) hI (by decide +kernel) (pa_cons (pe_callB call_abs (by rfl) hA (by decide +kernel) (pa_cons (pv 2) pa_nil)) pa_nil)) (pe_op op_pow5 (pe_op op_pow pe_int pe_int) pe_int)) (pe_callTy call_int1 (by rfl) hI (by decide +kernel) (pa_cons (pe_cmpR op_ge (pe_callB call_abs (by rfl) hA (by decide +kernel) (pa_cons (pv 2) pa_nil)) (pe_op op_pow pe_int pe_int) (nomark _)) pa_nil))))
      (pss_cons (ps_set (i := 4) scPot.nd rfl (Or.inl rfl) (pe_op op_add (pe_op op_add (pe_op op_mul (pe_op op_mod (pe_callTy call_int1 (by rfl) hI (by decide +kernel) (pa_cons (pv 2) pa_nil)) pe_int) pe_int) (pe_op op_mul (pe_op op_mul pe_int (pv 1)) (pv 1))) pe_int))
      (pss_one (ps_ret (pe_lst (pa_cons (pv 3) (pa_cons (pe_op op_mod (pe_callTy call_int1 (by rfl) hI (by decide +kernel) (pa_cons (pv 4) pa_nil)) pe_int) (pa_cons pe_int pa_nil)))))))), ?_⟩
    refine ⟨_, rfl, _, rfl, a, _, rfl, .inl (ha), _, _, rfl, rfl, _, rfl, ?_⟩
    have big : (0 : Int) < (10 ^ 60) ^ (5 : Int).toNat := by decide +kernel
    refine ite2 (fun c1 => ?_) (fun c1 => ?_)
    · have hlt : k < (ns.map V.int).length := by
        have z := of_decide_eq_true c1
        omega
      have hg : (ns.map V.int)[k]? = some (V.int (ns.getD k 0)) := by
        rw [List.length_map] at hlt
        rw [List.getElem?_map, List.getElem?_eq_getElem hlt]
        simp [List.getD, hlt]
      refine ⟨_, rfl, _, rfl, a, _, _, _, rfl, rfl, ha, atI_nat hg, ?_⟩
      generalize ns.getD k 0 = x
      refine ⟨_, rfl, _, rfl, .inl ⟨_, rfl, _, _, rfl, rfl, ⟨by decide, by decide, by decide⟩, _, _, rfl, rfl, ⟨by decide +kernel, rfl⟩, _, _, rfl, rfl, big, ?_⟩⟩
      refine ⟨_, rfl, _, rfl, _, _, rfl, rfl, ⟨by decide, by decide, by decide⟩, _, _, rfl, rfl, .inr ⟨_, rfl, _, _, rfl, rfl, .inr (by split <;> omega), ?_⟩⟩
      refine ⟨_, rfl, .inl ⟨_, rfl, _, _, rfl, rfl, (by show (0 : Int) < 2305843009213693951; decide), _, _, rfl, rfl, .inr (by omega), _, rfl, _, _, rfl, rfl, .inl (by omega), _, rfl, _, _, rfl, rfl, .inr (by omega), _, _, rfl, rfl, _, _, rfl, rfl, ?_⟩⟩
      refine ⟨_, rfl, _, rfl, .inl ⟨_, rfl, _, _, rfl, rfl, (by show (0 : Int) < 2305843009213693921; decide), (by show 3 ≤ sizeLine; decide), fun p hp => ?_⟩⟩
      exact q p _ _ _ hp (Same.new hp) ⟨upd_same, Int.emod_nonneg _ (by decide), Int.lt_trans (Int.emod_lt_of_pos _ (by decide)) (by decide), Int.le_refl _⟩
    · refine ⟨_, rfl, _, _, rfl, rfl, .inl (by omega), _, _, rfl, rfl, ?_⟩
      generalize 51 * (k : Int) + 31 = x
      refine ⟨_, rfl, _, rfl, .inl ⟨_, rfl, _, _, rfl, rfl, ⟨by decide, by decide, by decide⟩, _, _, rfl, rfl, ⟨by decide +kernel, rfl⟩, _, _, rfl, rfl, big, ?_⟩⟩
      refine ⟨_, rfl, _, rfl, _, _, rfl, rfl, ⟨by decide, by decide, by decide⟩, _, _, rfl, rfl, .inr ⟨_, rfl, _, _, rfl, rfl, .inr (by split <;> omega), ?_⟩⟩
      refine ⟨_, rfl, .inl ⟨_, rfl, _, _, rfl, rfl, (by show (0 : Int) < 2305843009213693951; decide), _, _, rfl, rfl, .inr (by omega), _, rfl, _, _, rfl, rfl, .inl (by omega), _, rfl, _, _, rfl, rfl, .inr (by omega), _, _, rfl, rfl, _, _, rfl, rfl, ?_⟩⟩
      refine ⟨_, rfl, _, rfl, .inl ⟨_, rfl, _, _, rfl, rfl, (by show (0 : Int) < 2305843009213693921; decide), (by show 3 ≤ sizeLine; decide), fun p hp => ?_⟩⟩
      exact q p _ _ _ hp (Same.new hp) ⟨upd_same, Int.emod_nonneg _ (by decide), Int.lt_trans (Int.emod_lt_of_pos _ (by decide)) (by decide), Int.le_refl _⟩
end
end K6

/-! text LW -/
set_option Elab.async false
set_option linter.all false
set_option maxRecDepth 100000
set_option maxHeartbeats 1000000
namespace K6
open PySem PySem.Spec PyProof.Rows L2
abbrev sLaw : Stmt := top 57
section
variable {P : Program} {w : World} {K : PySem.W.Frag} {mg : Str → Option Value} {base : Heap}
theorem scLaw : FnScope ["_law_script", "_law_k", "_law_pot_here"] ["_law_script"] (defScope sLaw) := ⟨rfl, rfl, rfl, by decide +kernel, rfl, by decide +kernel, by decide +kernel⟩
/-- _law_right's promise: the drawn program keeps its bounds -/
def spRight : Sp := fun vs H Q _ => ∃ (a : Addr) (p0 p1 : Int), vs = [.ref a] ∧ Pot a p0 p1 0 H ∧ ∀ H', Fr a H H' → Q (.bl true) H'
def spLaw6 (K : PySem.W.Frag) : Sp := fun vs H Q _ => ∃ (a : Addr) (ns : List Int), vs = [.ref a] ∧ SqL K H a (ns.map V.int) ∧ ns.length ≤ 63 ∧ ∀ H', Q (.bl true) H'
theorem ok_law {f : Addr} {fd : FuncData} (F : Fun K "law" "law" sLaw f fd) (hL : mg "len" = none) (hM : mg "max" = none) (hN : mg "min" = none) (hR : mg "range" = none) (RP : FnAt P w K mg base CX0 1 "_law_pot" ["_law_script", "_law_k"] (spPot K)) (RR : FnAt P w K mg base CX0 25 "_law_right" ["_law_pot_here"] spRight) :
    FnOk P w K mg base CX0 26 f fd ["_law_script"] (spLaw6 K) := by
  refine F.ok scLaw (fun vs H Q E h => ?_) (fun cdv A outer s0 H vs Q E hr h => ?_)
  · obtain ⟨a, ns, rfl, _⟩ := h
    rfl
  · obtain ⟨a, ns, rfl, ha, hn, q⟩ := h
    obtain ⟨f1, d1, m1, k1, b1, G1⟩ := RP
    obtain ⟨f2, d2, m2, k2, b2, G2⟩ := RR
    have hr1 : Room 1 _ := hr.mono (by omega)
    refine ⟨_, pss_cons (ps_for PassesOwn.never rfl (pi_range1 rfl hR (pa_cons (pe_callB (call_max2 rfl) (by rfl) hM (by decide +kernel) (pa_cons pe_int (pa_cons (pe_callB (call_min2 rfl) (by rfl) hN (by decide +kernel) (pa_cons pe_int (pa_cons (pe_callB call_len_seq (by rfl) hL PySem.boot_len (pa_cons (pv 0) pa_nil)) pa_nil))) pa_nil))) pa_nil)) (pg_name (i := 1) scLaw.nd rfl (Or.inl rfl))
        (pss_cons (ps_set (i := 2) scLaw.nd rfl (Or.inl rfl) (pe_call G1 hr1 rfl m1 k1 b1 .nil pass0 (pa_cons (pv 0) (pa_cons (pv 1) pa_nil))))
        (pss_one (ps_if (pt_not (pt_val (pe_call G2 hr rfl m2 k2 b2 .nil pass0 (pa_cons (pv 2) pa_nil)))) (pss_one (ps_ret pe_bl)) pss_nil))))
      (pss_one (ps_ret pe_bl)), ?_⟩
    refine ⟨_, rfl, a, _, rfl, .inl ha, _, _, rfl, _, _, rfl, ?_⟩
    have bnd : ∀ z : Int, -2 ^ 62 ≤ (if (if z < 3 then z else 3) > 1 then (if z < 3 then z else 3) else 1) ∧ (if (if z < 3 then z else 3) > 1 then (if z < 3 then z else 3) else 1) ≤ 3 := fun z => by
      constructor <;> split <;> split <;> omega
    refine ⟨_, rfl, ?_, ?_, ?_⟩
    · exact (bnd _).1
    · exact Int.lt_of_le_of_lt (bnd _).2 (by decide)
    have b3 := (bnd ((ns.map V.int).length : Int)).2
    refine for_range (lo := 0) (n := _) (fun i σ H' => (∃ x y, σ = [some (.ref a), x, y]) ∧ Same H H') ⟨⟨_, _, rfl⟩, Same.refl H⟩ ?_ ?_
    · rintro i σ H' hi ⟨⟨x, y, rfl⟩, s1⟩
      have hi2 : i ≤ 2 := by
        have z : (i : Int) < _ := Int.lt_toNat.mp hi
        omega
      refine ⟨_, rfl, _, rfl, a, i, ns, ?_, s1.seq ha, hi2, fun p p0 p1 H2 hp s2 hpot => ?_⟩
      · rw [Int.zero_add]
        rfl
      refine ⟨_, rfl, p, p0, p1, rfl, hpot, fun H3 f3 => ?_⟩
      refine ⟨true, rfl, ?_⟩
      exact ⟨⟨_, _, rfl⟩, fun b o e => f3 b o (ne_of_none (s1 b o e) hp) (s2 b o (s1 b o e))⟩
    · rintro σ H' _
      exact q H'
end
end K6

/-! text HP -/
set_option Elab.async false
set_option linter.all false
set_option maxRecDepth 100000
set_option maxHeartbeats 1000000
namespace K6
open PySem PySem.Spec PyProof.Rows L2
abbrev sHopes : Stmt := top 55
def hopeT (ask : Str) : Str := (("ask " : Str) ++ ask) ++ (" it guess aq = 1 guess bq + it guess cq = aq" : Str)
def hopeHead (ask : Str) : List Str := ["worths 2", "house", ("  ask " : Str) ++ ask, "screen", "  cell aq 0", "  cell bq 1", "  cell cq 0", "  show aq"]
def hopeRows (ask : Str) (n : Nat) : List Str := hopeHead ask ++ [("  deed d" : Str), ("    " : Str) ++ Txt.join " " ((Txt.split (hopeT ask) " ").take n)]
def hopes : List (Nat × D) := [(3, .s "told"), (7, .s "told"), (11, .s "told"), (15, .i 10), (10, .i 10), (4, .i 10)]
def hopeD (t : Nat × D) : D := .t [.i t.1, t.2]
def valD : D → V
  | .s x => .str x
  | .i n => .int n
  | _ => .non
theorem hopes_flat : ∀ t ∈ hopes, (∀ (S : SA) (z : V) (H : Hp), Rep S t.2 z H → z = valD t.2) ∧ scal (valD t.2) (valD t.2) = true ∧ t.1 ≤ 20 := by
  intro t ht
  simp only [hopes, List.mem_cons, List.not_mem_nil, or_false] at ht
  rcases ht with rfl | rfl | rfl | rfl | rfl | rfl <;> exact ⟨fun _ _ _ h => h, rfl, by decide⟩
section
variable {B : SA} {σ : L2.St} {H : Hp} {ta tb : TE}
theorem d_split {a b : Str} (h : EvD B ta σ H (.s a)) (g : EvD B tb σ H (.s b)) (hb : (b.length == 0) = false) (ha : a.length + 2 ≤ sizeLine) :
    EvD B (tM1 (fun x xs H Q => ∃ a b, x = .str a ∧ xs = [.str b] ∧ (b.length == 0) = false ∧ a.length + 2 ≤ sizeLine ∧ rNewStrs (Txt.split a b) H Q) ta tb) σ H (.l ((Txt.split a b).map D.s)) := fun H1 k Q q =>
  h H1 k _ fun v H2 k2 r => ⟨⟨a, r⟩, g H2 (k.trans k2) _ fun w H3 k3 r2 => ⟨a, b, r, by rw [show w = .str b from r2], hb, ha, fun p hp => q _ _ ((k2.trans k3).trans (Same.new hp)) (new_rep (k2.trans k3) hp (str_reps _))⟩⟩
theorem EvDA.use2 {t : TA} {ds : List D} {Q : List V → Hp → Prop} (h : EvDA Any t σ H ds) (q : ∀ vs H2, Same H H2 → Reps Any ds vs H2 → Q vs H2) : t σ H Q := h H (Same.refl H) _ fun vs H2 k r => q vs H2 k (reps_any r)
theorem if_caught {t : TA} {j : Nat} {tx : Str} {Dn : Ends} {A : TS} {E : XK} {d : V} (h : EvDA Any t σ H [.s tx]) (hok : TxOk tx) (hσ : σ[j]? = some (some d)) (hc : capM tx = d) (hs : scal d d = true) (q : ∀ H', Same H H' → Dn.nx σ H') : tIfS (tTest (tOp rNe (tCall spCaught [] E t) (tVar j))) A tNext Dn σ H := h H (Same.refl H) _ fun vs H2 k2 r => by
  obtain ⟨v, _, rfl, rv, rfl⟩ := reps_any r
  obtain rfl : v = .str tx := rv
  refine ⟨tx, rfl, hok, fun H3 k3 => ⟨d, hσ, by rw [hc]; exact hs, _, rfl, ?_⟩⟩
  rw [hc, decide_eq_true rfl]
  exact iteF (q H3 (k2.trans k3))
theorem seq_forT {K : PySem.W.Frag} {ds : List D} {g : TG} {tb : TS} {Dn : Ends} {u : TS} (h : EvD Any ta σ H (.t ds)) (q : ∀ a xs HL, Same H HL → HL a = some (.tup xs) → Reps Any ds xs HL → ∃ Pv : Nat → L2.St → Hp → Prop, Pv 0 σ HL ∧ (∀ i σ1 H1, i ≤ xs.length → Pv i σ1 H1 → SqT K H1 a xs) ∧
    (∀ i x σ1 H1, xs[i]? = some x → Pv i σ1 H1 → g x σ1 H1 fun σ2 H2 => tb { ({ Dn with nx := u Dn } : Ends) with nx := Pv (i + 1), ct := Pv (i + 1), bk := u Dn } σ2 H2) ∧ ∀ σ1 H1, Pv xs.length σ1 H1 → u Dn σ1 H1) : tSeq (tFor (iTup K ta) g tb) u Dn σ H := h H (Same.refl H) _ fun v HL k r => by
  obtain ⟨a, xs, rfl, ha, e, rr⟩ := r
  obtain ⟨Pv, h0, hl, hs, hd⟩ := q a xs HL k e (reps_any rr)
  exact ⟨a, rfl, ⟨xs, SqT.of e⟩, for_tup (K := K) (a := a) (xs := xs) Pv h0 hl hs hd⟩
end
section
variable {P : Program} {w : World} {K : PySem.W.Frag} {mg : Str → Option Value} {base : Heap}
theorem scHopes : FnScope ["_law_ask", "_law_head", "_law_words", "_law_many", "_law_due"] ["_law_ask"] (defScope sHopes) := ⟨rfl, rfl, rfl, by decide +kernel, rfl, by decide +kernel, by decide +kernel⟩
def spHopes : Sp := fun vs H Q _ => ∃ ask : Str, vs = [.str ask] ∧ ask.length ≤ 20 ∧ (Txt.split (hopeT ask) " ").length ≤ 100 ∧ (∀ n ≤ 20, (((Txt.split (hopeT ask) " ").take n).map (·.length)).sum ≤ 1000 ∧ (Txt.join " " ((Txt.split (hopeT ask) " ").take n)).length ≤ 1000) ∧
  (∀ t ∈ hopes, TxOk (Txt.join "\n" (hopeRows ask t.1)) ∧ capM (Txt.join "\n" (hopeRows ask t.1)) = valD t.2 ∧ ((hopeRows ask t.1).map (·.length)).sum ≤ 100000) ∧ ∀ H', Same H H' → Q (.bl true) H'
theorem ok_hopes {f : Addr} {fd : FuncData} (F : Fun K "_law_hopes_right" "_law_hopes_right" sHopes f fd) (RC : FnAt P w K mg base CX0 22 "_law_caught" ["_law_text"] spCaught) : FnOk P w K mg base CX0 23 f fd ["_law_ask"] spHopes := by
  refine F.ok scHopes (fun vs H Q E h => ?_) (fun cdv A outer s0 H vs Q E hr h => ?_)
  · obtain ⟨ask, rfl, _⟩ := h
    rfl
  · obtain ⟨ask, rfl, h_ask, hw, hj, hh, q⟩ := h
    obtain ⟨f1, d1, m1, k1, b1, G1⟩ := RC
    refine ⟨_, pss_cons (ps_set (i := 1) scHopes.nd rfl (Or.inl rfl) (pe_lst (pa_cons pe_str (pa_cons pe_str (pa_cons (pe_op op_add_str pe_str (pv 0)) (pa_cons pe_str (pa_cons pe_str (pa_cons pe_str (pa_cons pe_str (pa_cons pe_str pa_nil))))))))))
      (pss_cons (ps_set (i := 2) scHopes.nd rfl (Or.inl rfl) (pe_split (pe_op op_add_str (pe_op op_add_str pe_str (pv 0)) pe_str) pe_str))
      (pss_cons (ps_for PassesOwn.never rfl (pi_tup (pe_tup (pa_cons (pe_tup (pa_cons pe_int (pa_cons pe_str pa_nil))) (pa_cons (pe_tup (pa_cons pe_int (pa_cons pe_str pa_nil))) (pa_cons (pe_tup (pa_cons pe_int (pa_cons pe_str pa_nil))) (pa_cons (pe_tup (pa_cons pe_int (pa_cons pe_int pa_nil))) (pa_cons (pe_tup (pa_cons pe_int (pa_cons pe_int pa_nil))) (pa_cons (pe_tup (pa_cons pe_int (pa_cons pe_int pa_nil))) pa_nil)))))))) (pg_tup (by rfl) (pgs_cons (pg_name (i := 3) scHopes.nd rfl (Or.inl rfl)) (pgs_cons (pg_name (i := 4) scHopes.nd rfl (Or.inl rfl)) pgs_nil)))
        (pss_one (ps_if (pt_cmpR op_ne (pe_call G1 hr rfl m1 k1 b1 .nil pass0 (pa_cons (pe_join pe_str (pe_op op_cat (pv 1) (pe_lst (pa_cons pe_str (pa_cons (pe_op op_add_str pe_str (pe_join pe_str (pe_slice sl_list (pv 2) po_none (po_some (pv 3))))) pa_nil))))) pa_nil)) (pv 4) (nomark _)) (pss_one (ps_ret pe_bl)) pss_nil)))
      (pss_one (ps_ret pe_bl)))), ?_⟩
    refine seq_go (d := .l ((hopeHead ask).map D.s)) (d_lst (da_cons d_s (da_cons d_s (da_cons (d_catsB (show ("  ask " : Str).length ≤ 6 from by decide +kernel) h_ask d_s (d_v rfl rfl)) (da_cons d_s (da_cons d_s (da_cons d_s (da_cons d_s (da_cons d_s da_nil)))))))) (Nat.le_of_ble_eq_true rfl)) fun v1 H1 k1' r1 => ?_
    have r0 : Rep Any (.s ask) (.str ask) H1 := rfl
    refine seq_go (d := .l ((Txt.split (hopeT ask) " ").map D.s)) (d_split (d_catsB (len_le (show ("ask " : Str).length ≤ 4 from by decide +kernel) h_ask) (show (" it guess aq = 1 guess bq + it guess cq = aq" : Str).length ≤ 44 from by decide +kernel) (d_catsB (show ("ask " : Str).length ≤ 4 from by decide +kernel) h_ask d_s (d_v rfl r0)) d_s) d_s (by decide +kernel) ?_) fun v2 H2 k2 r2 => ?_
    · have z : (hopeT ask).length ≤ 68 := len_le (len_le (show ("ask " : Str).length ≤ 4 from by decide +kernel) h_ask) (show (" it guess aq = 1 guess bq + it guess cq = aq" : Str).length ≤ 44 from by decide +kernel)
      rw [sizeLine_eq]
      omega
    have r1 := rep_on k2 r1
    refine seq_forT (ds := hopes.map hopeD) (d_tup (da_cons (d_tup (da_cons d_i (da_cons d_s da_nil)) (Nat.le_of_ble_eq_true rfl)) (da_cons (d_tup (da_cons d_i (da_cons d_s da_nil)) (Nat.le_of_ble_eq_true rfl)) (da_cons (d_tup (da_cons d_i (da_cons d_s da_nil)) (Nat.le_of_ble_eq_true rfl)) (da_cons (d_tup (da_cons d_i (da_cons d_i da_nil)) (Nat.le_of_ble_eq_true rfl)) (da_cons (d_tup (da_cons d_i (da_cons d_i da_nil)) (Nat.le_of_ble_eq_true rfl)) (da_cons (d_tup (da_cons d_i (da_cons d_i da_nil)) (Nat.le_of_ble_eq_true rfl)) da_nil)))))) (Nat.le_of_ble_eq_true rfl)) fun aL xsL HL kL eL rL => ?_
    have r1 := rep_on kL r1
    have r2 := rep_on kL r2
    refine ⟨fun i σ1 H3 => (∃ y z, σ1 = [some (.str ask), some v1, some v2, y, z]) ∧ Same HL H3, ⟨⟨_, _, rfl⟩, Same.refl HL⟩, fun i σ1 H3 _ h => SqT.of (h.2 _ _ eL), ?_, ?_⟩
    · rintro i x σ1 H3 hx ⟨⟨y0, z0, rfl⟩, s3⟩
      obtain ⟨d, hd, rd⟩ := reps_at rL hx
      obtain ⟨t, hq, rfl⟩ : ∃ t, hopes[i]? = some t ∧ d = hopeD t := by
        rw [List.getElem?_map] at hd
        cases e : hopes[i]? with
        | none => rw [e] at hd; cases hd
        | some t => rw [e] at hd; exact ⟨t, rfl, (Option.some.inj hd).symm⟩
      have hm := List.mem_of_getElem? hq
      obtain ⟨fl, sc, h20⟩ := hopes_flat t hm
      obtain ⟨hok, hcap, hsum⟩ := hh t hm
      obtain ⟨a, xs, rfl, _, e1, y, ys, rfl, ry, z, zs, rfl, rz, rfl⟩ := rd
      obtain rfl : z = valD t.2 := fl _ _ _ rz
      refine ⟨a, _, rfl, SqT.of (s3 _ _ e1), rfl, y, _, rfl, valD t.2, _, rfl, rfl, ?_⟩
      have r1 := rep_on s3 r1
      have r2 := rep_on s3 r2
      have ry : Rep Any (.i (t.1 : Int)) y H3 := ry
      have hjj := hj t.1 h20
      refine if_caught (d := valD t.2) (tx := Txt.join "\n" (hopeRows ask t.1)) (da_cons (d_join (K := K) d_s (d_is (d_cat (d_v (i := 1) rfl r1) (d_lst (da_cons d_s (da_cons (d_catsB (show ("    " : Str).length ≤ 4 from by decide +kernel) hjj.2 d_s (d_join (K := K) d_s (d_is (d_to (d_v (i := 2) rfl r2) (d_v (i := 3) rfl ry)) (by rw [← List.map_take])) ?_)) da_nil)) (Nat.le_of_ble_eq_true rfl)) ?_) ?_) ?_) da_nil) hok rfl hcap sc fun H4 k4 => ⟨⟨_, _, rfl⟩, s3.trans k4⟩
      · have := hj t.1 h20
        rw [show (" " : Str).length = 1 from by decide +kernel]
        have q1 : ((Txt.split (hopeT ask) " ").take t.1).length ≤ 100 := Nat.le_trans (List.length_take_le ..) (by omega)
        omega
      · rw [List.length_map]
        exact (Nat.le_of_ble_eq_true rfl)
      · rw [hopeRows, List.map_append]
        rfl
      · rw [show ("\n" : Str).length = 1 from by decide +kernel, show (hopeRows ask t.1).length = 10 from rfl]
        omega
    · rintro σ1 H3 ⟨_, s3⟩
      exact q _ (((k1'.trans k2).trans kL).trans s3)
end
end K6

/-! text DRW -/
set_option Elab.async false
set_option linter.all false
set_option maxRecDepth 100000
set_option maxHeartbeats 4000000
namespace K6
open PySem PySem.Spec PyProof.Rows L2
def drA (ask cell : Str) : List (List Str × Int) := [([("  deed d" : Str), ("    anew" : Str), ("  deed e" : Str), ("    anew" : Str), (("  deed " : Str) ++ cell), ("    anew" : Str)], (0 : Int)),
  ([("  deed d" : Str), ("    anew" : Str), ("  deed e" : Str), ("    anew" : Str), (("  deed " : Str) ++ cell), ("    anew" : Str), ("  deed f" : Str), ("    anew" : Str)], (7 : Int)),
  ([("  deed d" : Str), ("    anew" : Str), ("  deed d" : Str), ("    anew" : Str)], (3 : Int)),
  ([], (1 : Int)),
  ([("  deed d" : Str)], (2 : Int))]
def drB (ask cell : Str) : List (List Str × Int) := [([("  deed d" : Str), ("    anew" : Str), ("    anew" : Str), ("    anew" : Str), ("    anew" : Str), ("    anew" : Str), ("    anew" : Str), ("    anew" : Str), ("    anew" : Str)], (0 : Int)),
  ([("  deed d" : Str), ("    anew" : Str), ("    anew" : Str), ("    anew" : Str), ("    anew" : Str), ("    anew" : Str), ("    anew" : Str), ("    anew" : Str), ("    anew" : Str), ("    anew" : Str)], (10 : Int))]
def drC (ask cell : Str) : List (List Str × Int) := [([("  deed d" : Str), ("    if it = 0" : Str), ("      if it = 1" : Str), ("        anew" : Str)], (0 : Int)),
  ([("  deed d" : Str), ("    if it = 0" : Str), ("      if it = 1" : Str), ("        if it = 0" : Str), ("          anew" : Str)], (4 : Int))]
def drT (ask cell : Str) : List (List Str × Int) := [([(("  deed d" : Str) ++ (" upto 1" : Str)), ("    anew" : Str)], (0 : Int)),
  ([(("  deed d" : Str) ++ (" upto 2" : Str)), ("    anew" : Str)], (1 : Int)),
  ([(("  deed d" : Str) ++ (" upto 0" : Str)), ("    anew" : Str)], (1 : Int)),
  ([(("  deed d" : Str) ++ ("eeeeeee" : Str)), ("    anew" : Str)], (0 : Int)),
  ([(("  deed d" : Str) ++ ("eeeeeeee" : Str)), ("    anew" : Str)], (1 : Int)),
  ([(("  deed d" : Str) ++ (" upto" : Str)), ("    anew" : Str)], (1 : Int))]
def drD (ask cell : Str) : List (List Str × Int) := [([("  deed d" : Str), (("    " : Str) ++ ((("add " : Str) ++ cell) ++ (" 2" : Str)))], (2 : Int)),
  ([("  deed d" : Str), (("    " : Str) ++ ((("add " : Str) ++ cell) ++ (" 1" : Str)))], (0 : Int)),
  ([("  deed d" : Str), (("    " : Str) ++ (((("ask " : Str) ++ ask) ++ (" it" : Str)) ++ (((" guess " : Str) ++ cell) ++ (" = 0" : Str))))], (0 : Int)),
  ([("  deed d" : Str), (("    " : Str) ++ ((((("ask " : Str) ++ ask) ++ (" it" : Str)) ++ (((" guess " : Str) ++ cell) ++ (" = 0" : Str))) ++ (((" guess " : Str) ++ cell) ++ (" = 0" : Str))))], (2 : Int)),
  ([("  deed d" : Str), (("    " : Str) ++ ((("set " : Str) ++ cell) ++ (" asked" : Str)))], (2 : Int)),
  ([("  deed d" : Str), (("    " : Str) ++ (("ask " : Str) ++ ask))], (2 : Int))]
def drE (ask cell : Str) : List (List Str × Int) := [([("  deed d" : Str), ("    anew" : Str), ("  over" : Str), ((("    set " : Str) ++ cell) ++ (" 1" : Str))], (0 : Int)),
  ([("  deed d" : Str), ("    anew" : Str), ("  over" : Str), ((("    set " : Str) ++ cell) ++ (" 1" : Str)), ("  over" : Str), ((("    set " : Str) ++ cell) ++ (" 1" : Str))], (5 : Int)),
  ([("  deed d" : Str), ("    anew" : Str), ("  over" : Str), ((("    set " : Str) ++ cell) ++ (" it" : Str))], (4 : Int))]
def drF (ask cell : Str) : List (List Str × Int) := [([("  deed d" : Str), ("    anew" : Str), (("  answer " : Str) ++ ask), ((("    set " : Str) ++ cell) ++ (" asked" : Str)), ("  over" : Str), ((("    set " : Str) ++ cell) ++ (" 1" : Str))], (0 : Int)),
  ([("  deed d" : Str), ("    anew" : Str), ("  over" : Str), ((("    set " : Str) ++ cell) ++ (" 1" : Str)), (("  answer " : Str) ++ ask), ((("    set " : Str) ++ cell) ++ (" asked" : Str))], (5 : Int)),
  ([("  deed d" : Str), ("    anew" : Str), (("  answer " : Str) ++ ask), ((("    set " : Str) ++ cell) ++ (" asked" : Str)), (("  answer " : Str) ++ ask), ((("    set " : Str) ++ cell) ++ (" asked" : Str))], (5 : Int))]
def deedRows (ask cell : Str) : List (List Str × Int) := drA ask cell ++ drB ask cell ++ drC ask cell ++ drT ask cell ++ drD ask cell ++ drE ask cell ++ drF ask cell
def rowD (r : List Str × Int) : D := .t [.l (r.1.map D.s), .i r.2]
theorem rowD_app {a b : List (List Str × Int)} {x y : List D} (h : x = a.map rowD) (g : y = b.map rowD) : x ++ y = (a ++ b).map rowD := by rw [h, g, List.map_append]
def tailI (t : Str × Int) : D := .t [.s t.1, .i t.2]
def tailO (t : Str × Int) : D := .t [.l [.s (("  deed d" : Str) ++ t.1), .s "    anew"], .i t.2]
def lineO (t : Str × Int) : D := .t [.l [.s "  deed d", .s (("    " : Str) ++ t.1)], .i t.2]
def linedTs (ask cell : Str) : List (Str × Int) := [(((("add " : Str) ++ cell) ++ (" 2" : Str)), (2 : Int)), (((("add " : Str) ++ cell) ++ (" 1" : Str)), (0 : Int)), ((((("ask " : Str) ++ ask) ++ (" it" : Str)) ++ (((" guess " : Str) ++ cell) ++ (" = 0" : Str))), (0 : Int)), (((((("ask " : Str) ++ ask) ++ (" it" : Str)) ++ (((" guess " : Str) ++ cell) ++ (" = 0" : Str))) ++ (((" guess " : Str) ++ cell) ++ (" = 0" : Str))), (2 : Int)), (((("set " : Str) ++ cell) ++ (" asked" : Str)), (2 : Int)), ((("ask " : Str) ++ ask), (2 : Int))]
theorem lined_eq (ask cell : Str) : D.l ([D.t [.s ((("add " : Str) ++ cell) ++ (" 2" : Str)), .i 2], .t [.s ((("add " : Str) ++ cell) ++ (" 1" : Str)), .i 0], .t [.s (((("ask " : Str) ++ ask) ++ (" it" : Str)) ++ (((" guess " : Str) ++ cell) ++ (" = 0" : Str))), .i 0]] ++ [D.t [.s ((((("ask " : Str) ++ ask) ++ (" it" : Str)) ++ (((" guess " : Str) ++ cell) ++ (" = 0" : Str))) ++ (((" guess " : Str) ++ cell) ++ (" = 0" : Str))), .i 2], .t [.s ((("set " : Str) ++ cell) ++ (" asked" : Str)), .i 2], .t [.s (("ask " : Str) ++ ask), .i 2]]) = .l ((linedTs ask cell).map tailI) := rfl
theorem lineds_eq (ask cell : Str) : (linedTs ask cell).map lineO = (drD ask cell).map rowD := rfl
theorem lined_len {ask cell : Str} (h_ask : ask.length ≤ 20) (h_cell : cell.length ≤ 20) : ∀ t ∈ linedTs ask cell, t.1.length ≤ 1000 := by
  have e1 := app_len
  intro t ht
  simp only [linedTs, List.mem_cons, List.not_mem_nil, or_false] at ht
  rcases ht with rfl | rfl | rfl | rfl | rfl | rfl <;>
    (simp only [app_len]; simp only [show ("add " : Str).length = 4 from by decide +kernel, show (" 2" : Str).length = 2 from by decide +kernel, show (" 1" : Str).length = 2 from by decide +kernel, show ("ask " : Str).length = 4 from by decide +kernel, show (" it" : Str).length = 3 from by decide +kernel, show (" guess " : Str).length = 7 from by decide +kernel, show (" = 0" : Str).length = 4 from by decide +kernel, show ("set " : Str).length = 4 from by decide +kernel, show (" asked" : Str).length = 6 from by decide +kernel]; omega)
theorem lenT (ask cell : Str) : ((drA ask cell ++ drB ask cell ++ drC ask cell ++ drT ask cell).map rowD).length = 15 := by
  rw [List.length_map, List.length_append, List.length_append, List.length_append]
  rfl
theorem lenD (ask cell : Str) : ((drA ask cell ++ drB ask cell ++ drC ask cell ++ drT ask cell ++ drD ask cell).map rowD).length = 21 := by
  rw [List.length_map, List.length_append, List.length_append, List.length_append, List.length_append]
  rfl
theorem lenE (ask cell : Str) : ((drA ask cell ++ drB ask cell ++ drC ask cell ++ drT ask cell ++ drD ask cell ++ drE ask cell).map rowD).length = 24 := by
  rw [List.length_map, List.length_append, List.length_append, List.length_append, List.length_append, List.length_append]
  rfl
theorem cat_le {a b : List D} {n m : Nat} (h : a.length = n) (g : b.length = m) (k : Nat.ble (n + m) 100000 = true := by rfl) : a.length + b.length ≤ 100000 := by
  rw [h, g]
  exact Nat.le_of_ble_eq_true k
theorem rows_eq (ask cell : Str) : rowsD (deedRows ask cell) = .l ((drA ask cell ++ drB ask cell ++ drC ask cell ++ drT ask cell ++ drD ask cell ++ drE ask cell ++ drF ask cell).map rowD) := rfl
def spDeedRows : Sp := fun vs H Q _ => ∃ ask cell : Str, vs = [.str ask, .str cell] ∧ ask.length ≤ 20 ∧ cell.length ≤ 20 ∧ ∀ v H', Same H H' → Rep Any (rowsD (deedRows ask cell)) v H' → Q v H'
end K6

/-! text MT0 -/
set_option Elab.async false
set_option linter.all false
set_option maxRecDepth 100000
set_option maxHeartbeats 4000000
namespace K6
open PySem PySem.Spec PyProof.Rows L2
def resM (rows : List Str) : Int := match progM rows with
  | .ok _ => -1
  | .error l => l
def six : List Str := ["a", "zz", "house", "set", "over", "worths"]
def partsD (ask cell w : Str) : List (List Str) := [["house", ("  ask " : Str) ++ ask], ["screen", ((("  cell " : Str) ++ cell) ++ (" " : Str)) ++ w, ("  show " : Str) ++ cell], ["  deed d", (("    set " : Str) ++ cell) ++ (" 1" : Str)]]
def okAt (ps : List (List Str)) (k : Nat) (r : List Str × Int) : Bool := match someD ps k r.1 with
  | [a, b, c] => (((["worths 2"] : List Str) ++ a ++ b ++ c).all rowOk) && (resM ((["worths 2"] : List Str) ++ a ++ b ++ c) == (if r.2 > 0 then 1 + (((someD ps k r.1).take k).map (·.length)).sum + r.2 else -1)) && decide (a.length + b.length + c.length ≤ 150) && decide (0 ≤ r.2) && decide (r.2 ≤ 1000)
  | _ => false
structure AtOk (ps : List (List Str)) (k : Nat) (r : List Str × Int) (a b c : List Str) : Prop where
  e : someD ps k r.1 = [a, b, c]
  tx : TxOk (Txt.join "\n" ((["worths 2"] : List Str) ++ a ++ b ++ c))
  l : a.length + b.length + c.length ≤ 200
  x : ∀ x ∈ a ++ b ++ c, x.length ≤ 1000
  d0 : 0 ≤ r.2
  d : r.2 ≤ 1000
  cap : capM (Txt.join "\n" ((["worths 2"] : List Str) ++ a ++ b ++ c)) = (if r.2.toNat > 0 then V.int ((1 + (((someD ps k r.1).take k).map (·.length)).sum + r.2.toNat : Nat)) else V.str "told")
theorem rowOk_len {x : Str} (h : rowOk x = true) : x.length ≤ 1000 := by
  unfold rowOk at h
  simp only [Bool.and_eq_true, decide_eq_true_eq] at h
  exact h.1.1
theorem okAt_is {ps : List (List Str)} {k : Nat} {r : List Str × Int} (h : okAt ps k r = true) : ∃ a b c, AtOk ps k r a b c := by
  unfold okAt at h
  split at h
  · rename_i a b c e
    rw [Bool.and_eq_true, Bool.and_eq_true, Bool.and_eq_true, Bool.and_eq_true] at h
    obtain ⟨⟨⟨⟨h1, h2⟩, h3⟩, h4⟩, h5⟩ := h
    have h3 := of_decide_eq_true h3
    have h4 := of_decide_eq_true h4
    have h5 := of_decide_eq_true h5
    have h2 := eq_of_beq h2
    have h1 := List.all_eq_true.mp h1
    have hno : ∀ l, progM ((["worths 2"] : List Str) ++ a ++ b ++ c) = .error l → l ≠ 0 := fun l el z => by
      unfold resM at h2
      rw [el] at h2
      subst z
      dsimp only at h2
      split at h2 <;> omega
    have hlen : ((["worths 2"] : List Str) ++ a ++ b ++ c).length = 1 + a.length + b.length + c.length := by
      rw [List.length_append, List.length_append, List.length_append]
      rfl
    obtain ⟨t1, t2⟩ := rows_text (rows := (["worths 2"] : List Str) ++ a ++ b ++ c) (by simp) (by omega) h1 hno
    refine ⟨a, b, c, e, t1, by omega, fun x hx => rowOk_len (h1 x ?_), h4, h5, ?_⟩
    · rw [List.append_assoc, List.append_assoc]
      refine List.mem_append_right _ ?_
      rw [← List.append_assoc]
      exact hx
    · rw [t2]
      unfold resV
      unfold resM at h2
      rw [e] at h2 ⊢
      cases ep : progM ((["worths 2"] : List Str) ++ a ++ b ++ c) with
      | ok q =>
        rw [ep] at h2
        dsimp only at h2 ⊢
        by_cases z : r.2 > 0
        · rw [if_pos z] at h2
          omega
        · rw [if_neg (by omega)]
      | error l =>
        rw [ep] at h2
        dsimp only at h2 ⊢
        by_cases z : r.2 > 0
        · rw [if_pos z] at h2
          rw [if_pos (by omega)]
          refine congrArg V.int ?_
          omega
        · rw [if_neg z] at h2
          omega
  · cases h
end K6

/-! text MThouse -/
set_option Elab.async false
set_option linter.all false
set_option maxRecDepth 100000
set_option maxHeartbeats 0
namespace K6
open PySem PySem.Spec PyProof.Rows L2
theorem at_house : (six.all fun ask => six.all fun cell => (["0", "1"] : List Str).all fun w => (houseRows ask).all fun r => okAt (partsD ask cell w) 0 r) = true := by decide +kernel
end K6

/-! text MTscreen -/
set_option Elab.async false
set_option linter.all false
set_option maxRecDepth 100000
set_option maxHeartbeats 0
namespace K6
open PySem PySem.Spec PyProof.Rows L2
theorem at_screen : (six.all fun ask => six.all fun cell => (["0", "1"] : List Str).all fun w => (screenRows cell).all fun r => okAt (partsD ask cell w) 1 r) = true := by decide +kernel
end K6

/-! text MTd0 -/
set_option Elab.async false
set_option linter.all false
set_option maxRecDepth 100000
set_option maxHeartbeats 0
namespace K6
open PySem PySem.Spec PyProof.Rows L2
theorem d0_0_0 : ((deedRows "a" "a").all fun r => okAt (partsD "a" "a" "0") 2 r) = true := by decide +kernel
theorem d0_0_1 : ((deedRows "a" "zz").all fun r => okAt (partsD "a" "zz" "0") 2 r) = true := by decide +kernel
theorem d0_0_2 : ((deedRows "a" "house").all fun r => okAt (partsD "a" "house" "0") 2 r) = true := by decide +kernel
theorem d0_0_3 : ((deedRows "a" "set").all fun r => okAt (partsD "a" "set" "0") 2 r) = true := by decide +kernel
theorem d0_0_4 : ((deedRows "a" "over").all fun r => okAt (partsD "a" "over" "0") 2 r) = true := by decide +kernel
theorem d0_0_5 : ((deedRows "a" "worths").all fun r => okAt (partsD "a" "worths" "0") 2 r) = true := by decide +kernel
theorem d0_1_0 : ((deedRows "zz" "a").all fun r => okAt (partsD "zz" "a" "0") 2 r) = true := by decide +kernel
theorem d0_1_1 : ((deedRows "zz" "zz").all fun r => okAt (partsD "zz" "zz" "0") 2 r) = true := by decide +kernel
theorem d0_1_2 : ((deedRows "zz" "house").all fun r => okAt (partsD "zz" "house" "0") 2 r) = true := by decide +kernel
theorem d0_1_3 : ((deedRows "zz" "set").all fun r => okAt (partsD "zz" "set" "0") 2 r) = true := by decide +kernel
theorem d0_1_4 : ((deedRows "zz" "over").all fun r => okAt (partsD "zz" "over" "0") 2 r) = true := by decide +kernel
theorem d0_1_5 : ((deedRows "zz" "worths").all fun r => okAt (partsD "zz" "worths" "0") 2 r) = true := by decide +kernel
theorem d0_2_0 : ((deedRows "house" "a").all fun r => okAt (partsD "house" "a" "0") 2 r) = true := by decide +kernel
theorem d0_2_1 : ((deedRows "house" "zz").all fun r => okAt (partsD "house" "zz" "0") 2 r) = true := by decide +kernel
theorem d0_2_2 : ((deedRows "house" "house").all fun r => okAt (partsD "house" "house" "0") 2 r) = true := by decide +kernel
theorem d0_2_3 : ((deedRows "house" "set").all fun r => okAt (partsD "house" "set" "0") 2 r) = true := by decide +kernel
theorem d0_2_4 : ((deedRows "house" "over").all fun r => okAt (partsD "house" "over" "0") 2 r) = true := by decide +kernel
theorem d0_2_5 : ((deedRows "house" "worths").all fun r => okAt (partsD "house" "worths" "0") 2 r) = true := by decide +kernel
theorem d0_3_0 : ((deedRows "set" "a").all fun r => okAt (partsD "set" "a" "0") 2 r) = true := by decide +kernel
theorem d0_3_1 : ((deedRows "set" "zz").all fun r => okAt (partsD "set" "zz" "0") 2 r) = true := by decide +kernel
theorem d0_3_2 : ((deedRows "set" "house").all fun r => okAt (partsD "set" "house" "0") 2 r) = true := by decide +kernel
theorem d0_3_3 : ((deedRows "set" "set").all fun r => okAt (partsD "set" "set" "0") 2 r) = true := by decide +kernel
theorem d0_3_4 : ((deedRows "set" "over").all fun r => okAt (partsD "set" "over" "0") 2 r) = true := by decide +kernel
theorem d0_3_5 : ((deedRows "set" "worths").all fun r => okAt (partsD "set" "worths" "0") 2 r) = true := by decide +kernel
theorem d0_4_0 : ((deedRows "over" "a").all fun r => okAt (partsD "over" "a" "0") 2 r) = true := by decide +kernel
theorem d0_4_1 : ((deedRows "over" "zz").all fun r => okAt (partsD "over" "zz" "0") 2 r) = true := by decide +kernel
theorem d0_4_2 : ((deedRows "over" "house").all fun r => okAt (partsD "over" "house" "0") 2 r) = true := by decide +kernel
theorem d0_4_3 : ((deedRows "over" "set").all fun r => okAt (partsD "over" "set" "0") 2 r) = true := by decide +kernel
theorem d0_4_4 : ((deedRows "over" "over").all fun r => okAt (partsD "over" "over" "0") 2 r) = true := by decide +kernel
theorem d0_4_5 : ((deedRows "over" "worths").all fun r => okAt (partsD "over" "worths" "0") 2 r) = true := by decide +kernel
theorem d0_5_0 : ((deedRows "worths" "a").all fun r => okAt (partsD "worths" "a" "0") 2 r) = true := by decide +kernel
theorem d0_5_1 : ((deedRows "worths" "zz").all fun r => okAt (partsD "worths" "zz" "0") 2 r) = true := by decide +kernel
theorem d0_5_2 : ((deedRows "worths" "house").all fun r => okAt (partsD "worths" "house" "0") 2 r) = true := by decide +kernel
theorem d0_5_3 : ((deedRows "worths" "set").all fun r => okAt (partsD "worths" "set" "0") 2 r) = true := by decide +kernel
theorem d0_5_4 : ((deedRows "worths" "over").all fun r => okAt (partsD "worths" "over" "0") 2 r) = true := by decide +kernel
theorem d0_5_5 : ((deedRows "worths" "worths").all fun r => okAt (partsD "worths" "worths" "0") 2 r) = true := by decide +kernel
end K6

/-! text MTd1 -/
set_option Elab.async false
set_option linter.all false
set_option maxRecDepth 100000
set_option maxHeartbeats 0
namespace K6
open PySem PySem.Spec PyProof.Rows L2
theorem d1_0_0 : ((deedRows "a" "a").all fun r => okAt (partsD "a" "a" "1") 2 r) = true := by decide +kernel
theorem d1_0_1 : ((deedRows "a" "zz").all fun r => okAt (partsD "a" "zz" "1") 2 r) = true := by decide +kernel
theorem d1_0_2 : ((deedRows "a" "house").all fun r => okAt (partsD "a" "house" "1") 2 r) = true := by decide +kernel
theorem d1_0_3 : ((deedRows "a" "set").all fun r => okAt (partsD "a" "set" "1") 2 r) = true := by decide +kernel
theorem d1_0_4 : ((deedRows "a" "over").all fun r => okAt (partsD "a" "over" "1") 2 r) = true := by decide +kernel
theorem d1_0_5 : ((deedRows "a" "worths").all fun r => okAt (partsD "a" "worths" "1") 2 r) = true := by decide +kernel
theorem d1_1_0 : ((deedRows "zz" "a").all fun r => okAt (partsD "zz" "a" "1") 2 r) = true := by decide +kernel
theorem d1_1_1 : ((deedRows "zz" "zz").all fun r => okAt (partsD "zz" "zz" "1") 2 r) = true := by decide +kernel
theorem d1_1_2 : ((deedRows "zz" "house").all fun r => okAt (partsD "zz" "house" "1") 2 r) = true := by decide +kernel
theorem d1_1_3 : ((deedRows "zz" "set").all fun r => okAt (partsD "zz" "set" "1") 2 r) = true := by decide +kernel
theorem d1_1_4 : ((deedRows "zz" "over").all fun r => okAt (partsD "zz" "over" "1") 2 r) = true := by decide +kernel
theorem d1_1_5 : ((deedRows "zz" "worths").all fun r => okAt (partsD "zz" "worths" "1") 2 r) = true := by decide +kernel
theorem d1_2_0 : ((deedRows "house" "a").all fun r => okAt (partsD "house" "a" "1") 2 r) = true := by decide +kernel
theorem d1_2_1 : ((deedRows "house" "zz").all fun r => okAt (partsD "house" "zz" "1") 2 r) = true := by decide +kernel
theorem d1_2_2 : ((deedRows "house" "house").all fun r => okAt (partsD "house" "house" "1") 2 r) = true := by decide +kernel
theorem d1_2_3 : ((deedRows "house" "set").all fun r => okAt (partsD "house" "set" "1") 2 r) = true := by decide +kernel
theorem d1_2_4 : ((deedRows "house" "over").all fun r => okAt (partsD "house" "over" "1") 2 r) = true := by decide +kernel
theorem d1_2_5 : ((deedRows "house" "worths").all fun r => okAt (partsD "house" "worths" "1") 2 r) = true := by decide +kernel
theorem d1_3_0 : ((deedRows "set" "a").all fun r => okAt (partsD "set" "a" "1") 2 r) = true := by decide +kernel
theorem d1_3_1 : ((deedRows "set" "zz").all fun r => okAt (partsD "set" "zz" "1") 2 r) = true := by decide +kernel
theorem d1_3_2 : ((deedRows "set" "house").all fun r => okAt (partsD "set" "house" "1") 2 r) = true := by decide +kernel
theorem d1_3_3 : ((deedRows "set" "set").all fun r => okAt (partsD "set" "set" "1") 2 r) = true := by decide +kernel
theorem d1_3_4 : ((deedRows "set" "over").all fun r => okAt (partsD "set" "over" "1") 2 r) = true := by decide +kernel
theorem d1_3_5 : ((deedRows "set" "worths").all fun r => okAt (partsD "set" "worths" "1") 2 r) = true := by decide +kernel
theorem d1_4_0 : ((deedRows "over" "a").all fun r => okAt (partsD "over" "a" "1") 2 r) = true := by decide +kernel
theorem d1_4_1 : ((deedRows "over" "zz").all fun r => okAt (partsD "over" "zz" "1") 2 r) = true := by decide +kernel
theorem d1_4_2 : ((deedRows "over" "house").all fun r => okAt (partsD "over" "house" "1") 2 r) = true := by decide +kernel
theorem d1_4_3 : ((deedRows "over" "set").all fun r => okAt (partsD "over" "set" "1") 2 r) = true := by decide +kernel
theorem d1_4_4 : ((deedRows "over" "over").all fun r => okAt (partsD "over" "over" "1") 2 r) = true := by decide +kernel
theorem d1_4_5 : ((deedRows "over" "worths").all fun r => okAt (partsD "over" "worths" "1") 2 r) = true := by decide +kernel
theorem d1_5_0 : ((deedRows "worths" "a").all fun r => okAt (partsD "worths" "a" "1") 2 r) = true := by decide +kernel
theorem d1_5_1 : ((deedRows "worths" "zz").all fun r => okAt (partsD "worths" "zz" "1") 2 r) = true := by decide +kernel
theorem d1_5_2 : ((deedRows "worths" "house").all fun r => okAt (partsD "worths" "house" "1") 2 r) = true := by decide +kernel
theorem d1_5_3 : ((deedRows "worths" "set").all fun r => okAt (partsD "worths" "set" "1") 2 r) = true := by decide +kernel
theorem d1_5_4 : ((deedRows "worths" "over").all fun r => okAt (partsD "worths" "over" "1") 2 r) = true := by decide +kernel
theorem d1_5_5 : ((deedRows "worths" "worths").all fun r => okAt (partsD "worths" "worths" "1") 2 r) = true := by decide +kernel
end K6

/-! text DW -/
set_option Elab.async false
set_option linter.all false
set_option maxRecDepth 100000
set_option maxHeartbeats 4000000
namespace K6
open PySem PySem.Spec PyProof.Rows L2
def TInv (p : Addr) (i j : Nat) (σ0 : L2.St) (HL : Hp) (ds : List D) (outs : List D) (n : Nat) (σ : L2.St) (H : Hp) : Prop := (∀ y z, (σ.set i y).set j z = (σ0.set i y).set j z) ∧ (n = 0 ∨ ∃ y z, σ = (σ0.set i (some y)).set j (some z)) ∧ (∀ b o, b ≠ p → HL b = some o → H b = some o) ∧ ∃ ys, H p = some (.lst ys) ∧ Reps (fun a => a ≠ p) (ds ++ outs.take n) ys H
theorem rep_off {S : SA} {p : Addr} {H H2 : Hp} {d : D} {v : V} (hp : H p = none) (k : Same H H2) (r : Rep S d v H) : Rep (fun a => a ≠ p) d v H2 := rep_mono (fun a o _ e => ⟨(fun z => by rw [z, hp] at e; cases e), k a o e⟩) d v r
theorem reps_off {S : SA} {p : Addr} {H H2 : Hp} {d : List D} {v : List V} (hp : H p = none) (k : Same H H2) (r : Reps S d v H) : Reps (fun a => a ≠ p) d v H2 := reps_mono (fun a o _ e => ⟨(fun z => by rw [z, hp] at e; cases e), k a o e⟩) d v r
def foundDs_ : Unit := ()
def tails : List (Str × Int) := [((" upto 1" : Str), (0 : Int)), ((" upto 2" : Str), (1 : Int)), ((" upto 0" : Str), (1 : Int)), (("eeeeeee" : Str), (0 : Int)), (("eeeeeeee" : Str), (1 : Int)), ((" upto" : Str), (1 : Int))]
theorem at_σ {u : TS} {Dn : Ends} {σ σ2 : L2.St} {H : Hp} (e : σ = σ2) (h : u Dn σ2 H) : u Dn σ H := e ▸ h
section
variable {σ : L2.St} {H : Hp} {ta tb : TE}
theorem seq_cat {i : Nat} {a b : List D} {Dn : Ends} {u : TS} (h : EvD Any ta σ H (.l a)) (g : EvD Any tb σ H (.l b)) (hl : a.length + b.length ≤ 100000) (q : ∀ p xs H2, H p = none → Same H H2 → H2 p = some (.lst xs) → Reps (fun a => a ≠ p) (a ++ b) xs H2 → u Dn (σ.set i (some (.ref p))) H2) : tSeq (tAsg (tOp rCat ta tb) (gName i)) u Dn σ H :=
  h H (Same.refl H) _ fun v H2 k2 r => g H2 k2 _ fun w H3 k3 r2 => by
    obtain ⟨p, xs, rfl, _, e1, e2⟩ := rep_on k3 r
    obtain ⟨p2, ys, rfl, _, f1, f2⟩ := r2
    exact ⟨p, p2, xs, ys, rfl, rfl, e1, f1, by rw [reps_len e2, reps_len f2, sizeLine_eq]; omega, fun n hn => q n _ _ ((k2.trans k3).free hn) ((k2.trans k3).trans (Same.new hn)) upd_same (reps_off hn (Same.new hn) (reps_app (reps_any e2) (reps_any f2)))⟩
theorem seq_for {K : PySem.W.Frag} {B : SA} {ds : List D} {g : TG} {tb : TS} {Dn : Ends} {u : TS} (h : EvD B ta σ H (.l ds)) (q : ∀ a xs HL, Same H HL → S2 B H a → HL a = some (.lst xs) → Reps (S2 B H) ds xs HL → ∃ Pv : Nat → L2.St → Hp → Prop, Pv 0 σ HL ∧ (∀ i σ1 H1, i ≤ xs.length → Pv i σ1 H1 → SqL K H1 a xs) ∧
    (∀ i x σ1 H1, xs[i]? = some x → Pv i σ1 H1 → g x σ1 H1 fun σ2 H2 => tb { ({ Dn with nx := u Dn } : Ends) with nx := Pv (i + 1), ct := Pv (i + 1), bk := u Dn } σ2 H2) ∧ ∀ σ1 H1, Pv xs.length σ1 H1 → u Dn σ1 H1) : tSeq (tFor (iList K ta) g tb) u Dn σ H := h H (Same.refl H) _ fun v HL k r => by
  obtain ⟨a, xs, rfl, ha, e, rr⟩ := r
  obtain ⟨Pv, h0, hl, hs, hd⟩ := q a xs HL k ha e rr
  exact ⟨a, rfl, ⟨xs, SqL.of e⟩, for_list (K := K) (a := a) (xs := xs) Pv h0 hl hs hd⟩
theorem EvDA.use {B : SA} {t : TA} {ds : List D} {Q : List V → Hp → Prop} (h : EvDA B t σ H ds) (q : ∀ vs H2, Same H H2 → Reps (S2 B H) ds vs H2 → Q vs H2) : t σ H Q := h H (Same.refl H) Q q
abbrev addS : R2 := fun x y H Q => ∃ i j, x = .str i ∧ y = .str j ∧ i.length + j.length ≤ sizeLine ∧ Q (.str (i ++ j)) H
theorem line_turn {K : PySem.W.Frag} {t : Str × Int} (h7 : σ.length = 13) (hx : t.1.length ≤ 1000) : Turn (gTup K 2 (gCons (gName 12) (gCons (gName 7) gNil))) (tTup (tCons (tLst (tCons (tC (.str "  deed d")) (tCons (tOp addS (tC (.str "    ")) (tVar 12)) tNil))) (tCons (tVar 7) tNil))) [12, 7] σ H (tailI t) (lineO t) := by
  have hw : (wipe σ [12, 7]).length = 13 := by rw [wipe_length, h7]
  refine turn_pair (fun x y Hb kb r1 r2 => ?_) (fun x y => ?_)
  · have e1 : (((wipe σ [12, 7]).set 12 (some x)).set 7 (some y))[12]? = some (some x) := by
      rw [List.getElem?_set_ne (by decide), List.getElem?_set_self (by omega)]
    have e2 : (((wipe σ [12, 7]).set 12 (some x)).set 7 (some y))[7]? = some (some y) := by
      rw [List.getElem?_set_self (by rw [List.length_set]; omega)]
    exact d_tup (da_cons (d_lst (da_cons d_s (da_cons (d_catsB (m := 4) (n := 1000) (show ("    " : Str).length ≤ 4 from by decide +kernel) hx d_s (d_v e1 r1)) da_nil)) (Nat.le_of_ble_eq_true rfl)) (da_cons (d_v e2 r2) da_nil)) (Nat.le_of_ble_eq_true rfl)
  · match σ, h7 with
    | [a0, a1, a2, a3, a4, a5, a6, a7, a8, a9, a10, a11, a12], _ => rfl
theorem d_lcP {K : PySem.W.Frag} {g : TG} {te : TE} {vs : List Nat} {ts : List (Str × Int)} (h : EvD Any ta σ H (.l (ts.map tailI))) (hl : ts.length ≤ 100000) (ht : ∀ t ∈ ts, Turn g te vs σ H (tailI t) (lineO t)) : EvD Any (tLc (iList K ta) g tYes te vs) σ H (.l (ts.map lineO)) := by
  refine d_is (d_lcL (f := fun d => match d with | .t [.s x, .i n] => lineO (x, n) | d => d) h (by rw [List.length_map]; exact hl) fun d hd => ?_) ?_
  · obtain ⟨t, h1, rfl⟩ := List.mem_map.mp hd
    exact ht t h1
  · rw [List.map_map]
    rfl
theorem all6 {p : Str × Int → Prop} {a b c a' b' c' : Str × Int} (h1 : p a) (h2 : p b) (h3 : p c) (h4 : p a') (h5 : p b') (h6 : p c') : ∀ d ∈ [a, b, c, a', b', c'], p d := by
  intro d hd
  simp only [List.mem_cons, List.not_mem_nil, or_false] at hd
  rcases hd with rfl | rfl | rfl | rfl | rfl | rfl <;> assumption
theorem par_go {i j : Nat} {t : TA} {d e : D} {Dn : Ends} {u : TS} (h : EvDA Any t σ H [d, e]) (q : ∀ v w H2, Same H H2 → Rep Any d v H2 → Rep Any e w H2 → u Dn ((σ.set i (some v)).set j (some w)) H2) : tSeq (tPar i j t) u Dn σ H := h H (Same.refl H) _ fun vs H2 k r => by
  obtain ⟨v, _, rfl, r1, w, _, rfl, r2, rfl⟩ := reps_any r
  exact ⟨v, w, rfl, q v w H2 k r1 r2⟩
end
abbrev sDeedRows : Stmt := top 54
section
variable {P : Program} {w : World} {K : PySem.W.Frag} {mg : Str → Option Value} {base : Heap}
theorem scDeedRows : FnScope ["_law_ask", "_law_cell", "_law_one", "_law_found", "_law_deeds", "_law_nest", "_law_tail", "_law_due", "_law_hope", "_law_lined", "_law_over", "_law_tell", "_law_line"] ["_law_ask", "_law_cell"] (defScope sDeedRows) := ⟨rfl, rfl, rfl, by decide +kernel, rfl, by decide +kernel, by decide +kernel⟩
theorem ok_deed_rows {f : Addr} {fd : FuncData} (F : Fun K "_law_deed_rows" "_law_deed_rows" sDeedRows f fd) (LN : LNames mg) : FnOk P w K mg base CX0 1 f fd ["_law_ask", "_law_cell"] spDeedRows := by
  refine F.ok scDeedRows (fun vs H Q E h => ?_) (fun cdv A outer s0 H vs Q E hr h => ?_)
  · obtain ⟨ask, cell, rfl, _⟩ := h
    rfl
  · obtain ⟨ask, cell, rfl, h_ask, h_cell, k⟩ := h
    refine ⟨_, pss_cons (ps_par (i := 2) (j := 3) (by rfl) scDeedRows.nd rfl rfl (by decide) rfl rfl (pa_cons (pe_lst (pa_cons pe_str (pa_cons pe_str pa_nil))) (pa_cons (pe_lst pa_nil) pa_nil)) (by rfl))
      (pss_cons (ps_set (i := 4) scDeedRows.nd rfl (Or.inl rfl) (pe_op op_cat (pv 2) (pe_lst (pa_cons pe_str (pa_cons pe_str (pa_cons (pe_op op_add_str pe_str (pv 1)) (pa_cons pe_str (pa_cons pe_str (pa_cons pe_str pa_nil)))))))))
      (pss_cons (ps_set (i := 3) scDeedRows.nd rfl (Or.inl rfl) (pe_lst (pa_cons (pe_tup (pa_cons (pe_slice sl_list (pv 4) po_none (po_some pe_int)) (pa_cons pe_int pa_nil))) (pa_cons (pe_tup (pa_cons (pv 4) (pa_cons pe_int pa_nil))) (pa_cons (pe_tup (pa_cons (pe_op op_cat (pv 2) (pv 2)) (pa_cons pe_int pa_nil))) (pa_cons (pe_tup (pa_cons (pe_lst pa_nil) (pa_cons pe_int pa_nil))) (pa_cons (pe_tup (pa_cons (pe_slice sl_list (pv 2) po_none (po_some pe_int)) (pa_cons pe_int pa_nil))) pa_nil)))))))
      (pss_cons (ps_set (i := 3) scDeedRows.nd rfl (Or.inl rfl) (pe_op op_cat (pv 3) (pe_lst (pa_cons (pe_tup (pa_cons (pe_op op_cat (pe_slice sl_list (pv 2) po_none (po_some pe_int)) (pe_op op_rep (pe_lst (pa_cons pe_str pa_nil)) pe_int)) (pa_cons pe_int pa_nil))) (pa_cons (pe_tup (pa_cons (pe_op op_cat (pe_slice sl_list (pv 2) po_none (po_some pe_int)) (pe_op op_rep (pe_lst (pa_cons pe_str pa_nil)) pe_int)) (pa_cons pe_int pa_nil))) pa_nil)))))
      (pss_cons (ps_set (i := 5) scDeedRows.nd rfl (Or.inl rfl) (pe_lst (pa_cons pe_str (pa_cons pe_str (pa_cons pe_str (pa_cons pe_str pa_nil))))))
      (pss_cons (ps_set (i := 3) scDeedRows.nd rfl (Or.inl rfl) (pe_op op_cat (pv 3) (pe_lst (pa_cons (pe_tup (pa_cons (pv 5) (pa_cons pe_int pa_nil))) (pa_cons (pe_tup (pa_cons (pe_op op_cat (pe_slice sl_list (pv 5) po_none (po_some pe_int)) (pe_lst (pa_cons pe_str (pa_cons pe_str pa_nil)))) (pa_cons pe_int pa_nil))) pa_nil)))))
      (pss_cons (ps_for PassesOwn.never rfl (pi_list (pe_lst (pa_cons (pe_tup (pa_cons pe_str (pa_cons pe_int pa_nil))) (pa_cons (pe_tup (pa_cons pe_str (pa_cons pe_int pa_nil))) (pa_cons (pe_tup (pa_cons pe_str (pa_cons pe_int pa_nil))) (pa_cons (pe_tup (pa_cons pe_str (pa_cons pe_int pa_nil))) (pa_cons (pe_tup (pa_cons pe_str (pa_cons pe_int pa_nil))) (pa_cons (pe_tup (pa_cons pe_str (pa_cons pe_int pa_nil))) pa_nil)))))))) (pg_tup (by rfl) (pgs_cons (pg_name (i := 6) scDeedRows.nd rfl (Or.inl rfl)) (pgs_cons (pg_name (i := 7) scDeedRows.nd rfl (Or.inl rfl)) pgs_nil))) (pss_one (ps_expr (pe_bm PySem.F.plainAttrs_list PySem.F.slot_list_append PySem.F.type_list_append mt_append (pv 3) (pa_cons (pe_tup (pa_cons (pe_lst (pa_cons (pe_op op_add_str pe_str (pv 6)) (pa_cons pe_str pa_nil))) (pa_cons (pv 7) pa_nil))) pa_nil)))))
      (pss_cons (ps_set (i := 8) scDeedRows.nd rfl (Or.inl rfl) (pe_op op_add_str (pe_op op_add_str pe_str (pv 1)) pe_str))
      (pss_cons (ps_set (i := 9) scDeedRows.nd rfl (Or.inl rfl) (pe_lst (pa_cons (pe_tup (pa_cons (pe_op op_add_str (pe_op op_add_str pe_str (pv 1)) pe_str) (pa_cons pe_int pa_nil))) (pa_cons (pe_tup (pa_cons (pe_op op_add_str (pe_op op_add_str pe_str (pv 1)) pe_str) (pa_cons pe_int pa_nil))) (pa_cons (pe_tup (pa_cons (pe_op op_add_str (pe_op op_add_str (pe_op op_add_str pe_str (pv 0)) pe_str) (pv 8)) (pa_cons pe_int pa_nil))) pa_nil)))))
      (pss_cons (ps_set (i := 9) scDeedRows.nd rfl (Or.inl rfl) (pe_op op_cat (pv 9) (pe_lst (pa_cons (pe_tup (pa_cons (pe_op op_add_str (pe_op op_add_str (pe_op op_add_str (pe_op op_add_str pe_str (pv 0)) pe_str) (pv 8)) (pv 8)) (pa_cons pe_int pa_nil))) (pa_cons (pe_tup (pa_cons (pe_op op_add_str (pe_op op_add_str pe_str (pv 1)) pe_str) (pa_cons pe_int pa_nil))) (pa_cons (pe_tup (pa_cons (pe_op op_add_str pe_str (pv 0)) (pa_cons pe_int pa_nil))) pa_nil))))))
      (pss_cons (ps_set (i := 3) scDeedRows.nd rfl (Or.inl rfl) (pe_op op_cat (pv 3) (pe_lc (own := [("_law_line", 12), ("_law_due", 7)]) (g := gTup K 2 (gCons (gName 12) (gCons (gName 7) gNil))) (tt := tYes) rfl scDeedRows.nd (pi_list (pv 9)) (blkOk_by (own := [("_law_line", 12), ("_law_due", 7)]) (N := ["_law_ask", "_law_cell", "_law_one", "_law_found", "_law_deeds", "_law_nest", "_law_tail", "_law_due", "_law_hope", "_law_lined", "_law_over", "_law_tell", "_law_line"]) (sc := defScope sDeedRows) (by decide +kernel)) (fun _ _ _ _ _ => pg_tup (by rfl) (pgs_cons (pg_name (i := 12) scDeedRows.nd rfl (Or.inl rfl)) (pgs_cons (pg_name (i := 7) scDeedRows.nd rfl (Or.inl rfl)) pgs_nil))) (fun _ _ _ _ _ => pts_nil) (fun _ _ _ _ _ => (pe_tup (pa_cons (pe_lst (pa_cons pe_str (pa_cons (pe_op op_add_str pe_str (pv 12)) pa_nil))) (pa_cons (pv 7) pa_nil)))))))
      (pss_cons (ps_set (i := 10) scDeedRows.nd rfl (Or.inl rfl) (pe_lst (pa_cons pe_str (pa_cons (pe_op op_add_str (pe_op op_add_str pe_str (pv 1)) pe_str) pa_nil))))
      (pss_cons (ps_set (i := 3) scDeedRows.nd rfl (Or.inl rfl) (pe_op op_cat (pv 3) (pe_lst (pa_cons (pe_tup (pa_cons (pe_op op_cat (pv 2) (pv 10)) (pa_cons pe_int pa_nil))) (pa_cons (pe_tup (pa_cons (pe_op op_cat (pe_op op_cat (pv 2) (pv 10)) (pv 10)) (pa_cons pe_int pa_nil))) (pa_cons (pe_tup (pa_cons (pe_op op_cat (pe_op op_cat (pv 2) (pe_slice sl_list (pv 10) po_none (po_some pe_int))) (pe_lst (pa_cons (pe_op op_add_str (pe_op op_add_str pe_str (pv 1)) pe_str) pa_nil))) (pa_cons pe_int pa_nil))) pa_nil))))))
      (pss_cons (ps_set (i := 11) scDeedRows.nd rfl (Or.inl rfl) (pe_lst (pa_cons (pe_op op_add_str pe_str (pv 0)) (pa_cons (pe_op op_add_str (pe_op op_add_str pe_str (pv 1)) pe_str) pa_nil))))
      (pss_one (ps_ret (pe_op op_cat (pv 3) (pe_lst (pa_cons (pe_tup (pa_cons (pe_op op_cat (pe_op op_cat (pv 2) (pv 11)) (pv 10)) (pa_cons pe_int pa_nil))) (pa_cons (pe_tup (pa_cons (pe_op op_cat (pe_op op_cat (pv 2) (pv 10)) (pv 11)) (pa_cons pe_int pa_nil))) (pa_cons (pe_tup (pa_cons (pe_op op_cat (pe_op op_cat (pv 2) (pv 11)) (pv 11)) (pa_cons pe_int pa_nil))) pa_nil)))))))))))))))))))), ?_⟩
    refine par_go (da_cons (d_lst (da_cons d_s (da_cons d_s da_nil)) (Nat.le_of_ble_eq_true rfl)) (da_cons (d_lst da_nil (Nat.le_of_ble_eq_true rfl)) da_nil)) fun v1 w1 H1 k1 r1 q1 => ?_
    refine at_σ (σ2 := [some (.str ask), some (.str cell), some v1, some w1, none, none, none, none, none, none, none, none, none]) rfl ?_
    refine seq_go (d_cat (d_v rfl r1) (d_lst (da_cons d_s (da_cons d_s (da_cons (d_catsB (show ("  deed " : Str).length ≤ 7 from by decide +kernel) h_cell d_s (d_v rfl rfl)) (da_cons d_s (da_cons d_s (da_cons d_s da_nil)))))) (Nat.le_of_ble_eq_true rfl)) (Nat.le_of_ble_eq_true rfl)) fun v2 H2 k2 r2 => ?_
    refine at_σ (σ2 := [some (.str ask), some (.str cell), some v1, some w1, some v2, none, none, none, none, none, none, none, none]) rfl ?_
    have r1 := rep_on k2 r1
    have q1 := rep_on k2 q1
    refine seq_go (d := .l ((drA ask cell).map rowD)) (d_is (d_lst (da_cons (d_tup (da_cons (d_to (d_v rfl r2) d_i) (da_cons d_i da_nil)) (Nat.le_of_ble_eq_true rfl)) (da_cons (d_tup (da_cons (d_v rfl r2) (da_cons d_i da_nil)) (Nat.le_of_ble_eq_true rfl)) (da_cons (d_tup (da_cons (d_cat (d_v rfl r1) (d_v rfl r1) (Nat.le_of_ble_eq_true rfl)) (da_cons d_i da_nil)) (Nat.le_of_ble_eq_true rfl)) (da_cons (d_tup (da_cons (d_lst da_nil (Nat.le_of_ble_eq_true rfl)) (da_cons d_i da_nil)) (Nat.le_of_ble_eq_true rfl)) (da_cons (d_tup (da_cons (d_to (d_v rfl r1) d_i) (da_cons d_i da_nil)) (Nat.le_of_ble_eq_true rfl)) da_nil))))) (Nat.le_of_ble_eq_true rfl)) rfl) fun v3 H3 k3 r3 => ?_
    refine at_σ (σ2 := [some (.str ask), some (.str cell), some v1, some v3, some v2, none, none, none, none, none, none, none, none]) rfl ?_
    have r1 := rep_on k3 r1
    have q1 := rep_on k3 q1
    have r2 := rep_on k3 r2
    refine seq_go (d := .l ((drA ask cell ++ drB ask cell).map rowD)) (d_is (d_cat (d_v rfl r3) (d_lst (da_cons (d_tup (da_cons (d_cat (d_to (d_v rfl r1) d_i) (d_rep (d_lst (da_cons d_s da_nil) (Nat.le_of_ble_eq_true rfl)) d_i (Nat.le_of_ble_eq_true rfl) (Nat.le_of_ble_eq_true rfl)) (Nat.le_of_ble_eq_true rfl)) (da_cons d_i da_nil)) (Nat.le_of_ble_eq_true rfl)) (da_cons (d_tup (da_cons (d_cat (d_to (d_v rfl r1) d_i) (d_rep (d_lst (da_cons d_s da_nil) (Nat.le_of_ble_eq_true rfl)) d_i (Nat.le_of_ble_eq_true rfl) (Nat.le_of_ble_eq_true rfl)) (Nat.le_of_ble_eq_true rfl)) (da_cons d_i da_nil)) (Nat.le_of_ble_eq_true rfl)) da_nil)) (Nat.le_of_ble_eq_true rfl)) (Nat.le_of_ble_eq_true rfl)) (congrArg D.l (rowD_app rfl rfl))) fun v4 H4 k4 r4 => ?_
    refine at_σ (σ2 := [some (.str ask), some (.str cell), some v1, some v4, some v2, none, none, none, none, none, none, none, none]) rfl ?_
    have r1 := rep_on k4 r1
    have r3 := rep_on k4 r3
    have r2 := rep_on k4 r2
    refine seq_go (d_lst (da_cons d_s (da_cons d_s (da_cons d_s (da_cons d_s da_nil)))) (Nat.le_of_ble_eq_true rfl)) fun v5 H5 k5 r5 => ?_
    refine at_σ (σ2 := [some (.str ask), some (.str cell), some v1, some v4, some v2, some v5, none, none, none, none, none, none, none]) rfl ?_
    have r1 := rep_on k5 r1
    have r4 := rep_on k5 r4
    have r2 := rep_on k5 r2
    have kall := (Same.trans k1 (Same.trans k2 (Same.trans k3 (Same.trans k4 k5))))
    refine seq_cat (d_v rfl r4) (d_lst (da_cons (d_tup (da_cons (d_v rfl r5) (da_cons d_i da_nil)) (Nat.le_of_ble_eq_true rfl)) (da_cons (d_tup (da_cons (d_cat (d_to (d_v rfl r5) d_i) (d_lst (da_cons d_s (da_cons d_s da_nil)) (Nat.le_of_ble_eq_true rfl)) (Nat.le_of_ble_eq_true rfl)) (da_cons d_i da_nil)) (Nat.le_of_ble_eq_true rfl)) da_nil)) (Nat.le_of_ble_eq_true rfl)) (Nat.le_of_ble_eq_true rfl) fun p xs H6 pn k6 hpp rp => ?_
    refine at_σ (σ2 := [some (.str ask), some (.str cell), some v1, some (.ref p), some v2, some v5, none, none, none, none, none, none, none]) rfl ?_
    have p_fresh := kall.free pn
    have hHn := kall.trans k6
    have r1 := rep_off pn k6 r1
    have r4 := rep_off pn k6 r4
    have r2 := rep_off pn k6 r2
    have r5 := rep_off pn k6 r5
    have rp : Reps (fun a => a ≠ p) ((drA ask cell ++ drB ask cell ++ drC ask cell).map rowD) xs H6 := (rowD_app (a := drA ask cell ++ drB ask cell) (b := drC ask cell) rfl rfl) ▸ rp
    generalize hfd : ((drA ask cell ++ drB ask cell ++ drC ask cell).map rowD : List D) = foundDs at rp
    have hfl : foundDs.length ≤ 1000 := by rw [← hfd, List.length_map]; exact Nat.le_of_ble_eq_true rfl
    refine seq_for (B := fun a => a ≠ p) (ds := tails.map tailI) (d_is (d_lst (da_cons (d_tup (da_cons d_s (da_cons d_i da_nil)) (Nat.le_of_ble_eq_true rfl)) (da_cons (d_tup (da_cons d_s (da_cons d_i da_nil)) (Nat.le_of_ble_eq_true rfl)) (da_cons (d_tup (da_cons d_s (da_cons d_i da_nil)) (Nat.le_of_ble_eq_true rfl)) (da_cons (d_tup (da_cons d_s (da_cons d_i da_nil)) (Nat.le_of_ble_eq_true rfl)) (da_cons (d_tup (da_cons d_s (da_cons d_i da_nil)) (Nat.le_of_ble_eq_true rfl)) (da_cons (d_tup (da_cons d_s (da_cons d_i da_nil)) (Nat.le_of_ble_eq_true rfl)) da_nil)))))) (Nat.le_of_ble_eq_true rfl)) rfl) fun aL xsL HL kL haL0 eL rrL0 => ?_
    have hpL := kL _ _ hpp
    have key : ∀ a, S2 (fun a => a ≠ p) H6 a → a ≠ p := fun a h z => by
      rcases h with h | h
      · exact h z
      · rw [z, hpp] at h
        cases h
    have haL := key aL haL0
    have rrL : Reps (fun a => a ≠ p) (tails.map tailI) xsL HL := reps_mono (fun a o hs e => ⟨key a hs, e⟩) _ _ rrL0
    refine ⟨TInv p 6 7 _ HL foundDs (tails.map tailO), ⟨fun _ _ => rfl, .inl rfl, fun b o _ e => e, _, hpL, by rw [List.take_zero, List.append_nil]; exact reps_on kL rp⟩, fun i σ1 H1 _ h => SqL.of (h.2.2.1 _ _ haL eL), ?_, ?_⟩
    · rintro i x σ1 H1 hx ⟨hσ, _, hfr, ys, hys, ry⟩
      obtain ⟨d, hd, rd⟩ := reps_at rrL hx
      obtain ⟨tq, hq, rfl⟩ : ∃ t, tails[i]? = some t ∧ d = tailI t := by
        rw [List.getElem?_map] at hd
        cases e : tails[i]? with
        | none => rw [e] at hd; cases hd
        | some t => rw [e] at hd; exact ⟨t, rfl, (Option.some.inj hd).symm⟩
      have hlq : tq.1.length ≤ 20 := (show ∀ t ∈ tails, t.1.length ≤ 20 from by decide +kernel) tq (List.mem_of_getElem? hq)
      obtain ⟨a, xs, rfl, ha, e1, y, ys2, rfl, r1, z, zs, rfl, r2, rfl⟩ := rd
      have e1 := hfr _ _ ha e1
      refine ⟨a, _, rfl, SqT.of e1, rfl, y, _, rfl, z, _, rfl, rfl, ?_⟩
      have eσ := hσ (some y) (some z)
      rw [eσ]
      refine ⟨_, rfl, .inl ⟨rfl, _, SqL.of hys⟩, ?_⟩
      refine EvDA.use (B := fun a => a ≠ p) (ds := [tailO tq]) (da_cons (d_tup (da_cons (d_lst (da_cons (d_catsB (show ("  deed d" : Str).length ≤ 8 from by decide +kernel) hlq d_s (d_v rfl r1)) (da_cons d_s da_nil)) (Nat.le_of_ble_eq_true rfl)) (da_cons (d_v rfl r2) da_nil)) (Nat.le_of_ble_eq_true rfl)) da_nil) fun vs H2 k2 rs => ?_
      obtain ⟨y9, _, rfl, r9, rfl⟩ := rs
      have hys2 := k2 _ _ hys
      refine ⟨p, _, _, rfl, rfl, hys2, ?_, ?_⟩
      · rw [reps_len ry, sizeLine_eq, List.length_append, List.length_take, List.length_map]
        have := hfl
        have : tails.length ≤ 1000 := by decide +kernel
        omega
      · refine ⟨fun _ _ => ?_, .inr ⟨_, _, rfl⟩, fun b o hb e => ?_, _, upd_same, ?_⟩
        · rfl
        · rw [upd_ne hb]
          exact k2 b o (hfr b o hb e)
        · rw [List.take_add_one, List.getElem?_map, hq, ← List.append_assoc]
          refine reps_app (reps_mono (fun a o hs e => ⟨hs, by rw [upd_ne hs]; exact k2 a o e⟩) _ _ ry) ⟨y9, [], rfl, rep_mono (fun a o hs e => ?_) _ _ r9, rfl⟩
          have hne : a ≠ p := fun z => by
            rcases hs with h | h
            · exact h z
            · rw [z, hys] at h
              cases h
          exact ⟨hne, by rw [upd_ne hne]; exact e⟩
    rintro σ1 H7 ⟨_, hσ, hfr, ys, hys, ry⟩
    obtain ⟨yT, zT, rfl⟩ : ∃ y z, σ1 = _ := hσ.resolve_left (by rw [reps_len rrL]; decide)
    refine at_σ (σ2 := [some (.str ask), some (.str cell), some v1, some (.ref p), some v2, some v5, some yT, some zT, none, none, none, none, none]) rfl ?_
    rw [reps_len rrL, List.length_map, ← List.length_map (f := tailO), List.take_length] at ry
    have r1 : Rep Any _ v1 H7 := rep_mono (fun a o hs e => ⟨trivial, hfr a o hs e⟩) _ _ (rep_on kL r1)
    have r2 : Rep Any _ v2 H7 := rep_mono (fun a o hs e => ⟨trivial, hfr a o hs e⟩) _ _ (rep_on kL r2)
    have r5 : Rep Any _ v5 H7 := rep_mono (fun a o hs e => ⟨trivial, hfr a o hs e⟩) _ _ (rep_on kL r5)
    have r7 : Rep Any (.l (foundDs ++ tails.map tailO)) (.ref p) H7 := ⟨p, ys, rfl, trivial, hys, reps_any ry⟩
    have k7 : Same H H7 := fun b o e => hfr b o (fun z => by rw [z, p_fresh] at e; cases e) (kL b o (hHn b o e))
    subst hfd
    have r7 : Rep Any (.l ((drA ask cell ++ drB ask cell ++ drC ask cell ++ drT ask cell).map rowD)) (.ref p) H7 := (congrArg D.l (rowD_app (a := drA ask cell ++ drB ask cell ++ drC ask cell) (b := drT ask cell) rfl rfl)) ▸ r7
    refine seq_go (d_catsB (len_le (show (" guess " : Str).length ≤ 7 from by decide +kernel) h_cell) (show (" = 0" : Str).length ≤ 4 from by decide +kernel) (d_catsB (show (" guess " : Str).length ≤ 7 from by decide +kernel) h_cell d_s (d_v rfl rfl)) d_s) fun v8 H8 k8 r8 => ?_
    refine at_σ (σ2 := [some (.str ask), some (.str cell), some v1, some (.ref p), some v2, some v5, some yT, some zT, some v8, none, none, none, none]) rfl ?_
    have r1 := rep_on k8 r1
    have r7 := rep_on k8 r7
    have r2 := rep_on k8 r2
    have r5 := rep_on k8 r5
    refine seq_go (d_lst (da_cons (d_tup (da_cons (d_catsB (len_le (show ("add " : Str).length ≤ 4 from by decide +kernel) h_cell) (show (" 2" : Str).length ≤ 2 from by decide +kernel) (d_catsB (show ("add " : Str).length ≤ 4 from by decide +kernel) h_cell d_s (d_v rfl rfl)) d_s) (da_cons d_i da_nil)) (Nat.le_of_ble_eq_true rfl)) (da_cons (d_tup (da_cons (d_catsB (len_le (show ("add " : Str).length ≤ 4 from by decide +kernel) h_cell) (show (" 1" : Str).length ≤ 2 from by decide +kernel) (d_catsB (show ("add " : Str).length ≤ 4 from by decide +kernel) h_cell d_s (d_v rfl rfl)) d_s) (da_cons d_i da_nil)) (Nat.le_of_ble_eq_true rfl)) (da_cons (d_tup (da_cons (d_catsB (len_le (len_le (show ("ask " : Str).length ≤ 4 from by decide +kernel) h_ask) (show (" it" : Str).length ≤ 3 from by decide +kernel)) (len_le (len_le (show (" guess " : Str).length ≤ 7 from by decide +kernel) h_cell) (show (" = 0" : Str).length ≤ 4 from by decide +kernel)) (d_catsB (len_le (show ("ask " : Str).length ≤ 4 from by decide +kernel) h_ask) (show (" it" : Str).length ≤ 3 from by decide +kernel) (d_catsB (show ("ask " : Str).length ≤ 4 from by decide +kernel) h_ask d_s (d_v rfl rfl)) d_s) (d_v rfl r8)) (da_cons d_i da_nil)) (Nat.le_of_ble_eq_true rfl)) da_nil))) (Nat.le_of_ble_eq_true rfl)) fun v9 H9 k9 r9 => ?_
    refine at_σ (σ2 := [some (.str ask), some (.str cell), some v1, some (.ref p), some v2, some v5, some yT, some zT, some v8, some v9, none, none, none]) rfl ?_
    have r1 := rep_on k9 r1
    have r7 := rep_on k9 r7
    have r2 := rep_on k9 r2
    have r5 := rep_on k9 r5
    have r8 := rep_on k9 r8
    refine seq_go (d_cat (d_v rfl r9) (d_lst (da_cons (d_tup (da_cons (d_catsB (len_le (len_le (len_le (show ("ask " : Str).length ≤ 4 from by decide +kernel) h_ask) (show (" it" : Str).length ≤ 3 from by decide +kernel)) (len_le (len_le (show (" guess " : Str).length ≤ 7 from by decide +kernel) h_cell) (show (" = 0" : Str).length ≤ 4 from by decide +kernel))) (len_le (len_le (show (" guess " : Str).length ≤ 7 from by decide +kernel) h_cell) (show (" = 0" : Str).length ≤ 4 from by decide +kernel)) (d_catsB (len_le (len_le (show ("ask " : Str).length ≤ 4 from by decide +kernel) h_ask) (show (" it" : Str).length ≤ 3 from by decide +kernel)) (len_le (len_le (show (" guess " : Str).length ≤ 7 from by decide +kernel) h_cell) (show (" = 0" : Str).length ≤ 4 from by decide +kernel)) (d_catsB (len_le (show ("ask " : Str).length ≤ 4 from by decide +kernel) h_ask) (show (" it" : Str).length ≤ 3 from by decide +kernel) (d_catsB (show ("ask " : Str).length ≤ 4 from by decide +kernel) h_ask d_s (d_v rfl rfl)) d_s) (d_v rfl r8)) (d_v rfl r8)) (da_cons d_i da_nil)) (Nat.le_of_ble_eq_true rfl)) (da_cons (d_tup (da_cons (d_catsB (len_le (show ("set " : Str).length ≤ 4 from by decide +kernel) h_cell) (show (" asked" : Str).length ≤ 6 from by decide +kernel) (d_catsB (show ("set " : Str).length ≤ 4 from by decide +kernel) h_cell d_s (d_v rfl rfl)) d_s) (da_cons d_i da_nil)) (Nat.le_of_ble_eq_true rfl)) (da_cons (d_tup (da_cons (d_catsB (show ("ask " : Str).length ≤ 4 from by decide +kernel) h_ask d_s (d_v rfl rfl)) (da_cons d_i da_nil)) (Nat.le_of_ble_eq_true rfl)) da_nil))) (Nat.le_of_ble_eq_true rfl)) (Nat.le_of_ble_eq_true rfl)) fun v10 H10 k10 r10 => ?_
    refine at_σ (σ2 := [some (.str ask), some (.str cell), some v1, some (.ref p), some v2, some v5, some yT, some zT, some v8, some v10, none, none, none]) rfl ?_
    have r1 := rep_on k10 r1
    have r7 := rep_on k10 r7
    have r2 := rep_on k10 r2
    have r5 := rep_on k10 r5
    have r8 := rep_on k10 r8
    have r9 := rep_on k10 r9
    refine seq_go (d := .l ((drA ask cell ++ drB ask cell ++ drC ask cell ++ drT ask cell ++ drD ask cell).map rowD)) (d_is (d_cat (d_v rfl r7) (d_lcP (ts := linedTs ask cell) (d_is (d_v rfl r10) (lined_eq ask cell)) (Nat.le_of_ble_eq_true rfl) (fun t ht => line_turn (by simp [L2.start]) (lined_len h_ask h_cell t ht))) (cat_le (n := 15) (m := 6) (lenT ask cell) rfl)) (congrArg D.l (rowD_app rfl rfl))) fun v11 H11 k11 r11 => ?_
    refine at_σ (σ2 := [some (.str ask), some (.str cell), some v1, some v11, some v2, some v5, some yT, some zT, some v8, some v10, none, none, none]) rfl ?_
    have r1 := rep_on k11 r1
    have r7 := rep_on k11 r7
    have r2 := rep_on k11 r2
    have r5 := rep_on k11 r5
    have r8 := rep_on k11 r8
    have r10 := rep_on k11 r10
    refine seq_go (d_lst (da_cons d_s (da_cons (d_catsB (len_le (show ("    set " : Str).length ≤ 8 from by decide +kernel) h_cell) (show (" 1" : Str).length ≤ 2 from by decide +kernel) (d_catsB (show ("    set " : Str).length ≤ 8 from by decide +kernel) h_cell d_s (d_v rfl rfl)) d_s) da_nil)) (Nat.le_of_ble_eq_true rfl)) fun v12 H12 k12 r12 => ?_
    refine at_σ (σ2 := [some (.str ask), some (.str cell), some v1, some v11, some v2, some v5, some yT, some zT, some v8, some v10, some v12, none, none]) rfl ?_
    have r1 := rep_on k12 r1
    have r11 := rep_on k12 r11
    have r2 := rep_on k12 r2
    have r5 := rep_on k12 r5
    have r8 := rep_on k12 r8
    have r10 := rep_on k12 r10
    refine seq_go (d := .l ((drA ask cell ++ drB ask cell ++ drC ask cell ++ drT ask cell ++ drD ask cell ++ drE ask cell).map rowD)) (d_is (d_cat (d_v rfl r11) (d_lst (da_cons (d_tup (da_cons (d_cat (d_v rfl r1) (d_v rfl r12) (Nat.le_of_ble_eq_true rfl)) (da_cons d_i da_nil)) (Nat.le_of_ble_eq_true rfl)) (da_cons (d_tup (da_cons (d_cat (d_cat (d_v rfl r1) (d_v rfl r12) (Nat.le_of_ble_eq_true rfl)) (d_v rfl r12) (Nat.le_of_ble_eq_true rfl)) (da_cons d_i da_nil)) (Nat.le_of_ble_eq_true rfl)) (da_cons (d_tup (da_cons (d_cat (d_cat (d_v rfl r1) (d_to (d_v rfl r12) d_i) (Nat.le_of_ble_eq_true rfl)) (d_lst (da_cons (d_catsB (len_le (show ("    set " : Str).length ≤ 8 from by decide +kernel) h_cell) (show (" it" : Str).length ≤ 3 from by decide +kernel) (d_catsB (show ("    set " : Str).length ≤ 8 from by decide +kernel) h_cell d_s (d_v rfl rfl)) d_s) da_nil) (Nat.le_of_ble_eq_true rfl)) (Nat.le_of_ble_eq_true rfl)) (da_cons d_i da_nil)) (Nat.le_of_ble_eq_true rfl)) da_nil))) (Nat.le_of_ble_eq_true rfl)) (cat_le (n := 21) (m := 3) (lenD ask cell) rfl)) (congrArg D.l (rowD_app rfl rfl))) fun v13 H13 k13 r13 => ?_
    refine at_σ (σ2 := [some (.str ask), some (.str cell), some v1, some v13, some v2, some v5, some yT, some zT, some v8, some v10, some v12, none, none]) rfl ?_
    have r1 := rep_on k13 r1
    have r11 := rep_on k13 r11
    have r2 := rep_on k13 r2
    have r5 := rep_on k13 r5
    have r8 := rep_on k13 r8
    have r10 := rep_on k13 r10
    have r12 := rep_on k13 r12
    refine seq_go (d_lst (da_cons (d_catsB (show ("  answer " : Str).length ≤ 9 from by decide +kernel) h_ask d_s (d_v rfl rfl)) (da_cons (d_catsB (len_le (show ("    set " : Str).length ≤ 8 from by decide +kernel) h_cell) (show (" asked" : Str).length ≤ 6 from by decide +kernel) (d_catsB (show ("    set " : Str).length ≤ 8 from by decide +kernel) h_cell d_s (d_v rfl rfl)) d_s) da_nil)) (Nat.le_of_ble_eq_true rfl)) fun v14 H14 k14 r14 => ?_
    refine at_σ (σ2 := [some (.str ask), some (.str cell), some v1, some v13, some v2, some v5, some yT, some zT, some v8, some v10, some v12, some v14, none]) rfl ?_
    have r1 := rep_on k14 r1
    have r13 := rep_on k14 r13
    have r2 := rep_on k14 r2
    have r5 := rep_on k14 r5
    have r8 := rep_on k14 r8
    have r10 := rep_on k14 r10
    have r12 := rep_on k14 r12
    refine ret_go (d := .l ((drA ask cell ++ drB ask cell ++ drC ask cell ++ drT ask cell ++ drD ask cell ++ drE ask cell ++ drF ask cell).map rowD)) (d_is (d_cat (d_v rfl r13) (d_lst (da_cons (d_tup (da_cons (d_cat (d_cat (d_v rfl r1) (d_v rfl r14) (Nat.le_of_ble_eq_true rfl)) (d_v rfl r12) (Nat.le_of_ble_eq_true rfl)) (da_cons d_i da_nil)) (Nat.le_of_ble_eq_true rfl)) (da_cons (d_tup (da_cons (d_cat (d_cat (d_v rfl r1) (d_v rfl r12) (Nat.le_of_ble_eq_true rfl)) (d_v rfl r14) (Nat.le_of_ble_eq_true rfl)) (da_cons d_i da_nil)) (Nat.le_of_ble_eq_true rfl)) (da_cons (d_tup (da_cons (d_cat (d_cat (d_v rfl r1) (d_v rfl r14) (Nat.le_of_ble_eq_true rfl)) (d_v rfl r14) (Nat.le_of_ble_eq_true rfl)) (da_cons d_i da_nil)) (Nat.le_of_ble_eq_true rfl)) da_nil))) (Nat.le_of_ble_eq_true rfl)) (cat_le (n := 24) (m := 3) (lenE ask cell) rfl)) (congrArg D.l (rowD_app rfl rfl))) fun v Hz kz rz => ?_

    exact k v Hz (Same.trans k7 (Same.trans k8 (Same.trans k9 (Same.trans k10 (Same.trans k11 (Same.trans k12 (Same.trans k13 (Same.trans k14 kz)))))))) ((congrArg (fun d => Rep Any d v Hz) (rows_eq ask cell)).mpr rz)

end
end K6

/-! text RT -/
set_option Elab.async false
set_option linter.all false
set_option maxRecDepth 100000
set_option maxHeartbeats 4000000
namespace K6
open PySem PySem.Spec PyProof.Rows L2
def hopeOk (ask : Str) : Prop := (Txt.split (hopeT ask) " ").length ≤ 100 ∧ (∀ n ≤ 20, (((Txt.split (hopeT ask) " ").take n).map (·.length)).sum ≤ 1000 ∧ (Txt.join " " ((Txt.split (hopeT ask) " ").take n)).length ≤ 1000) ∧
  (∀ t ∈ hopes, TxOk (Txt.join "\n" (hopeRows ask t.1)) ∧ capM (Txt.join "\n" (hopeRows ask t.1)) = valD t.2 ∧ ((hopeRows ask t.1).map (·.length)).sum ≤ 100000)
def sizes : List Str := ["1", "5", "0", "22", "it", ""]
def sizeRows (ask cell w z : Str) : List Str := ([(("worths " : Str) ++ z)] : List Str) ++ (["house", ("  ask " : Str) ++ ask] : List Str) ++ (["screen", ((("  cell " : Str) ++ cell) ++ (" " : Str)) ++ w, ("  show " : Str) ++ cell] : List Str) ++ (["  deed d", (("    set " : Str) ++ cell) ++ (" 1" : Str)] : List Str)
structure RtFacts : Prop where
  house : ∀ ask ∈ six, ∀ cell ∈ six, ∀ w ∈ (["0", "1"] : List Str), ∀ r ∈ houseRows ask, okAt (partsD ask cell w) 0 r = true
  screen : ∀ ask ∈ six, ∀ cell ∈ six, ∀ w ∈ (["0", "1"] : List Str), ∀ r ∈ screenRows cell, okAt (partsD ask cell w) 1 r = true
  deed : ∀ ask ∈ six, ∀ cell ∈ six, ∀ w ∈ (["0", "1"] : List Str), ∀ r ∈ deedRows ask cell, okAt (partsD ask cell w) 2 r = true
  size : ∀ ask ∈ six, ∀ cell ∈ six, ∀ w ∈ (["0", "1"] : List Str), ∀ z ∈ sizes, TxOk (Txt.join "\n" (sizeRows ask cell w z)) ∧ capM (Txt.join "\n" (sizeRows ask cell w z)) = .int 1 ∧ ((sizeRows ask cell w z).map (·.length)).sum ≤ 1000
  hopes : ∀ ask ∈ six, hopeOk ask
theorem sizes_len : ∀ x ∈ sizes, x.length ≤ 2 := by decide +kernel
theorem six_len : ∀ x ∈ six, x.length ≤ 20 := by decide +kernel
/-- a row with its part's number -/
def pairD (t : Nat × (List Str × Int)) : D := .t [.i t.1, rowD t.2]
def allR (ask cell : Str) : List (Nat × (List Str × Int)) := ((houseRows ask).map fun r => (0, r)) ++ ((screenRows cell).map fun r => (1, r)) ++ ((deedRows ask cell).map fun r => (2, r))
section
variable {σ : L2.St} {H : Hp} {ta tb te : TE}
theorem d_rows {sp : Sp} {t : TA} {E : XK} {ds : List D} {rows : List (List Str × Int)} {vs : List V} (h : EvDA Any t σ H ds) (hv : ∀ S H ws, Reps S ds ws H → ws = vs) (hs : ∀ H Q, (∀ v H', Same H H' → Rep Any (rowsD rows) v H' → Q v H') → sp (vs ++ []) H Q E) : EvD Any (tCall sp [] E t) σ H (.l (rows.map rowD)) := fun H1 k Q q =>
  h H1 k _ fun ws H2 k2 rs => by
    rw [hv _ _ _ rs]
    exact hs H2 Q fun v H3 k3 r => q v H3 (k2.trans k3) (rep_mono (fun a o _ e => ⟨.inl trivial, e⟩) _ _ r)
theorem d_num {K : PySem.W.Frag} {n : Nat} {vs : List Nat} {rows : List (List Str × Int)} {i : Nat} (h : EvD Any ta σ H (.l (rows.map rowD))) (hl : rows.length ≤ 1000) (hi : ∀ x, ((wipe σ vs).set i (some x))[i]? = some (some x)) (hw : ∀ x, wipe ((wipe σ vs).set i (some x)) vs = wipe σ vs) : EvD Any (tLc (iList K ta) (gName i) tYes (tTup (tCons (tC (.int n)) (tCons (tVar i) tNil))) vs) σ H (.l ((rows.map fun r => (n, r)).map pairD)) := by
  refine d_is (d_lcL (f := fun d => .t [.i n, d]) h (by rw [List.length_map]; omega) fun d hd => turn_name (fun x Hb kb rx => d_tup (da_cons d_i (da_cons (d_v (hi x) rx) da_nil)) (Nat.le_of_ble_eq_true rfl)) hw) ?_
  rw [List.map_map, List.map_map]
  rfl
theorem if_caughtC {t : TA} {tx : Str} {Dn : Ends} {A : TS} {E : XK} {d : V} (h : EvDA Any t σ H [.s tx]) (hok : TxOk tx) (hc : capM tx = d) (hs : scal d d = true) (q : ∀ H', Same H H' → Dn.nx σ H') : tIfS (tTest (tOp rNe (tCall spCaught [] E t) (tC d))) A tNext Dn σ H := h H (Same.refl H) _ fun vs H2 k2 r => by
  obtain ⟨v, _, rfl, rv, rfl⟩ := reps_any r
  obtain rfl : v = .str tx := rv
  refine ⟨tx, rfl, hok, fun H3 k3 => ⟨by rw [hc]; exact hs, _, rfl, ?_⟩⟩
  rw [hc, decide_eq_true rfl]
  exact iteF (q H3 (k2.trans k3))
theorem seq_forL {K : PySem.W.Frag} {ds : List D} {g : TG} {tb : TS} {Dn : Ends} {u : TS} (h : EvD Any ta σ H (.l ds)) (q : ∀ a xs HL, Same H HL → HL a = some (.lst xs) → Reps Any ds xs HL → ∃ Pv : Nat → L2.St → Hp → Prop, Pv 0 σ HL ∧ (∀ i σ1 H1, i ≤ xs.length → Pv i σ1 H1 → SqL K H1 a xs) ∧
    (∀ i x σ1 H1, xs[i]? = some x → Pv i σ1 H1 → g x σ1 H1 fun σ2 H2 => tb { ({ Dn with nx := u Dn } : Ends) with nx := Pv (i + 1), ct := Pv (i + 1), bk := u Dn } σ2 H2) ∧ ∀ σ1 H1, Pv xs.length σ1 H1 → u Dn σ1 H1) : tSeq (tFor (iList K ta) g tb) u Dn σ H := h H (Same.refl H) _ fun v HL k r => by
  obtain ⟨a, xs, rfl, ha, e, rr⟩ := r
  obtain ⟨Pv, h0, hl, hs, hd⟩ := q a xs HL k e (reps_any rr)
  exact ⟨a, rfl, ⟨xs, SqL.of e⟩, for_list (K := K) (a := a) (xs := xs) Pv h0 hl hs hd⟩
theorem EvD.goN {a : Addr} {d : D} {Q : VK} (ha : ∃ o, H a = some o) (h : EvD (fun b => b ≠ a) te σ H d) (q : ∀ v H2, Same H H2 → Rep (fun b => b ≠ a) d v H2 → Q v H2) : te σ H Q := by
  refine h H (Same.refl H) _ fun v H2 k r => q v H2 k (rep_mono (fun b o hs e => ⟨?_, e⟩) d v r)
  obtain ⟨o', ha⟩ := ha
  rcases hs with hs | hs
  · exact hs
  · exact fun z => by
      rw [z, ha] at hs
      cases hs
theorem seq_lst {t : TA} {i : Nat} {u : TS} {Dn : Ends} (h : t σ H fun xs H1 => xs.length ≤ sizeLine ∧ ∀ p, H1 p = none → u Dn (σ.set i (some (.ref p))) (upd H1 p (.lst xs))) : tSeq (tAsg (tLst t) (gName i)) u Dn σ H := h
theorem cons_goN {a : Addr} {d : D} {tr : TA} {Q : List V → Hp → Prop} (ha : ∃ o, H a = some o) (h : EvD (fun b => b ≠ a) ta σ H d) (q : ∀ v H2, Same H H2 → Rep (fun b => b ≠ a) d v H2 → tr σ H2 fun vs H3 => Q (v :: vs) H3) : tCons ta tr σ H Q := EvD.goN ha h q
theorem cons_lst {t tr : TA} {Q : List V → Hp → Prop} (h : t σ H fun xs H1 => xs.length ≤ sizeLine ∧ ∀ p, H1 p = none → tr σ (upd H1 p (.lst xs)) fun vs H2 => Q (.ref p :: vs) H2) : tCons (tLst t) tr σ H Q := h
theorem cons_op {r : R2} {tr : TA} {Q : List V → Hp → Prop} (h : ta σ H fun x H1 => tb σ H1 fun y H2 => r x y H2 fun v H3 => tr σ H3 fun vs H4 => Q (v :: vs) H4) : tCons (tOp r ta tb) tr σ H Q := h
theorem cons_c {v : V} {tr : TA} {Q : List V → Hp → Prop} (h : tr σ H fun vs H4 => Q (v :: vs) H4) : tCons (tC v) tr σ H Q := h
theorem EvDA.goN {a : Addr} {t : TA} {ds : List D} {Q : List V → Hp → Prop} (ha : ∃ o, H a = some o) (h : EvDA (fun b => b ≠ a) t σ H ds) (q : ∀ vs H2, Same H H2 → Reps (fun b => b ≠ a) ds vs H2 → Q vs H2) : t σ H Q := by
  refine h H (Same.refl H) _ fun v H2 k r => q v H2 k (reps_mono (fun b o hs e => ⟨?_, e⟩) ds v r)
  obtain ⟨o', ha⟩ := ha
  rcases hs with hs | hs
  · exact hs
  · exact fun z => by
      rw [z, ha] at hs
      cases hs
theorem rep_offN {S : SA} {p : Addr} {H H2 : Hp} {d : D} {v : V} (hp : H p = none) (k : Same H H2) (r : Rep S d v H) : Rep (fun a => a ≠ p) d v H2 := rep_mono (fun a o _ e => ⟨(fun z => by rw [z, hp] at e; cases e), k a o e⟩) d v r
theorem rep_updN {p : Addr} {o' : HO} {d : D} {v : V} (r : Rep (fun a => a ≠ p) d v H) : Rep Any d v (upd H p o') := rep_mono (fun a o hs e => ⟨trivial, by rw [upd_ne hs]; exact e⟩) d v r
theorem nil_go {Q : List V → Hp → Prop} (h : Q [] H) : tNil σ H Q := h
end
theorem pot_there {a : Addr} {p0 p1 p2 : Int} {H : Hp} (h : Pot a p0 p1 p2 H) : ∃ o, H a = some o := ⟨_, h.1⟩
theorem rep_fr {a : Addr} {H H' : Hp} {d : D} {v : V} (f : Fr a H H') (r : Rep (fun b => b ≠ a) d v H) : Rep (fun b => b ≠ a) d v H' := rep_mono (fun b o hs e => ⟨hs, f b o hs e⟩) d v r
theorem allR_ok (F : RtFacts) {ask cell w : Str} (h1 : ask ∈ six) (h2 : cell ∈ six) (h3 : w ∈ (["0", "1"] : List Str)) : ∀ t ∈ allR ask cell, okAt (partsD ask cell w) t.1 t.2 = true := by
  intro t ht
  unfold allR at ht
  rcases List.mem_append.mp ht with ht | ht
  · rcases List.mem_append.mp ht with ht | ht
    · obtain ⟨r, hr, rfl⟩ := List.mem_map.mp ht
      exact F.house _ h1 _ h2 _ h3 r hr
    · obtain ⟨r, hr, rfl⟩ := List.mem_map.mp ht
      exact F.screen _ h1 _ h2 _ h3 r hr
  · obtain ⟨r, hr, rfl⟩ := List.mem_map.mp ht
    exact F.deed _ h1 _ h2 _ h3 r hr
theorem houseRows_len (ask : Str) : (houseRows ask).length = 15 := rfl
theorem screenRows_len (cell : Str) : (screenRows cell).length = 12 := rfl
theorem deedRows_len (ask cell : Str) : (deedRows ask cell).length = 27 := rfl
structure RNm (mg : Str → Option Value) : Prop where
  range : mg "range" = none
  str : mg "str" = none
section
variable {P : Program} {w : World} {K : PySem.W.Frag} {mg : Str → Option Value} {base : Heap}
abbrev sRight : Stmt := top 56
theorem scRight : FnScope ["_law_pot_here", "_law_ask", "_law_cell", "_law_parts", "_law_rows", "_law_number", "_law_lined", "_law_due", "_law_size", "_law_turn", "_law_row"] ["_law_pot_here"] (defScope sRight) := ⟨rfl, rfl, rfl, by decide +kernel, rfl, by decide +kernel, by decide +kernel⟩
abbrev NR : List Str := ["_law_pot_here", "_law_ask", "_law_cell", "_law_parts", "_law_rows", "_law_number", "_law_lined", "_law_due", "_law_size", "_law_turn", "_law_row"]
theorem ok_right {f : Addr} {fd : FuncData} (F : Fun K "_law_right" "_law_right" sRight f fd) (N : RNm mg) (FF : RtFacts)
    (RO : FnAt P w K mg base CX0 2 "_law_of" ["_law_pot_here", "_law_some"] spOf) (RT : FnAt P w K mg base CX0 1 "_law_take" ["_law_pot_here", "_law_upto"] spTake)
    (RH : FnAt P w K mg base CX0 1 "_law_house_rows" ["_law_ask"] spHouseRows) (RS : FnAt P w K mg base CX0 1 "_law_screen_rows" ["_law_cell"] spScreenRows) (RD : FnAt P w K mg base CX0 1 "_law_deed_rows" ["_law_ask", "_law_cell"] spDeedRows)
    (RI : FnAt P w K mg base CX0 23 "_law_is_at" ["_law_parts", "_law_number", "_law_lined", "_law_due"] spIsAt) (RC : FnAt P w K mg base CX0 22 "_law_caught" ["_law_text"] spCaught) (RP : FnAt P w K mg base CX0 23 "_law_hopes_right" ["_law_ask"] spHopes) :
    FnOk P w K mg base CX0 25 f fd ["_law_pot_here"] spRight := by
  refine F.ok scRight (fun vs H Q E h => ?_) (fun cdv A outer s0 H vs Q E hr h => ?_)
  · obtain ⟨a, p0, p1, rfl, _⟩ := h
    rfl
  · obtain ⟨a, p0, p1, rfl, hp, q⟩ := h
    obtain ⟨f1, d1, m1, k1, b1, G1⟩ := RO
    obtain ⟨f2, d2, m2, k2, b2, G2⟩ := RT
    obtain ⟨f3, d3, m3, k3, b3, G3⟩ := RH
    obtain ⟨f4, d4, m4, k4, b4, G4⟩ := RS
    obtain ⟨f5, d5, m5, k5, b5, G5⟩ := RD
    obtain ⟨f6, d6, m6, k6, b6, G6⟩ := RI
    obtain ⟨f7, d7, m7, k7, b7, G7⟩ := RC
    obtain ⟨f8, d8, m8, k8, b8, G8⟩ := RP
    have hr1 : Room 1 _ := hr.mono (by omega)
    have hr2 : Room 2 _ := hr.mono (by omega)
    have hr22 : Room 22 _ := hr.mono (by omega)
    have hr23 : Room 23 _ := hr.mono (by omega)
    refine ⟨_, pss_cons (ps_asg (pe_lc (own := [("_law_turn", 9)]) (g := gName 9) (tt := tYes) rfl scRight.nd (pi_range1 rfl N.range (pa_cons pe_int pa_nil)) (blkOk_by (own := [("_law_turn", 9)]) (N := NR) (sc := defScope sRight) (by decide +kernel)) (fun _ _ _ _ _ => pg_name (i := 9) scRight.nd rfl (Or.inl rfl)) (fun _ _ _ _ _ => pts_nil)
          (fun _ _ _ _ _ => by exact (pe_call G1 hr2 rfl m1 k1 b1 .nil pass0 (pa_cons (pv 0) (pa_cons (pe_lst (pa_cons pe_str (pa_cons pe_str (pa_cons pe_str (pa_cons pe_str (pa_cons pe_str (pa_cons pe_str pa_nil))))))) pa_nil))))) (pg_lst (by rfl) (pgs_cons (pg_name (i := 1) scRight.nd rfl (Or.inl rfl)) (pgs_cons (pg_name (i := 2) scRight.nd rfl (Or.inl rfl)) pgs_nil))))
      (pss_cons (ps_set (i := 3) scRight.nd rfl (Or.inl rfl) (pe_lst (pa_cons (pe_lst (pa_cons pe_str (pa_cons (pe_op op_add_str pe_str (pv 1)) pa_nil))) (pa_cons (pe_lst (pa_cons pe_str (pa_cons (pe_op op_add_str (pe_op op_add_str (pe_op op_add_str pe_str (pv 2)) pe_str) (pe_callTy call_str_int (by rfl) N.str (by decide +kernel) (pa_cons (pe_call G2 hr1 rfl m2 k2 b2 .nil pass0 (pa_cons (pv 0) (pa_cons pe_int pa_nil))) pa_nil))) (pa_cons (pe_op op_add_str pe_str (pv 2)) pa_nil)))) pa_nil))))
      (pss_cons (ps_expr (pe_bm PySem.F.plainAttrs_list PySem.F.slot_list_append PySem.F.type_list_append mt_append (pv 3) (pa_cons (pe_lst (pa_cons pe_str (pa_cons (pe_op op_add_str (pe_op op_add_str pe_str (pv 2)) pe_str) pa_nil))) pa_nil)))
      (pss_cons (ps_set (i := 4) scRight.nd rfl (Or.inl rfl) (pe_op op_cat
          (pe_lc (own := [("_law_row", 10)]) (g := gName 10) (tt := tYes) rfl scRight.nd (pi_list (by exact pe_call G3 hr1 rfl m3 k3 b3 .nil pass0 (pa_cons (pv 1) pa_nil))) (blkOk_by (own := [("_law_row", 10)]) (N := NR) (sc := defScope sRight) (by decide +kernel)) (fun _ _ _ _ _ => pg_name (i := 10) scRight.nd rfl (Or.inl rfl)) (fun _ _ _ _ _ => pts_nil) (fun _ _ _ _ _ => pe_tup (pa_cons pe_int (pa_cons (pv 10) pa_nil))))
          (pe_lc (own := [("_law_row", 10)]) (g := gName 10) (tt := tYes) rfl scRight.nd (pi_list (by exact pe_call G4 hr1 rfl m4 k4 b4 .nil pass0 (pa_cons (pv 2) pa_nil))) (blkOk_by (own := [("_law_row", 10)]) (N := NR) (sc := defScope sRight) (by decide +kernel)) (fun _ _ _ _ _ => pg_name (i := 10) scRight.nd rfl (Or.inl rfl)) (fun _ _ _ _ _ => pts_nil) (fun _ _ _ _ _ => pe_tup (pa_cons pe_int (pa_cons (pv 10) pa_nil))))))
      (pss_cons (ps_for PassesOwn.never rfl (pi_list (pe_op op_cat (pv 4)
          (pe_lc (own := [("_law_row", 10)]) (g := gName 10) (tt := tYes) rfl scRight.nd (pi_list (by exact pe_call G5 hr1 rfl m5 k5 b5 .nil pass0 (pa_cons (pv 1) (pa_cons (pv 2) pa_nil)))) (blkOk_by (own := [("_law_row", 10)]) (N := NR) (sc := defScope sRight) (by decide +kernel)) (fun _ _ _ _ _ => pg_name (i := 10) scRight.nd rfl (Or.inl rfl)) (fun _ _ _ _ _ => pts_nil) (fun _ _ _ _ _ => pe_tup (pa_cons pe_int (pa_cons (pv 10) pa_nil))))))
          (pg_tup (by rfl) (pgs_cons (pg_name (i := 5) scRight.nd rfl (Or.inl rfl)) (pgs_cons (pg_tup (by rfl) (pgs_cons (pg_name (i := 6) scRight.nd rfl (Or.inl rfl)) (pgs_cons (pg_name (i := 7) scRight.nd rfl (Or.inl rfl)) pgs_nil))) pgs_nil)))
          (pss_one (ps_if (pt_not (pt_val (by exact pe_call G6 hr23 rfl m6 k6 b6 .nil pass0 (pa_cons (pv 3) (pa_cons (pv 5) (pa_cons (pv 6) (pa_cons (pv 7) pa_nil))))))) (pss_one (ps_ret pe_bl)) pss_nil)))
      (pss_cons (ps_for PassesOwn.never rfl (pi_tup (pe_tup (pa_cons pe_str (pa_cons pe_str (pa_cons pe_str (pa_cons pe_str (pa_cons pe_str (pa_cons pe_str pa_nil)))))))) (pg_name (i := 8) scRight.nd rfl (Or.inl rfl))
          (pss_one (ps_if (pt_cmpR op_ne (by exact pe_call G7 hr22 rfl m7 k7 b7 .nil pass0 (pa_cons (pe_join pe_str (pe_op op_cat (pe_op op_cat (pe_op op_cat (pe_lst (pa_cons (pe_op op_add_str pe_str (pv 8)) pa_nil)) (pe_ix ix_list (pv 3) pe_int (fun _ _ => rfl))) (pe_ix ix_list (pv 3) pe_int (fun _ _ => rfl))) (pe_ix ix_list (pv 3) pe_int (fun _ _ => rfl)))) pa_nil)) pe_int (nomark _)) (pss_one (ps_ret pe_bl)) pss_nil)))
      (pss_one (ps_ret (by exact pe_call G8 hr23 rfl m8 k8 b8 .nil pass0 (pa_cons (pv 1) pa_nil))))))))), ?_⟩
    have sixl : ∀ {H1 : Hp} {p : Addr}, upd H1 p (.lst [V.str "a", V.str "zz", V.str "house", V.str "set", V.str "over", V.str "worths"]) p = some (.lst (six.map V.str)) := fun {H1 p} => by
      rw [upd_same]
      rfl
    refine ⟨2, rfl, by decide, by decide, fun Dc hD => ?_⟩
    have hDa : Dc ≠ a := fun z => by
      rw [z, hp.1] at hD
      cases hD
    refine lc_range (fun i H' => ∃ q0 q2 acc, Fr a H H' ∧ Pot a q0 p1 q2 H' ∧ q2 ≤ i ∧ H' Dc = some (.lst (acc.map V.str)) ∧ acc.length = i ∧ ∀ x ∈ acc, x ∈ six)
      ⟨p0, 0, [], fun b o hb e => by rw [upd_ne (ne_of_none e hD)]; exact e, ⟨by rw [upd_ne hDa.symm]; exact hp.1, hp.2⟩, Int.le_refl _, upd_same, rfl, fun x hx => by cases hx⟩ ?_ ?_
    · rintro i H1 hi ⟨q0, q2, acc, f1', hpo, h2, hacc, hal, hmem⟩
      refine ⟨rfl, ?_⟩
      refine ⟨_, rfl, (by show 6 ≤ sizeLine; decide), fun p hp1 => ?_⟩
      have hpa : p ≠ a := fun z => by
        rw [z, hpo.1] at hp1
        cases hp1
      refine ⟨a, p, q0, p1, q2, six, rfl, ⟨by rw [upd_ne hpa.symm]; exact hpo.1, hpo.2⟩, by omega, sixl, hpa, by decide, by decide, fun x q0' q2' H2 hx hq hf hpo2 => ?_⟩
      have hacc2 : H2 Dc = some (.lst (acc.map V.str)) := hf Dc _ hDa (by rw [upd_ne (ne_of_none hacc hp1)]; exact hacc)
      refine ⟨_, hacc2, (by rw [List.length_map, hal, sizeLine_eq]; omega), q0', q2', acc ++ [x], fun b o hb e => ?_, ⟨by rw [upd_ne hDa.symm]; exact hpo2.1, hpo2.2⟩, by omega, ?_, by rw [List.length_append, hal]; rfl, fun y hy => ?_⟩
      · rw [upd_ne (ne_of_none e hD)]
        exact hf b o hb (by rw [upd_ne (ne_of_none (f1' b o hb e) hp1)]; exact f1' b o hb e)
      · rw [upd_same, List.map_append]
        rfl
      · rcases List.mem_append.mp hy with hy | hy
        · exact hmem y hy
        · rw [List.mem_singleton.mp hy]
          exact hx
    rintro H1 ⟨q0, q2, acc, fr1, hpo1, h2, hacc, hal, hmem⟩
    obtain ⟨ask, cell, rfl⟩ : ∃ x y, acc = [x, y] := by
      match acc, hal with
      | [x, y], _ => exact ⟨x, y, rfl⟩
    have m_ask := hmem ask List.mem_cons_self
    have m_cell := hmem cell (List.mem_cons_of_mem _ List.mem_cons_self)
    have h_ask := six_len ask m_ask
    have h_cell := six_len cell m_cell
    refine ⟨Dc, _, rfl, SqL.of hacc, rfl, _, _, rfl, _, _, rfl, rfl, ?_⟩
    -- the parts
    refine seq_lst (cons_goN (pot_there hpo1) (d := ll ["house", ("  ask " : Str) ++ ask]) (d_lst (da_cons d_s (da_cons (d_catsB (show ("  ask " : Str).length ≤ 6 from by decide +kernel) h_ask d_s (d_v rfl rfl)) da_nil)) (Nat.le_of_ble_eq_true rfl)) fun v1 H2 s2 r1 => ?_)
    have hpo2 : Pot a q0 p1 q2 H2 := ⟨s2 _ _ hpo1.1, hpo1.2⟩
    refine cons_lst (cons_c (cons_op (EvD.goN (pot_there hpo2) (d := .s ((("  cell " : Str) ++ cell) ++ (" " : Str))) (d_catsB (len_le (show ("  cell " : Str).length ≤ 7 from by decide +kernel) h_cell) (show (" " : Str).length ≤ 1 from by decide +kernel) (d_catsB (show ("  cell " : Str).length ≤ 7 from by decide +kernel) h_cell d_s (d_v rfl rfl)) d_s) fun v2 H3 s3 r2 => ?_)))
    obtain rfl : v2 = .str _ := r2
    have hpo3 : Pot a q0 p1 q2 H3 := ⟨s3 _ _ hpo2.1, hpo2.2⟩
    refine ⟨_, rfl, a, q0, p1, q2, 2, rfl, hpo3, by omega, by decide, by decide, fun d q0' q2' H4 hd0 hd2 _ f4' hpo4 => ?_⟩
    have hwm : (Str.ofString (toString d)) ∈ (["0", "1"] : List Str) := by
      rcases (show d = 0 ∨ d = 1 by omega) with rfl | rfl
      · exact (show (Str.ofString (toString (0 : Int))) ∈ (["0", "1"] : List Str) by decide +kernel)
      · exact (show (Str.ofString (toString (1 : Int))) ∈ (["0", "1"] : List Str) by decide +kernel)
    refine ⟨d, rfl, ?_, _, _, rfl, rfl, ?_, ?_⟩
    · rcases (show d = 0 ∨ d = 1 by omega) with rfl | rfl <;> decide +kernel
    · have z := len_le (len_le (show ("  cell " : Str).length ≤ 7 from by decide +kernel) h_cell) (show (" " : Str).length ≤ 1 from by decide +kernel)
      have z2 : ∀ x ∈ (["0", "1"] : List Str), x.length ≤ 1 := by decide +kernel
      have z3 := z2 _ hwm
      rw [sizeLine_eq]
      omega
    generalize Str.ofString (toString d) = wd at hwm
    refine cons_goN (pot_there hpo4) (d := .s (("  show " : Str) ++ cell)) (d_catsB (show ("  show " : Str).length ≤ 7 from by decide +kernel) h_cell d_s (d_v rfl rfl)) fun v3 H5 s5 r3 => nil_go ⟨(by show 3 ≤ sizeLine; decide), fun p2 hp2 => nil_go ⟨(by show 2 ≤ sizeLine; decide), fun p3 hp3 => ?_⟩⟩
    obtain rfl : v3 = .str _ := r3
    have r1 := rep_on s5 (rep_fr f4' (rep_on s3 r1))
    have fr5 : Fr a H H5 := fun b o hb e => s5 b o (f4' b o hb (s3 b o (s2 b o (fr1 b o hb e))))
    have s6 := Same.new (o := .lst [V.str "screen", V.str ((("  cell " : Str) ++ cell) ++ (" " : Str) ++ wd), V.str (("  show " : Str) ++ cell)]) hp2
    have h6 : (upd H5 p2 (.lst [V.str "screen", V.str ((("  cell " : Str) ++ cell) ++ (" " : Str) ++ wd), V.str (("  show " : Str) ++ cell)])) p2 = some (.lst ((["screen", ((("  cell " : Str) ++ cell) ++ (" " : Str)) ++ wd, ("  show " : Str) ++ cell] : List Str).map V.str)) := upd_same
    generalize upd H5 p2 (.lst [V.str "screen", V.str ((("  cell " : Str) ++ cell) ++ (" " : Str) ++ wd), V.str (("  show " : Str) ++ cell)]) = H6 at s6 h6 hp3
    have r1 := rep_on s6 r1
    have r2 : Rep Any (ll ["screen", ((("  cell " : Str) ++ cell) ++ (" " : Str)) ++ wd, ("  show " : Str) ++ cell]) (.ref p2) H6 := ⟨p2, _, rfl, trivial, h6, str_reps _⟩
    have r1 := rep_offN hp3 (Same.new (o := .lst [v1, V.ref p2]) hp3) r1
    have r2 := rep_offN hp3 (Same.new (o := .lst [v1, V.ref p2]) hp3) r2
    have fr6 : Fr a H H6 := fr5.same s6
    have h7 : (upd H6 p3 (.lst [v1, V.ref p2])) p3 = some (.lst [v1, V.ref p2]) := upd_same
    have s7 := Same.new (o := .lst [v1, V.ref p2]) hp3
    generalize upd H6 p3 (.lst [v1, V.ref p2]) = H7 at r1 r2 h7 s7
    refine ⟨_, rfl, .inl ⟨rfl, _, SqL.of h7⟩, ?_⟩
    refine EvDA.goN (a := p3) ⟨_, h7⟩ (ds := [ll ["  deed d", (("    set " : Str) ++ cell) ++ (" 1" : Str)]]) (da_cons (d_lst (da_cons d_s (da_cons (d_catsB (len_le (show ("    set " : Str).length ≤ 8 from by decide +kernel) h_cell) (show (" 1" : Str).length ≤ 2 from by decide +kernel) (d_catsB (show ("    set " : Str).length ≤ 8 from by decide +kernel) h_cell d_s (d_v rfl rfl)) d_s) da_nil)) (Nat.le_of_ble_eq_true rfl)) da_nil) fun vs H8 s8 rs => ?_
    obtain ⟨v4, _, rfl, r3, rfl⟩ := rs
    refine ⟨p3, _, _, rfl, rfl, s8 _ _ h7, (by show 2 < sizeLine; decide), ?_⟩
    have r1 := rep_updN (o' := .lst ([v1, V.ref p2] ++ [v4])) (rep_on s8 r1)
    have r2 := rep_updN (o' := .lst ([v1, V.ref p2] ++ [v4])) (rep_on s8 r2)
    have r3 := rep_updN (o' := .lst ([v1, V.ref p2] ++ [v4])) r3
    have rP : Rep Any (.l ((partsD ask cell wd).map ll)) (.ref p3) (upd H8 p3 (.lst ([v1, V.ref p2] ++ [v4]))) := ⟨p3, _, rfl, trivial, upd_same, _, _, rfl, r1, _, _, rfl, r2, _, _, rfl, r3, rfl⟩
    have fr9 : Fr a H (upd H8 p3 (.lst ([v1, V.ref p2] ++ [v4]))) := fun b o hb e => by
      have z := fr6 b o hb e
      rw [upd_ne (ne_of_none z hp3)]
      exact s8 b o (s7 b o z)
    generalize upd H8 p3 (.lst ([v1, V.ref p2] ++ [v4])) = H9 at rP fr9
    -- the rows
    have hv1 : ∀ (x : Str) (S : SA) (H : Hp) (ws : List V), Reps S [.s x] ws H → ws = [.str x] := fun x S H ws h => by
      obtain ⟨v, _, rfl, rv, rfl⟩ := h
      rw [show v = .str x from rv]
    have hv2 : ∀ (x y : Str) (S : SA) (H : Hp) (ws : List V), Reps S [.s x, .s y] ws H → ws = [.str x, .str y] := fun x y S H ws h => by
      obtain ⟨v, _, rfl, rv, w, _, rfl, rw', rfl⟩ := h
      rw [show v = .str x from rv, show w = .str y from rw']
    refine seq_go (d := .l ((((houseRows ask).map fun r => (0, r)) ++ ((screenRows cell).map fun r => (1, r))).map pairD)) (d_is (d_cat
        (d_num (n := 0) (d_rows (da_cons (d_v (d := .s ask) rfl rfl) da_nil) (hv1 ask) (fun H Q h => ⟨ask, rfl, h_ask, h⟩)) (by rw [houseRows_len]; decide) (fun _ => rfl) (fun _ => rfl))
        (d_num (n := 1) (d_rows (da_cons (d_v (d := .s cell) rfl rfl) da_nil) (hv1 cell) (fun H Q h => ⟨cell, rfl, h_cell, h⟩)) (by rw [screenRows_len]; decide) (fun _ => rfl) (fun _ => rfl)) ?_) (by rw [List.map_append])) fun v5 H10 s10 r5 => ?_
    · rw [List.length_map, List.length_map, List.length_map, List.length_map, houseRows_len, screenRows_len]
      decide
    have rP := rep_on s10 rP
    refine seq_forL (ds := (allR ask cell).map pairD) (d_is (d_cat (d_v rfl r5)
        (d_num (n := 2) (d_rows (da_cons (d_v (d := .s ask) rfl rfl) (da_cons (d_v (d := .s cell) rfl rfl) da_nil)) (hv2 ask cell) (fun H Q h => ⟨ask, cell, rfl, h_ask, h_cell, h⟩)) (by rw [deedRows_len]; decide) (fun _ => rfl) (fun _ => rfl)) ?_) (by unfold allR; rw [List.map_append (l₂ := (deedRows ask cell).map _)])) fun aL xsL HL kL eL rL => ?_
    · rw [List.length_map, List.length_append, List.length_map, List.length_map, List.length_map, List.length_map, houseRows_len, screenRows_len, deedRows_len]
      decide
    have rP := rep_on kL rP
    have frL : Fr a H HL := (fr9.same s10).same kL
    refine ⟨fun i σ1 H3 => (∃ x5 x6 x7, σ1 = [some (.ref a), some (.str ask), some (.str cell), some (.ref p3), some v5, x5, x6, x7, none, none, none]) ∧ Same HL H3, ⟨⟨_, _, _, rfl⟩, Same.refl HL⟩, fun i σ1 H3 _ h => SqL.of (h.2 _ _ eL), ?_, ?_⟩
    · rintro i x σ1 H3 hx ⟨⟨x5, x6, x7, rfl⟩, s11⟩
      obtain ⟨d, hd, rd⟩ := reps_at rL hx
      obtain ⟨t, hq, rfl⟩ : ∃ t, (allR ask cell)[i]? = some t ∧ d = pairD t := by
        rw [List.getElem?_map] at hd
        cases e : (allR ask cell)[i]? with
        | none => rw [e] at hd; cases hd
        | some t => rw [e] at hd; exact ⟨t, rfl, (Option.some.inj hd).symm⟩
      obtain ⟨ra, rb, rc, ok⟩ := okAt_is (allR_ok FF m_ask m_cell hwm t (List.mem_of_getElem? hq))
      have rd := rep_on s11 rd
      obtain ⟨aT, xs, rfl, _, e1, y, ys, rfl, ry, z, zs, rfl, ⟨aR, xr, rfl, _, e2, l1, ls, rfl, rl1, l2, ls2, rfl, rl2, rfl⟩, rfl⟩ := rd
      obtain rfl : y = .int t.1 := ry
      obtain rfl : l2 = .int t.2.2 := rl2
      refine ⟨aT, _, rfl, SqT.of e1, rfl, _, _, rfl, _, _, rfl, aR, _, rfl, SqT.of e2, rfl, _, _, rfl, _, _, rfl, rfl, rfl, ?_⟩
      refine ⟨_, rfl, _, rfl, _, rfl, _, rfl, .ref p3, l1, partsD ask cell wd, t.1, t.2.1, ra, rb, rc, t.2.2.toNat, ?_, rep_on s11 rP, rl1, ok.e, ok.tx, ok.l, ok.x, ?_, ok.cap, fun H' s' => ⟨true, rfl, ?_⟩⟩
      · rw [Int.toNat_of_nonneg ok.d0]
        rfl
      · have := ok.d
        omega
      · exact ⟨⟨_, _, _, rfl⟩, s11.trans s'⟩
    rintro σ1 H11 ⟨⟨x5, x6, x7, rfl⟩, s11⟩
    have rP := rep_on s11 rP
    have fr11 := frL.same s11
    refine seq_forT (ds := sizes.map D.s) (d_is (d_tup (da_cons d_s (da_cons d_s (da_cons d_s (da_cons d_s (da_cons d_s (da_cons d_s da_nil)))))) (Nat.le_of_ble_eq_true rfl)) rfl) fun aS xsS HS kS eS rS => ?_
    refine ⟨fun i σ1 H3 => (∃ x8, σ1 = [some (.ref a), some (.str ask), some (.str cell), some (.ref p3), some v5, x5, x6, x7, x8, none, none]) ∧ Same HS H3, ⟨⟨_, rfl⟩, Same.refl HS⟩, fun i σ1 H3 _ h => SqT.of (h.2 _ _ eS), ?_, ?_⟩
    · rintro i x σ1 H3 hx ⟨⟨x8, rfl⟩, s12⟩
      obtain ⟨d, hd, rd⟩ := reps_at rS hx
      obtain ⟨z, hz, rfl⟩ : ∃ z : Str, sizes[i]? = some z ∧ d = D.s z := by
        rw [List.getElem?_map] at hd
        cases e : sizes[i]? with
        | none => rw [e] at hd; cases hd
        | some z => rw [e] at hd; exact ⟨z, rfl, (Option.some.inj hd).symm⟩
      have hzm := List.mem_of_getElem? hz
      obtain rfl : x = .str z := rd
      obtain ⟨tx, cp, sm⟩ := FF.size ask m_ask cell m_cell wd hwm z hzm
      have rP := rep_on (kS.trans s12) rP
      refine if_caughtC (d := .int 1) (tx := Txt.join "\n" (sizeRows ask cell wd z)) (da_cons (d_join (K := K) d_s (d_is (d_cat (d_cat (d_cat (d_lst (da_cons (d_catsB (m := 7) (n := 2) (show ("worths " : Str).length ≤ 7 from by decide +kernel) (sizes_len z hzm) d_s (d_v (d := .s z) rfl rfl)) da_nil) (Nat.le_of_ble_eq_true rfl))
          (d_ix (n := 0) (d := ll ["house", ("  ask " : Str) ++ ask]) (d_v (i := 3) rfl rP) d_i rfl) (Nat.le_of_ble_eq_true rfl)) (d_ix (n := 1) (d := ll ["screen", ((("  cell " : Str) ++ cell) ++ (" " : Str)) ++ wd, ("  show " : Str) ++ cell]) (d_v (i := 3) rfl rP) d_i rfl) (Nat.le_of_ble_eq_true rfl)) (d_ix (n := 2) (d := ll ["  deed d", (("    set " : Str) ++ cell) ++ (" 1" : Str)]) (d_v (i := 3) rfl rP) d_i rfl) (Nat.le_of_ble_eq_true rfl)) rfl) ?_) da_nil) tx cp rfl fun H4 k4 => ⟨⟨_, rfl⟩, s12.trans k4⟩
      rw [show ("\n" : Str).length = 1 from by decide +kernel, show (sizeRows ask cell wd z).length = 8 from rfl]
      omega
    rintro σ1 H12 ⟨⟨x8, rfl⟩, s12⟩
    obtain ⟨g1, g2, g3⟩ := FF.hopes ask m_ask
    exact ⟨_, rfl, ask, rfl, h_ask, g1, g2, g3, fun H' s' => q _ ((fr11.same (kS.trans s12)).same s')⟩
end
end K6

/-! text FA -/
set_option Elab.async false
set_option linter.all false
set_option maxRecDepth 100000
set_option maxHeartbeats 4000000
namespace K6
open PySem PySem.Spec PyProof.Rows L2
theorem all3 {p : Str → Str → Str → Bool} (h : (six.all fun ask => six.all fun cell => (["0", "1"] : List Str).all fun w => p ask cell w) = true) : ∀ ask ∈ six, ∀ cell ∈ six, ∀ w ∈ (["0", "1"] : List Str), p ask cell w = true :=
  fun ask h1 cell h2 w h3 => List.all_eq_true.mp (List.all_eq_true.mp (List.all_eq_true.mp h ask h1) cell h2) w h3
theorem at_deed : ∀ ask ∈ six, ∀ cell ∈ six, ∀ w ∈ (["0", "1"] : List Str), ((deedRows ask cell).all fun r => okAt (partsD ask cell w) 2 r) = true := by
  intro ask h1 cell h2 w h3
  simp only [six, List.mem_cons, List.not_mem_nil, or_false] at h1 h2 h3
  rcases h1 with rfl | rfl | rfl | rfl | rfl | rfl
  · rcases h2 with rfl | rfl | rfl | rfl | rfl | rfl
    · rcases h3 with rfl | rfl
      · exact d0_0_0
      · exact d1_0_0
    · rcases h3 with rfl | rfl
      · exact d0_0_1
      · exact d1_0_1
    · rcases h3 with rfl | rfl
      · exact d0_0_2
      · exact d1_0_2
    · rcases h3 with rfl | rfl
      · exact d0_0_3
      · exact d1_0_3
    · rcases h3 with rfl | rfl
      · exact d0_0_4
      · exact d1_0_4
    · rcases h3 with rfl | rfl
      · exact d0_0_5
      · exact d1_0_5
  · rcases h2 with rfl | rfl | rfl | rfl | rfl | rfl
    · rcases h3 with rfl | rfl
      · exact d0_1_0
      · exact d1_1_0
    · rcases h3 with rfl | rfl
      · exact d0_1_1
      · exact d1_1_1
    · rcases h3 with rfl | rfl
      · exact d0_1_2
      · exact d1_1_2
    · rcases h3 with rfl | rfl
      · exact d0_1_3
      · exact d1_1_3
    · rcases h3 with rfl | rfl
      · exact d0_1_4
      · exact d1_1_4
    · rcases h3 with rfl | rfl
      · exact d0_1_5
      · exact d1_1_5
  · rcases h2 with rfl | rfl | rfl | rfl | rfl | rfl
    · rcases h3 with rfl | rfl
      · exact d0_2_0
      · exact d1_2_0
    · rcases h3 with rfl | rfl
      · exact d0_2_1
      · exact d1_2_1
    · rcases h3 with rfl | rfl
      · exact d0_2_2
      · exact d1_2_2
    · rcases h3 with rfl | rfl
      · exact d0_2_3
      · exact d1_2_3
    · rcases h3 with rfl | rfl
      · exact d0_2_4
      · exact d1_2_4
    · rcases h3 with rfl | rfl
      · exact d0_2_5
      · exact d1_2_5
  · rcases h2 with rfl | rfl | rfl | rfl | rfl | rfl
    · rcases h3 with rfl | rfl
      · exact d0_3_0
      · exact d1_3_0
    · rcases h3 with rfl | rfl
      · exact d0_3_1
      · exact d1_3_1
    · rcases h3 with rfl | rfl
      · exact d0_3_2
      · exact d1_3_2
    · rcases h3 with rfl | rfl
      · exact d0_3_3
      · exact d1_3_3
    · rcases h3 with rfl | rfl
      · exact d0_3_4
      · exact d1_3_4
    · rcases h3 with rfl | rfl
      · exact d0_3_5
      · exact d1_3_5
  · rcases h2 with rfl | rfl | rfl | rfl | rfl | rfl
    · rcases h3 with rfl | rfl
      · exact d0_4_0
      · exact d1_4_0
    · rcases h3 with rfl | rfl
      · exact d0_4_1
      · exact d1_4_1
    · rcases h3 with rfl | rfl
      · exact d0_4_2
      · exact d1_4_2
    · rcases h3 with rfl | rfl
      · exact d0_4_3
      · exact d1_4_3
    · rcases h3 with rfl | rfl
      · exact d0_4_4
      · exact d1_4_4
    · rcases h3 with rfl | rfl
      · exact d0_4_5
      · exact d1_4_5
  · rcases h2 with rfl | rfl | rfl | rfl | rfl | rfl
    · rcases h3 with rfl | rfl
      · exact d0_5_0
      · exact d1_5_0
    · rcases h3 with rfl | rfl
      · exact d0_5_1
      · exact d1_5_1
    · rcases h3 with rfl | rfl
      · exact d0_5_2
      · exact d1_5_2
    · rcases h3 with rfl | rfl
      · exact d0_5_3
      · exact d1_5_3
    · rcases h3 with rfl | rfl
      · exact d0_5_4
      · exact d1_5_4
    · rcases h3 with rfl | rfl
      · exact d0_5_5
      · exact d1_5_5
theorem at_size : (six.all fun ask => six.all fun cell => (["0", "1"] : List Str).all fun w => sizes.all fun z => ((sizeRows ask cell w z).all rowOk) && (resM (sizeRows ask cell w z) == 1) && decide (((sizeRows ask cell w z).map (·.length)).sum ≤ 1000)) = true := by decide +kernel
def hopeW (ask : Str) : List Str := ["ask", ask, "it", "guess", "aq", "=", "1", "guess", "bq", "+", "it", "guess", "cq", "=", "aq"]
theorem hope_join : ∀ ask ∈ six, hopeT ask = Str.join " " (hopeW ask) ∧ ((hopeW ask).all fun p => !p.cps.toList.contains 32) = true := by decide +kernel
theorem hope_split {ask : Str} (h : ask ∈ six) : Txt.split (hopeT ask) " " = hopeW ask := by
  obtain ⟨e, g⟩ := hope_join ask h
  rw [e, ← TL.join_eq]
  refine TL.split_join (s := 32) (S := []) (by decide +kernel) (by decide +kernel) (by unfold hopeW; simp) fun p hp => ?_
  have z := List.all_eq_true.mp g p hp
  simp only [Bool.not_eq_true', List.contains_eq_mem, decide_eq_false_iff_not] at z
  exact z
def hopeR (ask : Str) (n : Nat) : List Str := hopeHead ask ++ [("  deed d" : Str), ("    " : Str) ++ Str.join " " ((hopeW ask).take n)]
theorem hope_rows {ask : Str} (h : ask ∈ six) (n : Nat) : hopeRows ask n = hopeR ask n := by
  unfold hopeRows hopeR
  rw [hope_split h, TL.join_eq]
def dRes : D → Int
  | .i n => n
  | _ => -1
theorem at_hope : (six.all fun ask => hopes.all fun t => ((hopeR ask t.1).all rowOk) && (resM (hopeR ask t.1) == dRes t.2) && decide (((hopeR ask t.1).map (·.length)).sum ≤ 100000)) = true := by decide +kernel
theorem at_hopeL : (six.all fun ask => (List.range 21).all fun n => decide ((((hopeW ask).take n).map (·.length)).sum ≤ 1000) && decide ((Str.join " " ((hopeW ask).take n)).length ≤ 1000)) = true := by decide +kernel
theorem of_and3 {a b c : Bool} (h : (a && b && c) = true) : a = true ∧ b = true ∧ c = true := by
  rw [Bool.and_eq_true, Bool.and_eq_true] at h
  exact ⟨h.1.1, h.1.2, h.2⟩
theorem res_err {rows : List Str} {l : Nat} (h : resM rows = l) : progM rows = .error l := by
  unfold resM at h
  cases e : progM rows with
  | ok q =>
    rw [e] at h
    have h : (-1 : Int) = l := h
    omega
  | error k =>
    rw [e] at h
    have h : (k : Int) = l := h
    rw [show k = l by omega]
theorem res_ok {rows : List Str} (h : resM rows = -1) : ∃ r, progM rows = .ok r := by
  unfold resM at h
  cases e : progM rows with
  | ok q => exact ⟨q, rfl⟩
  | error k =>
    rw [e] at h
    have h : (k : Int) = -1 := h
    omega
theorem rows_res {rows : List Str} (hne : rows ≠ []) (hl : rows.length ≤ 200) (hok : rows.all rowOk = true) {m : Int} (h : resM rows = m) (h0 : m ≠ 0) : TxOk (Txt.join "\n" rows) ∧ capM (Txt.join "\n" rows) = (if m = -1 then V.str "told" else V.int m) := by
  obtain ⟨a, b⟩ := rows_text hne hl (List.all_eq_true.mp hok) fun l e z => by
    unfold resM at h
    rw [e] at h
    have h : (l : Int) = m := h
    omega
  refine ⟨a, b.trans ?_⟩
  unfold resV
  unfold resM at h
  cases e : progM rows with
  | ok q =>
    rw [e] at h
    have h : (-1 : Int) = m := h
    rw [if_pos h.symm]
  | error k =>
    rw [e] at h
    have h : (k : Int) = m := h
    rw [if_neg (by omega), ← h]
theorem hopes_res : ∀ t ∈ hopes, dRes t.2 ≠ 0 ∧ (if dRes t.2 = -1 then V.str "told" else V.int (dRes t.2)) = valD t.2 := by
  intro t ht
  simp only [hopes, List.mem_cons, List.not_mem_nil, or_false] at ht
  rcases ht with rfl | rfl | rfl | rfl | rfl | rfl <;> exact ⟨by decide, rfl⟩
theorem rtFacts : RtFacts where
  house := fun ask h1 cell h2 w h3 r hr => List.all_eq_true.mp (all3 (p := fun ask cell w => (houseRows ask).all fun r => okAt (partsD ask cell w) 0 r) at_house ask h1 cell h2 w h3) r hr
  screen := fun ask h1 cell h2 w h3 r hr => List.all_eq_true.mp (all3 (p := fun ask cell w => (screenRows cell).all fun r => okAt (partsD ask cell w) 1 r) at_screen ask h1 cell h2 w h3) r hr
  deed := fun ask h1 cell h2 w h3 r hr => List.all_eq_true.mp (at_deed ask h1 cell h2 w h3) r hr
  size := fun ask h1 cell h2 w h3 z hz => by
    obtain ⟨g1, g2, g3⟩ := of_and3 (List.all_eq_true.mp (all3 (p := fun ask cell w => sizes.all fun z => ((sizeRows ask cell w z).all rowOk) && (resM (sizeRows ask cell w z) == 1) && decide (((sizeRows ask cell w z).map (·.length)).sum ≤ 1000)) at_size ask h1 cell h2 w h3) z hz)
    obtain ⟨a, b⟩ := rows_res (by unfold sizeRows; simp) (show (sizeRows ask cell w z).length ≤ 200 from Nat.le_of_ble_eq_true rfl) g1 (eq_of_beq g2) (by decide)
    exact ⟨a, b, of_decide_eq_true g3⟩
  hopes := fun ask h1 => by
    have e := hope_split h1
    have hl := List.all_eq_true.mp at_hopeL ask h1
    unfold hopeOk
    rw [e]
    refine ⟨Nat.le_of_ble_eq_true rfl, fun n hn => ?_, fun t ht => ?_⟩
    · have z := List.all_eq_true.mp hl n (List.mem_range.mpr (by omega))
      rw [Bool.and_eq_true] at z
      rw [TL.join_eq]
      exact ⟨of_decide_eq_true z.1, of_decide_eq_true z.2⟩
    · obtain ⟨g1, g2, g3⟩ := of_and3 (List.all_eq_true.mp (List.all_eq_true.mp at_hope ask h1) t ht)
      obtain ⟨q0, q1⟩ := hopes_res t ht
      obtain ⟨a, b⟩ := rows_res (by unfold hopeR hopeHead; simp) (show (hopeR ask t.1).length ≤ 200 from Nat.le_of_ble_eq_true rfl) g1 (eq_of_beq g2) q0
      rw [hope_rows h1]
      exact ⟨a, b.trans q1, of_decide_eq_true g3⟩
end K6

/-! text AM -/
set_option Elab.async false
set_option linter.all false
set_option maxRecDepth 100000
set_option maxHeartbeats 4000000
namespace K6
open PySem PySem.Spec PyProof.Rows L2
/-! ### what the top has written -/
structure FA (K : PySem.W.Frag) (x : Str) (st : Stmt) : Prop where
  ex : ∃ (f : Addr) (fd : FuncData), PySem.W.nsIn K mainGlobals x = some (some (.ref f)) ∧ Fun K x x st f fd
theorem fa_mk {K : PySem.W.Frag} {x : Str} {st : Stmt} {f : Addr} {oc : Value} {od an : Option Addr} {osl : Array (Option Value)} {kV doc pm cdv ct : Value} (a : PySem.W.nsIn K mainGlobals x = some (some (.ref f))) (l : K.lookup f = some ⟨oc, od, .func (PySem.W.fnOf x x (defArgs st) (defBody st) (defScope st) .none kV doc pm an cdv ct), osl⟩)
    (c : PySem.W.codeIn K cdv x = true) (k : PySem.W.keepIn K (.ref f) = true) : FA K x st := ⟨⟨f, _, a, fun_mk l c k⟩⟩
structure ME (K : PySem.W.Frag) (C : Addr) (x qual : Str) (st : Stmt) : Prop where
  ex : ∃ (f : Addr) (fd : FuncData), Meth K C x f ∧ Fun K x qual st f fd
theorem me_mk {K : PySem.W.Frag} {C : Addr} {x qual : Str} {st : Stmt} {f : Addr} {oc : Value} {od an : Option Addr} {osl : Array (Option Value)} {kV doc pm cdv ct : Value} (a : PySem.W.findIn K (.ref C) x = some (some (.ref f))) (i : PySem.W.isFn K (.ref f) = true) (l : K.lookup f = some ⟨oc, od, .func (PySem.W.fnOf x qual (defArgs st) (defBody st) (defScope st) .none kV doc pm an cdv ct), osl⟩)
    (c : PySem.W.codeIn K cdv qual = true) (k : PySem.W.keepIn K (.ref f) = true) : ME K C x qual st := ⟨⟨f, _, ⟨a, i, k⟩, fun_mk l c k⟩⟩
/-- read_block, with its defaults -/
structure FBk (K : PySem.W.Frag) : Prop where
  ex : ∃ (f : Addr) (fd : FuncData), PySem.W.nsIn K mainGlobals "read_block" = some (some (.ref f)) ∧ FunD K "read_block" "read_block" (defArgs sReadBlock) (defBody sReadBlock) (defScope sReadBlock) [.int 0, .int 0] [] f fd
theorem fbk_mk {K : PySem.W.Frag} {f T : Addr} {oc : Value} {od an : Option Addr} {osl : Array (Option Value)} {kV doc pm cdv ct : Value} {o : Obj} {t1 t2 : Tok} {n : Nat} (a : PySem.W.nsIn K mainGlobals "read_block" = some (some (.ref f))) (l : K.lookup f = some ⟨oc, od, .func (PySem.W.fnOf "read_block" "read_block" (defArgs sReadBlock) (defBody sReadBlock) (defScope sReadBlock) (.ref T) kV doc pm an cdv ct), osl⟩)
    (c : PySem.W.codeIn K cdv "read_block" = true) (k : PySem.W.keepIn K (.ref f) = true) (lT : K.lookup T = some o) (oT : o.data = .seq #[.int 0 t1, .int 0 t2] n) : FBk K :=
  ⟨⟨f, _, a, ⟨⟨oc, od, .ref T, kV, doc, pm, an, cdv, ct, osl, rfl, l, c, .inr ⟨by simp, T, o, [.int 0 t1, .int 0 t2], n, rfl, lT, oT, .cons ⟨_, rfl⟩ (.cons ⟨_, rfl⟩ .nil)⟩, .inl rfl⟩, k⟩⟩⟩
/-- Scope.__init__ -/
structure FSc (K : PySem.W.Frag) (CS : Addr) : Prop where
  ex : ∃ (f : Addr) (fd : FuncData) (eT : Addr), Mk K CS f ∧ (∀ H, SqT K H eT []) ∧ FunD K "__init__" "Scope.__init__" (defArgs sScopeInit) (defBody sScopeInit) (defScope sScopeInit) [] [("in_house", V.bl false), ("lets", V.ref eT), ("most", V.int 0)] f fd
theorem fsc_mk {K : PySem.W.Frag} {CS f Dk eT : Addr} {oc : Value} {od an : Option Addr} {osl : Array (Option Value)} {doc pm cdv ct : Value} {o : Obj} {t1 : Tok} {n : Nat} (m : Mk K CS f) (l : K.lookup f = some ⟨oc, od, .func (PySem.W.fnOf "__init__" "Scope.__init__" (defArgs sScopeInit) (defBody sScopeInit) (defScope sScopeInit) .none (.ref Dk) doc pm an cdv ct), osl⟩)
    (c : PySem.W.codeIn K cdv "Scope.__init__" = true) (k : PySem.W.keepIn K (.ref f) = true) (n1 : PySem.W.nsIn K Dk "in_house" = some (some (.bool false))) (n2 : PySem.W.nsIn K Dk "lets" = some (some (.ref eT))) (n3 : PySem.W.nsIn K Dk "most" = some (some (.int 0 t1)))
    (lT : K.lookup eT = some o) (oc2 : o.cls = .type "tuple") (oT : o.data = .seq #[] n) : FSc K CS :=
  ⟨⟨f, _, eT, m, fun H => .inr ⟨o, #[], n, lT, oc2, oT, by decide, .nil⟩, ⟨⟨oc, od, .none, .ref Dk, doc, pm, an, cdv, ct, osl, rfl, l, c, .inl ⟨rfl, rfl⟩, .inr ⟨Dk, rfl, fun q hq => by
    rcases List.mem_cons.mp hq with rfl | hq
    · exact ⟨_, n1, rfl⟩
    rcases List.mem_cons.mp hq with rfl | hq
    · exact ⟨_, n2, rfl⟩
    rcases List.mem_cons.mp hq with rfl | hq
    · exact ⟨_, n3, ⟨_, rfl⟩⟩
    cases hq⟩⟩, k⟩⟩⟩
structure Facts (K : PySem.W.Frag) (w : World) (C CB CL CS CP : Addr) : Prop where
  gC : PySem.W.nsIn K mainGlobals "Lines" = some (some (.ref C))
  gCB : PySem.W.nsIn K mainGlobals "BadText" = some (some (.ref CB))
  gCL : PySem.W.nsIn K mainGlobals "LateError" = some (some (.ref CL))
  gCS : PySem.W.nsIn K mainGlobals "Scope" = some (some (.ref CS))
  gCP : PySem.W.nsIn K mainGlobals "Program" = some (some (.ref CP))
  clC : Cls K C
  clCS : Cls K CS
  clCP : Cls K CP
  nC_rows : NoAttr K C "rows"
  nC_at : NoAttr K C "at"
  nCS_worths : NoAttr K CS "worths"
  nCS_cells : NoAttr K CS "cells"
  nCS_known : NoAttr K CS "known"
  nCS_asks : NoAttr K CS "asks"
  nCS_in_house : NoAttr K CS "in_house"
  nCS_lets : NoAttr K CS "lets"
  nCS_most : NoAttr K CS "most"
  nCP_text : NoAttr K CP "text"
  nCP_worths : NoAttr K CP "worths"
  nCP_in_order : NoAttr K CP "in_order"
  nCP_house : NoAttr K CP "house"
  nCP_works : NoAttr K CP "works"
  nCP_firsts : NoAttr K CP "firsts"
  nCP_shows : NoAttr K CP "shows"
  nCP_unsure : NoAttr K CP "unsure"
  nCP_takes : NoAttr K CP "takes"
  nCP_sends : NoAttr K CP "sends"
  nCP_keeps : NoAttr K CP "keeps"
  nCP_backs : NoAttr K CP "backs"
  nCP_hands : NoAttr K CP "hands"
  nCP_handlers : NoAttr K CP "handlers"
  nCP_over : NoAttr K CP "over"
  nCP_asks : NoAttr K CP "asks"
  nCP_cells : NoAttr K CP "cells"
  nCP_deeds : NoAttr K CP "deeds"
  nCP_choices : NoAttr K CP "choices"
  nCP_keeping : NoAttr K CP "keeping"
  nCP_redone : NoAttr K CP "redone"
  fis_name : FA K "is_name" sIsName
  fread_worth : FA K "read_worth" sReadWorth
  fread_new_name : FA K "read_new_name" sReadNewName
  fread_value : FA K "read_value" sReadValue
  fread_write : FA K "read_write" sReadWrite
  fread_ending : FA K "read_ending" sReadEnding
  fread_short : FA K "read_short" sReadShort
  fread_guess : FA K "read_guess" sReadGuess
  fread_ask : FA K "read_ask" sReadAsk
  fread_statement : FA K "read_statement" sReadStatement
  fread_if : FA K "read_if" sReadIf
  fread_first_line : FA K "read_first_line" sReadFirst
  fread_line : FA K "read_line" sReadLine
  fread_cells : FA K "read_cells" sReadCells
  fread_house_asks : FA K "read_house_asks" sReadHouse
  fread_shows : FA K "read_shows" sReadShows
  fread_unsure : FA K "read_unsure" sReadUnsure
  fread_choices : FA K "read_choices" sReadChAll
  fread_choices_of : FA K "read_choices_of" sReadChoices
  fread_deeds : FA K "read_deeds" sReadDeeds
  fread_handlers : FA K "read_handlers" sReadHandlers
  fread_screen_handlers : FA K "read_screen_handlers" sReadScreen
  f_law_pot : FA K "_law_pot" sPot
  f_law_take : FA K "_law_take" sTake
  f_law_of : FA K "_law_of" sOf
  f_law_caught : FA K "_law_caught" sCaught
  f_law_is_at : FA K "_law_is_at" sIsAt
  f_law_house_rows : FA K "_law_house_rows" sHouseRows
  f_law_screen_rows : FA K "_law_screen_rows" sScreenRows
  f_law_deed_rows : FA K "_law_deed_rows" sDeedRows
  f_law_hopes_right : FA K "_law_hopes_right" sHopes
  f_law_right : FA K "_law_right" sRight
  flaw : FA K "law" sLaw
  mCwords : ME K C "words" "Lines.words" sWords
  mCbegins : ME K C "begins" "Lines.begins" sBegins
  mCstep : ME K C "step" "Lines.step" sStep
  mCneed : ME K C "need" "Lines.need" sNeed
  mCP_read_house : ME K CP "_read_house" "Program._read_house" sPHouse
  mCP_read_screen : ME K CP "_read_screen" "Program._read_screen" sPScreen
  fb : FBk K
  fs : FSc K CS
  mkC : ∃ f fd, Mk K C f ∧ Fun K "__init__" "Lines.__init__" sLInit f fd
  mkP : ∃ f fd, Mk K CP f ∧ Fun K "__init__" "Program.__init__" sPInit f fd
  zlen : PySem.W.nsIn K mainGlobals "len" = some none
  zall : PySem.W.nsIn K mainGlobals "all" = some none
  zint : PySem.W.nsIn K mainGlobals "int" = some none
  ztuple : PySem.W.nsIn K mainGlobals "tuple" = some none
  zmax : PySem.W.nsIn K mainGlobals "max" = some none
  zmin : PySem.W.nsIn K mainGlobals "min" = some none
  zrange : PySem.W.nsIn K mainGlobals "range" = some none
  zlist : PySem.W.nsIn K mainGlobals "list" = some none
  zisinstance : PySem.W.nsIn K mainGlobals "isinstance" = some none
  zstr : PySem.W.nsIn K mainGlobals "str" = some none
  zsum : PySem.W.nsIn K mainGlobals "sum" = some none
  zabs : PySem.W.nsIn K mainGlobals "abs" = some none
  zValueError : PySem.W.nsIn K mainGlobals "ValueError" = some none
  iMOST_STATEMENTS : ∃ t, PySem.W.nsIn K mainGlobals "MOST_STATEMENTS" = some (some (.int 8 t))
  iMOST_IFS : ∃ t, PySem.W.nsIn K mainGlobals "MOST_IFS" = some (some (.int 2 t))
  iMOST_UNSURE : ∃ t, PySem.W.nsIn K mainGlobals "MOST_UNSURE" = some (some (.int 2 t))
  iMOST_ASKS : ∃ t, PySem.W.nsIn K mainGlobals "MOST_ASKS" = some (some (.int 3 t))
  iMOST_CELLS : ∃ t, PySem.W.nsIn K mainGlobals "MOST_CELLS" = some (some (.int 4 t))
  iMOST_HOUSE_CELLS : ∃ t, PySem.W.nsIn K mainGlobals "MOST_HOUSE_CELLS" = some (some (.int 2 t))
  iMOST_DEEDS : ∃ t, PySem.W.nsIn K mainGlobals "MOST_DEEDS" = some (some (.int 3 t))
  iMOST_ASKS_OF_DEED : ∃ t, PySem.W.nsIn K mainGlobals "MOST_ASKS_OF_DEED" = some (some (.int 2 t))
  iMOST_ASKS_OF_OTHERS : ∃ t, PySem.W.nsIn K mainGlobals "MOST_ASKS_OF_OTHERS" = some (some (.int 1 t))
  iLETTERS : ∃ t, PySem.W.nsIn K mainGlobals "LETTERS" = some (some (.str LETTERS t))
  iDIGITS : ∃ t, PySem.W.nsIn K mainGlobals "DIGITS" = some (some (.str DIGITS t))
  gw : ∃ (d : Addr) (es : Array DictEntry) (n : Nat), PySem.W.nsIn K mainGlobals "GUESS_WORDS" = some (some (.ref d)) ∧ KDict K w d es n ∧ (∀ z : Str, ∃ r, PySem.W.nsIn K d z = some r ∧ r.isSome = ([("=" : Str), "+"] : List Str).contains z) ∧ ∀ z : Str, ([("=" : Str), "+"] : List Str).contains z = true → ∃ v, KDct K w d z v
  ch : ∃ (a t1 t2 t3 t4 c1 c2 c3 c4 : Addr), PySem.W.nsIn K mainGlobals "CHOICE_LINES" = some (some (.ref a)) ∧ (∀ H, SqT K H a [.ref t1, .ref t2, .ref t3, .ref t4]) ∧
    (∀ H, SqT K H t1 [.str "take", .ref c1, .str "any"]) ∧ (∀ H, SqT K H t2 [.str "send", .ref c2, .str "many"]) ∧ (∀ H, SqT K H t3 [.str "keep", .ref c3, .str "none"]) ∧ (∀ H, SqT K H t4 [.str "back", .ref c4, .str "kept"]) ∧
    (∀ H, SqT K H c1 ((["last", "rising"] : List Str).map V.str)) ∧ (∀ H, SqT K H c2 ((["one", "latest", "queued", "resting"] : List Str).map V.str)) ∧ (∀ H, SqT K H c3 ((["only", "both"] : List Str).map V.str)) ∧ (∀ H, SqT K H c4 ((["redone"] : List Str).map V.str))
  low : ∀ {h : Heap} {mg : Str → Option Value}, K.In h → h.Ns mainGlobals mg → ∃ fB, PySem.LowX.LowTxt K mg CB fB
  isD : IsD K CB
  ex : PySem.W.exmOne K (.ref CB) (.ref CL) = some true
  k1 : PySem.W.kitOne K (.ref CB) (.ref CB) = some true
  k2 : PySem.W.kitOne K (.ref CB) (.type "ValueError") = some true
section
variable {P : Program} {w : World} {K : PySem.W.Frag} {mg : Str → Option Value} {base : Heap} {C CB CL CS CP : Addr}
theorem ok_block0 {f : Addr} {fd : FuncData} (F : FunD K "read_block" "read_block" (defArgs sReadBlock) (defBody sReadBlock) (defScope sReadBlock) [.int 0, .int 0] [] f fd) : FnOk P w K mg base (L2.CX P w) 7 f fd psB (spLv K C CB CS (blkM 0) 0 false) := by
  refine F.ok scReadBlock (fun vs H Q E h => ?_) (fun cdv A outer s H vs Q E hr h => ?_)
  · obtain ⟨p, q, rows, n, sc, d, ifs, made, rfl, _⟩ := h
    rfl
  · obtain ⟨p, q, rows, n, sc, d, ifs, made, rfl, hL, hS, hd, hi, _, k⟩ := h
    exact absurd rfl (show (0 : Nat) ≠ 0 from k.1)
theorem fnAt {h : Heap} {CX : CXT} {k : Nat} {x : Str} {st : Stmt} {ps : List Str} {sp : Sp} (X : K.In h) (G : h.Ns mainGlobals mg) (A : FA K x st) (b : ∀ f fd, Fun K x x st f fd → Binds K fd ps []) (o : ∀ f fd, Fun K x x st f fd → FnOk P w K mg base CX k f fd ps sp) : FnAt P w K mg base CX k x ps sp := by
  obtain ⟨f, fd, a, F⟩ := A.ex
  exact ⟨f, fd, PySem.W.mg_of X G a, F.kp, b f fd F, o f fd F⟩
theorem meAt {CX : CXT} {C : Addr} {k : Nat} {x q : Str} {st : Stmt} {ps : List Str} {sp : Sp} (A : ME K C x q st) (b : ∀ f fd, Fun K x q st f fd → Binds K fd ps []) (o : ∀ f fd, Fun K x q st f fd → FnOk P w K mg base CX k f fd ps sp) : MeAt P w K mg base CX C k x ps sp := by
  obtain ⟨f, fd, a, F⟩ := A.ex
  exact ⟨f, fd, a, b f fd F, o f fd F⟩
theorem blAt {h : Heap} {CX : CXT} {k : Nat} {sp : Sp} (X : K.In h) (G : h.Ns mainGlobals mg) (A : FBk K) (o : ∀ f fd, FunD K "read_block" "read_block" (defArgs sReadBlock) (defBody sReadBlock) (defScope sReadBlock) [.int 0, .int 0] [] f fd → FnOk P w K mg base CX k f fd psB sp) : FnAt P w K mg base CX k "read_block" psB sp := by
  obtain ⟨f, fd, a, F⟩ := A.ex
  exact ⟨f, fd, PySem.W.mg_of X G a, F.kp, bl5 F, o f fd F⟩
theorem all_of {h : Heap} {fa : Addr} (X : K.In h) (G : h.Ns mainGlobals mg) (A : Facts K w C CB CL CS CP) (hfa : mg "law" = some (.ref fa)) :
    ∃ fd : FuncData, (∀ (s : Shared) (v : Value), BindsTo s fd ⟨[v], []⟩ [("_law_script", v)]) ∧ ∀ base : Heap, K.In base → base.Ns mainGlobals mg → FnOk P w K mg base CX0 26 fa fd ["_law_script"] (spLaw6 K) := by
  obtain ⟨fl, fdl, al, FL⟩ := A.flaw.ex
  have e := hfa.symm.trans (PySem.W.mg_of X G al)
  cases e
  refine ⟨fdl, fun s v => ?_, fun base _ _ => ?_⟩
  · obtain ⟨oc, od, kV, doc, pm, an, cdv, ct, osl, rfl, _⟩ := FL.ex
    exact .of_eq rfl
  have mn : ∀ {x : Str}, PySem.W.nsIn K mainGlobals x = some none → mg x = none := fun z => PySem.W.mg_none_of X G z
  have mi : ∀ {x : Str} {n : Int}, (∃ t, PySem.W.nsIn K mainGlobals x = some (some (.int n t))) → ∃ t, mg x = some (.int n t) := fun ⟨t, z⟩ => ⟨t, PySem.W.mg_of X G z⟩
  have ms : ∀ {x n : Str}, (∃ t, PySem.W.nsIn K mainGlobals x = some (some (.str n t))) → ∃ t, mg x = some (.str n t) := fun ⟨t, z⟩ => ⟨t, PySem.W.mg_of X G z⟩
  obtain ⟨fB, low⟩ := A.low X G
  have TL0 : TL K mg C CB fB := ⟨A.clC, A.nC_rows, A.nC_at, mn A.zlen, low⟩
  have T : TN K mg := ⟨mn A.zlen, mn A.zall, mn A.zint, ms A.iLETTERS, ms A.iDIGITS⟩
  have TCx : TC mg := ⟨mn A.ztuple, mn A.zmax, mi A.iMOST_STATEMENTS, mi A.iMOST_IFS⟩
  have M : TM mg := ⟨mi A.iMOST_UNSURE, mi A.iMOST_ASKS, mi A.iMOST_CELLS, mi A.iMOST_HOUSE_CELLS, mi A.iMOST_DEEDS, mi A.iMOST_ASKS_OF_DEED, mi A.iMOST_ASKS_OF_OTHERS, mn A.ztuple, mn A.zlist, mn A.zrange⟩
  have S : SX K CS := ⟨A.clCS, A.nCS_worths, A.nCS_cells, A.nCS_known, A.nCS_asks, A.nCS_in_house, A.nCS_lets, A.nCS_most⟩
  have PP : PX K CP := ⟨A.clCP, A.nCP_text, A.nCP_worths, A.nCP_in_order, A.nCP_house, A.nCP_works, A.nCP_firsts, A.nCP_shows, A.nCP_unsure, A.nCP_takes, A.nCP_sends, A.nCP_keeps, A.nCP_backs, A.nCP_hands, A.nCP_handlers, A.nCP_over, A.nCP_asks, A.nCP_cells, A.nCP_deeds, A.nCP_choices, A.nCP_keeping, A.nCP_redone⟩
  have PI : PIx K mg C := ⟨mn A.zisinstance, mn A.zstr, PySem.W.mg_of X G A.gC⟩
  have GWx : GW K mg w := ⟨by
    obtain ⟨d, es, n, z, r⟩ := A.gw
    exact ⟨d, es, n, PySem.W.mg_of X G z, r⟩⟩
  have CH : CHx K mg := ⟨by
    obtain ⟨a, t1, t2, t3, t4, c1, c2, c3, c4, z, r⟩ := A.ch
    exact ⟨a, t1, t2, t3, t4, c1, c2, c3, c4, PySem.W.mg_of X G z, r⟩⟩
  obtain ⟨fW, dW, mW, FW⟩ := A.mCwords.ex
  have bW : Binds K dW ["self", "depth"] [] := FW.binds (ps := ["self", "depth"]) fun _ _ _ _ _ _ us hl => match us, hl with | [_, _], _ => rfl
  have L : LX P w K mg base C CB := ⟨A.clC, A.nC_rows, A.nC_at, ⟨fW, dW, mW, bW, ok_words FW TL0⟩,
    meAt A.mCbegins (fun _ _ F => F.binds (ps := ["self", "depth", "word"]) fun _ _ _ _ _ _ us hl => match us, hl with | [_, _, _], _ => rfl) (fun _ _ F => ok_begins F TL0 (ok_words FW TL0) bW mW), meAt A.mCstep (fun _ _ F => F.binds (ps := ["self"]) fun _ _ _ _ _ _ us hl => match us, hl with | [_], _ => rfl) (fun _ _ F => ok_step F TL0), meAt A.mCneed (fun _ _ F => F.binds (ps := ["self", "holds"]) fun _ _ _ _ _ _ us hl => match us, hl with | [_, _], _ => rfl) (fun _ _ F => ok_need F TL0)⟩
  have rIsName : FnAt P w K mg base CX0 1 "is_name" ["word"] spIsName := fnAt X G A.fis_name (fun _ _ F => F.binds (ps := ["word"]) fun _ _ _ _ _ _ us hl => match us, hl with | [_], _ => rfl) fun _ _ F => ok_is_name F T
  have rWorth : FnAt P w K mg base (L2.CX P w) 4 "read_worth" ["lines", "word", "worths"] (spReadWorth C CB) := fnAt X G A.fread_worth (fun _ _ F => F.binds (ps := ["lines", "word", "worths"]) fun _ _ _ _ _ _ us hl => match us, hl with | [_, _, _], _ => rfl) fun _ _ F => ok_read_worth F T L
  have rNew : FnAt P w K mg base (L2.CX P w) 4 "read_new_name" ["lines", "word", "taken"] (spReadNewName K C CB) := fnAt X G A.fread_new_name (fun _ _ F => F.binds (ps := ["lines", "word", "taken"]) fun _ _ _ _ _ _ us hl => match us, hl with | [_, _, _], _ => rfl) fun _ _ F => ok_read_new_name F L rIsName
  have rValue : FnAt P w K mg base (L2.CX P w) 5 "read_value" ["lines", "scope", "word"] (spReadValue K C CB CS) := fnAt X G A.fread_value (fun _ _ F => F.binds (ps := ["lines", "scope", "word"]) fun _ _ _ _ _ _ us hl => match us, hl with | [_, _, _], _ => rfl) fun _ _ F => ok_read_value F S rWorth
  have W : WK P w K mg base C CB CS := ⟨L, S, T, rValue⟩
  have rWrite : FnAt P w K mg base (L2.CX P w) 6 "read_write" ps3 (spWords3 K C CB CS writeM) := fnAt X G A.fread_write (fun _ _ F => F.binds (ps := ps3) fun _ _ _ _ _ _ us hl => match us, hl with | [_, _, _], _ => rfl) fun _ _ F => ok_read_write F L S T rValue
  have rEnding : FnAt P w K mg base (L2.CX P w) 6 "read_ending" ps3 (spWords3 K C CB CS endingM) := fnAt X G A.fread_ending (fun _ _ F => F.binds (ps := ps3) fun _ _ _ _ _ _ us hl => match us, hl with | [_, _, _], _ => rfl) fun _ _ F => ok_read_ending F W
  have rShort : FnAt P w K mg base (L2.CX P w) 6 "read_short" ps3 (spWords3 K C CB CS shortM) := fnAt X G A.fread_short (fun _ _ F => F.binds (ps := ps3) fun _ _ _ _ _ _ us hl => match us, hl with | [_, _, _], _ => rfl) fun _ _ F => ok_read_short F W
  have rGuess : FnAt P w K mg base (L2.CX P w) 6 "read_guess" ["lines", "scope", "words"] (spGuess K C CB CS) := fnAt X G A.fread_guess (fun _ _ F => F.binds (ps := ["lines", "scope", "words"]) fun _ _ _ _ _ _ us hl => match us, hl with | [_, _, _], _ => rfl) fun _ _ F => ok_read_guess F W GWx
  have rAsk : FnAt P w K mg base (L2.CX P w) 7 "read_ask" ps3 (spWords3 K C CB CS askM) := fnAt X G A.fread_ask (fun _ _ F => F.binds (ps := ps3) fun _ _ _ _ _ _ us hl => match us, hl with | [_, _, _], _ => rfl) fun _ _ F => ok_read_ask F W (mn A.zrange) (mn A.ztuple) rGuess
  have B0 : FnAt P w K mg base (L2.CX P w) 7 "read_block" psB (spLv K C CB CS (blkM 0) 0 false) := blAt X G A.fb fun _ _ F => ok_block0 F
  have I0 : FnAt P w K mg base (L2.CX P w) 8 "read_if" psB (spLv K C CB CS (iM 0) 1 true) := fnAt X G A.fread_if (fun _ _ F => F.binds (ps := psB) fun _ _ _ _ _ _ us hl => match us, hl with | [_, _, _, _, _], _ => rfl) fun _ _ F => ok_read_if (lv := 0) F W TCx B0
  have S0 : FnAt P w K mg base (L2.CX P w) 9 "read_statement" psB (spLv K C CB CS (stM 0) 1 true) := fnAt X G A.fread_statement (fun _ _ F => F.binds (ps := psB) fun _ _ _ _ _ _ us hl => match us, hl with | [_, _, _, _, _], _ => rfl) fun _ _ F => ok_read_statement (lv := 0) F W I0 rWrite rEnding rAsk rShort
  have B1 : FnAt P w K mg base (L2.CX P w) 10 "read_block" psB (spLv K C CB CS (blkM 1) 1 false) := blAt X G A.fb fun _ _ F => ok_read_block (lv := 0) F W TCx S0
  have I1 : FnAt P w K mg base (L2.CX P w) 11 "read_if" psB (spLv K C CB CS (iM 1) 2 true) := fnAt X G A.fread_if (fun _ _ F => F.binds (ps := psB) fun _ _ _ _ _ _ us hl => match us, hl with | [_, _, _, _, _], _ => rfl) fun _ _ F => ok_read_if (lv := 1) F W TCx B1
  have S1 : FnAt P w K mg base (L2.CX P w) 12 "read_statement" psB (spLv K C CB CS (stM 1) 2 true) := fnAt X G A.fread_statement (fun _ _ F => F.binds (ps := psB) fun _ _ _ _ _ _ us hl => match us, hl with | [_, _, _, _, _], _ => rfl) fun _ _ F => ok_read_statement (lv := 1) F W I1 rWrite rEnding rAsk rShort
  have B2 : FnAt P w K mg base (L2.CX P w) 13 "read_block" psB (spLv K C CB CS (blkM 2) 2 false) := blAt X G A.fb fun _ _ F => ok_read_block (lv := 1) F W TCx S1
  have I2 : FnAt P w K mg base (L2.CX P w) 14 "read_if" psB (spLv K C CB CS (iM 2) 3 true) := fnAt X G A.fread_if (fun _ _ F => F.binds (ps := psB) fun _ _ _ _ _ _ us hl => match us, hl with | [_, _, _, _, _], _ => rfl) fun _ _ F => ok_read_if (lv := 2) F W TCx B2
  have S2 : FnAt P w K mg base (L2.CX P w) 15 "read_statement" psB (spLv K C CB CS (stM 2) 3 true) := fnAt X G A.fread_statement (fun _ _ F => F.binds (ps := psB) fun _ _ _ _ _ _ us hl => match us, hl with | [_, _, _, _, _], _ => rfl) fun _ _ F => ok_read_statement (lv := 2) F W I2 rWrite rEnding rAsk rShort
  have B3 : FnAt P w K mg base (L2.CX P w) 16 "read_block" psB (spLv K C CB CS (blkM 3) 3 false) := blAt X G A.fb fun _ _ F => ok_read_block (lv := 2) F W TCx S2
  have BK : BLK P w K mg base C CB CS := by
    obtain ⟨f, fd, a, F⟩ := A.fb.ex
    obtain ⟨ds, hv, hb⟩ := bl3 F
    exact ⟨f, fd, ds, PySem.W.mg_of X G a, F.kp, hb, hv, ok_read_block (lv := 2) F W TCx S2⟩
  have SM : SMk P w K mg base CS := by
    obtain ⟨f, fd, eT, m, hE, F⟩ := A.fs.ex
    obtain ⟨mv1, kb1⟩ := kb_house F
    obtain ⟨mv2, kb2⟩ := kb_screen F
    exact ⟨PySem.W.mg_of X G A.gCS, f, fd, eT, mv1, mv2, m, ok_scope_init F S, hE, kb1, kb2⟩
  have rFirst : FnAt P w K mg base (L2.CX P w) 4 "read_first_line" ["lines"] (spFirst C CB) := fnAt X G A.fread_first_line (fun _ _ F => F.binds (ps := ["lines"]) fun _ _ _ _ _ _ us hl => match us, hl with | [_], _ => rfl) fun _ _ F => ok_read_first_line F L T
  have rLine : FnAt P w K mg base (L2.CX P w) 2 "read_line" ["lines", "depth", "words"] (spLine K C CB) := fnAt X G A.fread_line (fun _ _ F => F.binds (ps := ["lines", "depth", "words"]) fun _ _ _ _ _ _ us hl => match us, hl with | [_, _, _], _ => rfl) fun _ _ F => ok_read_line F L
  have rCells : FnAt P w K mg base (L2.CX P w) 5 "read_cells" ["lines", "worths", "most"] (spCells C CB) := fnAt X G A.fread_cells (fun _ _ F => F.binds (ps := ["lines", "worths", "most"]) fun _ _ _ _ _ _ us hl => match us, hl with | [_, _, _], _ => rfl) fun _ _ F => ok_read_cells F L T rNew rWorth
  have rHouse : FnAt P w K mg base (L2.CX P w) 17 "read_house_asks" ["lines", "worths", "cells"] (spHouse K C CB) := fnAt X G A.fread_house_asks (fun _ _ F => F.binds (ps := ["lines", "worths", "cells"]) fun _ _ _ _ _ _ us hl => match us, hl with | [_, _, _], _ => rfl) fun _ _ F => ok_read_house F L S T M SM rNew BK
  have rShows : FnAt P w K mg base (L2.CX P w) 4 "read_shows" ["lines", "cells"] (spShows K C CB) := fnAt X G A.fread_shows (fun _ _ F => F.binds (ps := ["lines", "cells"]) fun _ _ _ _ _ _ us hl => match us, hl with | [_, _], _ => rfl) fun _ _ F => ok_read_shows F L T M
  have rUnsure : FnAt P w K mg base (L2.CX P w) 5 "read_unsure" ["lines", "worths", "cells"] (spUnsure K C CB) := fnAt X G A.fread_unsure (fun _ _ F => F.binds (ps := ["lines", "worths", "cells"]) fun _ _ _ _ _ _ us hl => match us, hl with | [_, _, _], _ => rfl) fun _ _ F => ok_read_unsure F L T M rWorth
  have rChOf : FnAt P w K mg base (L2.CX P w) 4 "read_choices_of" ["lines", "word", "names", "choices", "plain"] (spChoices K C CB) := fnAt X G A.fread_choices_of (fun _ _ F => F.binds (ps := ["lines", "word", "names", "choices", "plain"]) fun _ _ _ _ _ _ us hl => match us, hl with | [_, _, _, _, _], _ => rfl) fun _ _ F => ok_read_choices F L T M
  have rCh : FnAt P w K mg base (L2.CX P w) 5 "read_choices" ["lines", "asks", "cells"] (spChAll K C CB) := fnAt X G A.fread_choices (fun _ _ F => F.binds (ps := ["lines", "asks", "cells"]) fun _ _ _ _ _ _ us hl => match us, hl with | [_, _, _], _ => rfl) fun _ _ F => ok_read_ch_all F CH rChOf
  have rDeeds : FnAt P w K mg base (L2.CX P w) 17 "read_deeds" ["lines", "scope"] (spDeeds K C CB CS) := fnAt X G A.fread_deeds (fun _ _ F => F.binds (ps := ["lines", "scope"]) fun _ _ _ _ _ _ us hl => match us, hl with | [_, _], _ => rfl) fun _ _ F => ok_read_deeds F L S T M rNew rWorth BK
  have rHand : FnAt P w K mg base (L2.CX P w) 17 "read_handlers" ["lines", "worths", "cells", "asks"] (spHandlers K C CB) := fnAt X G A.fread_handlers (fun _ _ F => F.binds (ps := ["lines", "worths", "cells", "asks"]) fun _ _ _ _ _ _ us hl => match us, hl with | [_, _, _, _], _ => rfl) fun _ _ F => ok_read_handlers F L S T M SM rLine BK
  have rScreen : FnAt P w K mg base (L2.CX P w) 18 "read_screen_handlers" ["lines", "worths", "cells", "asks"] (spScreen K C CB) := fnAt X G A.fread_screen_handlers (fun _ _ F => F.binds (ps := ["lines", "worths", "cells", "asks"]) fun _ _ _ _ _ _ us hl => match us, hl with | [_, _, _, _], _ => rfl) fun _ _ F => ok_read_screen F L S M SM rLine BK rDeeds rHand
  have mHouse : MeAt P w K mg base (L2.CX P w) CP 18 "_read_house" ["self", "lines"] (spPHouse C CB CP) := meAt A.mCP_read_house (fun _ _ F => F.binds (ps := ["self", "lines"]) fun _ _ _ _ _ _ us hl => match us, hl with | [_, _], _ => rfl) fun _ _ F => ok_phouse F L PP M rLine rCells rHouse
  have mScreen : MeAt P w K mg base (L2.CX P w) CP 19 "_read_screen" ["self", "lines"] (spPScreen C CB CP) := meAt A.mCP_read_screen (fun _ _ F => F.binds (ps := ["self", "lines"]) fun _ _ _ _ _ _ us hl => match us, hl with | [_, _], _ => rfl) fun _ _ F => ok_pscreen F L PP M rLine rCells rShows rUnsure rCh rScreen
  obtain ⟨fLI, dLI, mkL, FLI⟩ := A.mkC
  obtain ⟨fPI, dPI, mkP, FPI⟩ := A.mkP
  have bLI : Binds K dLI ["self", "text"] [] := FLI.binds (ps := ["self", "text"]) fun _ _ _ _ _ _ us hl => match us, hl with | [_, _], _ => rfl
  have bPI : Binds K dPI ["self", "text"] [] := FPI.binds (ps := ["self", "text"]) fun _ _ _ _ _ _ us hl => match us, hl with | [_, _], _ => rfl
  have GP : FnOk P w K mg base (L2.CX P w) 20 fPI dPI ["self", "text"] (spProg CB CP) := ok_pinit FPI L PP M T PI mkL (ok_linit FLI A.clC A.nC_rows A.nC_at) bLI rFirst mHouse mScreen
  have X6 : CX6 K mg CB CL CP := ⟨PySem.W.mg_of X G A.gCP, PySem.W.mg_of X G A.gCL, PySem.W.mg_of X G A.gCB, mn A.zisinstance, mn A.zValueError, A.ex, A.k1, A.k2⟩
  have LN0 : LNames mg := ⟨mn A.zmax, mn A.zmin, mn A.zlen, mn A.zint, mn A.zabs, mn A.zsum, mn A.zstr, mn A.zrange⟩
  have lCaught : FnAt P w K mg base CX0 22 "_law_caught" ["_law_text"] spCaught := fnAt X G A.f_law_caught (fun _ _ F => F.binds (ps := ["_law_text"]) fun _ _ _ _ _ _ us hl => match us, hl with | [_], _ => rfl) fun _ _ F => ok_caught F low PP A.isD X6 mkP GP bPI
  have lIsAt : FnAt P w K mg base CX0 23 "_law_is_at" ["_law_parts", "_law_number", "_law_lined", "_law_due"] spIsAt := fnAt X G A.f_law_is_at (fun _ _ F => F.binds (ps := ["_law_parts", "_law_number", "_law_lined", "_law_due"]) fun _ _ _ _ _ _ us hl => match us, hl with | [_, _, _, _], _ => rfl) fun _ _ F => ok_is_at F ⟨mn A.zlen, mn A.zsum⟩ lCaught
  have lHouse : FnAt P w K mg base CX0 1 "_law_house_rows" ["_law_ask"] spHouseRows := fnAt X G A.f_law_house_rows (fun _ _ F => F.binds (ps := ["_law_ask"]) fun _ _ _ _ _ _ us hl => match us, hl with | [_], _ => rfl) fun _ _ F => ok_house_rows F LN0
  have lScreen : FnAt P w K mg base CX0 1 "_law_screen_rows" ["_law_cell"] spScreenRows := fnAt X G A.f_law_screen_rows (fun _ _ F => F.binds (ps := ["_law_cell"]) fun _ _ _ _ _ _ us hl => match us, hl with | [_], _ => rfl) fun _ _ F => ok_screen_rows F LN0
  have lDeed : FnAt P w K mg base CX0 1 "_law_deed_rows" ["_law_ask", "_law_cell"] spDeedRows := fnAt X G A.f_law_deed_rows (fun _ _ F => F.binds (ps := ["_law_ask", "_law_cell"]) fun _ _ _ _ _ _ us hl => match us, hl with | [_, _], _ => rfl) fun _ _ F => ok_deed_rows F LN0
  have lTake : FnAt P w K mg base CX0 1 "_law_take" ["_law_pot_here", "_law_upto"] spTake := fnAt X G A.f_law_take (fun _ _ F => F.binds (ps := ["_law_pot_here", "_law_upto"]) fun _ _ _ _ _ _ us hl => match us, hl with | [_, _], _ => rfl) fun _ _ F => ok_take F (mn A.zint)
  have lOf : FnAt P w K mg base CX0 2 "_law_of" ["_law_pot_here", "_law_some"] spOf := fnAt X G A.f_law_of (fun _ _ F => F.binds (ps := ["_law_pot_here", "_law_some"]) fun _ _ _ _ _ _ us hl => match us, hl with | [_, _], _ => rfl) fun _ _ F => ok_of F (mn A.zlen) lTake
  have lPot : FnAt P w K mg base CX0 1 "_law_pot" ["_law_script", "_law_k"] (spPot K) := fnAt X G A.f_law_pot (fun _ _ F => F.binds (ps := ["_law_script", "_law_k"]) fun _ _ _ _ _ _ us hl => match us, hl with | [_, _], _ => rfl) fun _ _ F => ok_pot F (mn A.zlen) (mn A.zint) (mn A.zabs)
  have lHopes : FnAt P w K mg base CX0 23 "_law_hopes_right" ["_law_ask"] spHopes := fnAt X G A.f_law_hopes_right (fun _ _ F => F.binds (ps := ["_law_ask"]) fun _ _ _ _ _ _ us hl => match us, hl with | [_], _ => rfl) fun _ _ F => ok_hopes F lCaught
  have lRight : FnAt P w K mg base CX0 25 "_law_right" ["_law_pot_here"] spRight := fnAt X G A.f_law_right (fun _ _ F => F.binds (ps := ["_law_pot_here"]) fun _ _ _ _ _ _ us hl => match us, hl with | [_], _ => rfl) fun _ _ F => ok_right F ⟨mn A.zrange, mn A.zstr⟩ rtFacts lOf lTake lHouse lScreen lDeed lIsAt lCaught lHopes
  exact ok_law FL (mn A.zlen) (mn A.zmax) (mn A.zmin) (mn A.zrange) lPot lRight
end
end K6

/-! text FK -/
set_option Elab.async false
set_option linter.all false
set_option maxRecDepth 100000
set_option maxHeartbeats 4000000
namespace K6
open PySem PySem.Spec PyProof.Rows L2
theorem gw_mk {K : PySem.W.Frag} {w : World} {d : Addr} {h1 h2 : Int} {t1 t2 t3 t4 : Tok} {n : Nat} (a : PySem.W.nsIn K mainGlobals "GUESS_WORDS" = some (some (.ref d))) (l : K.lookup d = some ⟨.type "dict", none, .dict #[⟨h1, .str "=" t1, .str "set" t2⟩, ⟨h2, .str "+" t3, .str "add" t4⟩] n, #[]⟩)
    (e1 : h1 = PyData.keyHash w.params "=") (e2 : h2 = PyData.keyHash w.params "+") (hd : (d == sysModules) = false) :
    ∃ (d : Addr) (es : Array DictEntry) (n : Nat), PySem.W.nsIn K mainGlobals "GUESS_WORDS" = some (some (.ref d)) ∧ KDict K w d es n ∧ (∀ z : Str, ∃ r, PySem.W.nsIn K d z = some r ∧ r.isSome = ([("=" : Str), "+"] : List Str).contains z) ∧ ∀ z : Str, ([("=" : Str), "+"] : List Str).contains z = true → ∃ v, KDct K w d z v := by
  have hl : PySem.W.KeysLit w.params [⟨h1, .str "=" t1, .str "set" t2⟩, ⟨h2, .str "+" t3, .str "add" t4⟩] := ⟨⟨_, _, rfl, e1⟩, ⟨_, _, rfl, e2⟩, trivial⟩
  have key : ∀ z : Str, PySem.W.nsIn K d z = some (if z = "=" then some (.str "set" t2) else if z = "+" then some (.str "add" t4) else none) := fun z => by
    unfold PySem.W.nsIn
    rw [l]
    by_cases c1 : z = "="
    · subst c1
      rfl
    · by_cases c2 : z = "+"
      · subst c2
        rfl
      · have n1 : ¬ Value.isStr (.str "=" t1) z = true := fun q => c1 (eq_of_beq q).symm
        have n2 : ¬ Value.isStr (.str "+" t3) z = true := fun q => c2 (eq_of_beq q).symm
        have hf : List.find? (fun x : DictEntry => x.key.isStr z) [⟨h1, .str "=" t1, .str "set" t2⟩, ⟨h2, .str "+" t3, .str "add" t4⟩] = none := by
          rw [List.find?_cons_of_neg (p := fun x : DictEntry => x.key.isStr z) n1, List.find?_cons_of_neg (p := fun x : DictEntry => x.key.isStr z) n2, List.find?_nil]
        show (match List.find? (fun x : DictEntry => x.key.isStr z) [⟨h1, .str "=" t1, .str "set" t2⟩, ⟨h2, .str "+" t3, .str "add" t4⟩] with
          | some e => some (some e.val)
          | none => if (([⟨h1, .str "=" t1, .str "set" t2⟩, ⟨h2, .str "+" t3, .str "add" t4⟩] : List DictEntry).any fun x => x.refKey) = true then none else some none) = _
        rw [hf, if_neg c1, if_neg c2]
        rfl
  refine ⟨d, _, n, a, ⟨l, hl, hd⟩, fun z => ⟨_, key z, ?_⟩, fun z hz => ?_⟩
  · by_cases c1 : z = "="
    · subst c1
      rfl
    · by_cases c2 : z = "+"
      · subst c2
        rfl
      · rw [if_neg c1, if_neg c2]
        symm
        show ([("=" : Str), "+"] : List Str).contains z = false
        rw [List.contains_eq_mem]
        simp [c1, c2]
  · by_cases c1 : z = "="
    · subst c1
      exact ⟨.str "set", _, n, _, l, hl, key _, ⟨t2, rfl⟩⟩
    · by_cases c2 : z = "+"
      · subst c2
        exact ⟨.str "add", _, n, _, l, hl, key _, ⟨t4, rfl⟩⟩
      · rw [List.contains_eq_mem] at hz
        simp [c1, c2] at hz
theorem sqt_mk {K : PySem.W.Frag} {a : Addr} {o : Obj} {its : Array Value} {n : Nat} {xs : List V} (l : K.lookup a = some o) (c : o.cls = .type "tuple") (d : o.data = .seq its n) (z : Nat.ble its.size 100 = true) (v : Vals xs its.toList) : ∀ H, SqT K H a xs := fun H => .inr ⟨o, its, n, l, c, d, by
  have := Nat.le_of_ble_eq_true z
  rw [sizeLine_eq]
  omega, v⟩
theorem exm_two {K : PySem.W.Frag} {S R : Addr} (h1 : PySem.W.subIn K (.ref R) (.type "BaseException") = some true) (h2 : PySem.W.isClsIn K R = true) (h3 : PySem.W.typeIn K (.ref R) = some (.type "type")) (h4 : PySem.W.subIn K (.ref S) (.ref R) = some true) :
    PySem.W.exmOne K (.ref S) (.ref R) = some true := by
  have e1 : (PySem.W.subIn K (.ref R) (.type "BaseException") == some true) = true := by rw [h1] <;> rfl
  have e2 : ((PySem.W.clsIn K R).isSome && PySem.W.typeIn K (.ref R) == some (.type "type")) = true := by
    have h2' : (PySem.W.clsIn K R).isSome = true := h2
    rw [h2', h3] <;> rfl
  show (if (PySem.W.subIn K (.ref R) (.type "BaseException") == some true) = true then (if ((PySem.W.clsIn K R).isSome && PySem.W.typeIn K (.ref R) == some (.type "type")) = true then PySem.W.subIn K (.ref S) (.ref R) else none) else none) = some true
  rw [if_pos e1, if_pos e2]
  exact h4
theorem kit_self {K : PySem.W.Frag} {S : Addr} : PySem.W.kitOne K (.ref S) (.ref S) = some true := by
  unfold PySem.W.kitOne
  rw [if_pos (beq_iff_eq.mpr rfl)]
theorem low_mk {K : PySem.W.Frag} {CB CL f1 : Addr} {nm q : Str} {N : Addr} {bs : List Value} {sn : List Str} {sub : List Value} {ab : Bool} {col : Option Bool} {dd : Option Addr} {m0 m1 m2 m3 m5 : Option Value} {od1 an1 : Option Addr} {sl1 : Array (Option Value)} {oc1 dc1 pm1 cd1 ct1 : Value} {p1 p2 q1 q2 q3 q4 : Pos}
    (aC : PySem.W.nsIn K mainGlobals "BadText" = some (some (.ref CB)))
    (xL : K.lookup CB = some (excClassObj nm q CB N bs [.ref CL, .type "ValueError", .type "Exception", .type "BaseException", .type "object"] true sn sub ab col dd m0 m1 m2 m3 m5 "ValueError.__new__"))
    (sa : PySem.W.findIn K (.ref CB) "__setattr__" = some (some (.builtin "object.__setattr__"))) (ga : PySem.W.findIn K (.ref CB) "__getattribute__" = some (some (.builtin "BaseException.__getattribute__"))) (gg : PySem.W.findIn K (.ref CB) "__getattr__" = some none) (nb : PySem.W.findIn K (.ref CB) "line" = some none)
    (a1 : PySem.W.findIn K (.ref CB) "__init__" = some (some (.ref f1))) (t1 : PySem.W.typeIn K (.ref f1) = some (.type "function"))
    (l1 : K.lookup f1 = some ⟨oc1, od1, .func (PySem.W.fnOf "__init__" "BadText.__init__" (PySem.LowX.iA p1 p2) (PySem.LowX.iB q1 q2 q3 q4) PySem.LowX.iS .none .none dc1 pm1 an1 cd1 ct1), sl1⟩) (c1 : PySem.W.codeIn K cd1 "BadText.__init__" = true)
    (kC : PySem.W.keepIn K (.ref CB) = true) (eC : PySem.W.subIn K (.ref CB) (.type "BaseException") = some true) (tC : PySem.W.typeIn K (.ref CB) = some (.type "type")) (hC : PySem.W.hasDictIn K CB = true) (iC : PySem.W.isClsIn K CB = true) (sC : PySem.W.subIn K (.ref CB) (.ref CB) = some true) :
    ∀ {h : Heap} {mg : Str → Option Value}, K.In h → h.Ns mainGlobals mg → ∃ fB, PySem.LowX.LowTxt K mg CB fB := fun X G =>
  ⟨f1, { gC := PySem.W.mg_of X G aC, cls := ⟨nm, q, N, bs, _, sn, sub, ab, col, dd, m0, m1, m2, m3, m5, xL, rfl⟩, sa := sa, ga := ga, gg := gg, noN := nb, iC := a1, tC := t1, kC := kC, exC := eC, tyC := tC, hdC := hC, te := exm_two eC iC tC sC, fn := ⟨_, _, _, _, _, _, _, _, _, _, _, _, _, _, l1, c1⟩ }⟩
theorem isD_mk {K : PySem.W.Frag} {C : Addr} {gt : Option Value} (c1 : PySem.W.isClsIn K C = true) (c2 : PySem.W.findIn K (.ref C) "__getattribute__" = some (some (.builtin "BaseException.__getattribute__"))) (c3 : PySem.W.findIn K (.ref C) "__getattr__" = some gt) (c4 : PySem.W.subIn K (.ref C) (.type "BaseException") = some true)
    (c5 : PySem.W.findIn K (.ref C) "__class__" = some (some (.builtin "object.__class__"))) (c6 : PySem.W.specialIn K (.builtin "object.__class__") "__get__" = some (some (.builtin "getset_descriptor.__get__"))) (c7 : PySem.W.takesIn K (.builtin "object.__class__") = some true) (c8 : PySem.W.mroIn K C (.type "object") = some true) : IsD K C := ⟨c1, c2, ⟨_, c3⟩, c4, c5, c6, c7, c8⟩
theorem cls_mk {K : PySem.W.Frag} {C : Addr} (a : PySem.W.plainGet K C Str.empty = true) (b : PySem.W.hasDictIn K C = true) (c : PySem.W.plainOver K C = true) (d : PySem.W.findIn K (.ref C) "__setattr__" = some (some (.builtin "object.__setattr__"))) : Cls K C := ⟨a, b, c, d⟩
theorem mk_mk {K : PySem.W.Frag} {C f : Addr} {x qual : Str} {st : Stmt} {oc : Value} {od an : Option Addr} {osl : Array (Option Value)} {kV doc pm cdv ct : Value} (m : PySem.W.makesIn K C = true) (i : PySem.W.findIn K (.ref C) "__init__" = some (some (.ref f))) (n : PySem.W.isFn K (.ref f) = true) (k : PySem.W.keepIn K (.ref C) = true)
    (l : K.lookup f = some ⟨oc, od, .func (PySem.W.fnOf x qual (defArgs st) (defBody st) (defScope st) .none kV doc pm an cdv ct), osl⟩) (c : PySem.W.codeIn K cdv qual = true) (kf : PySem.W.keepIn K (.ref f) = true) : ∃ f fd, Mk K C f ∧ Fun K x qual st f fd := ⟨f, _, ⟨m, i, n, k⟩, fun_mk l c kf⟩
theorem fsc_mk2 {K : PySem.W.Frag} {CS f Dk eT : Addr} {oc : Value} {od an : Option Addr} {osl : Array (Option Value)} {doc pm cdv ct : Value} {o : Obj} {t1 : Tok} {n : Nat} (m1 : PySem.W.makesIn K CS = true) (m2 : PySem.W.findIn K (.ref CS) "__init__" = some (some (.ref f))) (m3 : PySem.W.isFn K (.ref f) = true) (m4 : PySem.W.keepIn K (.ref CS) = true)
    (l : K.lookup f = some ⟨oc, od, .func (PySem.W.fnOf "__init__" "Scope.__init__" (defArgs sScopeInit) (defBody sScopeInit) (defScope sScopeInit) .none (.ref Dk) doc pm an cdv ct), osl⟩)
    (c : PySem.W.codeIn K cdv "Scope.__init__" = true) (k : PySem.W.keepIn K (.ref f) = true) (n1 : PySem.W.nsIn K Dk "in_house" = some (some (.bool false))) (n2 : PySem.W.nsIn K Dk "lets" = some (some (.ref eT))) (n3 : PySem.W.nsIn K Dk "most" = some (some (.int 0 t1)))
    (lT : K.lookup eT = some o) (oc2 : o.cls = .type "tuple") (oT : o.data = .seq #[] n) : FSc K CS := fsc_mk ⟨m1, m2, m3, m4⟩ l c k n1 n2 n3 lT oc2 oT
theorem ch_mk {K : PySem.W.Frag} {a t1 t2 t3 t4 c1 c2 c3 c4 : Addr} (z : PySem.W.nsIn K mainGlobals "CHOICE_LINES" = some (some (.ref a))) (x0 : ∀ H, SqT K H a [.ref t1, .ref t2, .ref t3, .ref t4]) (x1 : ∀ H, SqT K H t1 [.str "take", .ref c1, .str "any"]) (x2 : ∀ H, SqT K H t2 [.str "send", .ref c2, .str "many"]) (x3 : ∀ H, SqT K H t3 [.str "keep", .ref c3, .str "none"]) (x4 : ∀ H, SqT K H t4 [.str "back", .ref c4, .str "kept"])
    (y1 : ∀ H, SqT K H c1 ((["last", "rising"] : List Str).map V.str)) (y2 : ∀ H, SqT K H c2 ((["one", "latest", "queued", "resting"] : List Str).map V.str)) (y3 : ∀ H, SqT K H c3 ((["only", "both"] : List Str).map V.str)) (y4 : ∀ H, SqT K H c4 ((["redone"] : List Str).map V.str)) :
    ∃ (a t1 t2 t3 t4 c1 c2 c3 c4 : Addr), PySem.W.nsIn K mainGlobals "CHOICE_LINES" = some (some (.ref a)) ∧ (∀ H, SqT K H a [.ref t1, .ref t2, .ref t3, .ref t4]) ∧
    (∀ H, SqT K H t1 [.str "take", .ref c1, .str "any"]) ∧ (∀ H, SqT K H t2 [.str "send", .ref c2, .str "many"]) ∧ (∀ H, SqT K H t3 [.str "keep", .ref c3, .str "none"]) ∧ (∀ H, SqT K H t4 [.str "back", .ref c4, .str "kept"]) ∧
    (∀ H, SqT K H c1 ((["last", "rising"] : List Str).map V.str)) ∧ (∀ H, SqT K H c2 ((["one", "latest", "queued", "resting"] : List Str).map V.str)) ∧ (∀ H, SqT K H c3 ((["only", "both"] : List Str).map V.str)) ∧ (∀ H, SqT K H c4 ((["redone"] : List Str).map V.str)) := ⟨a, t1, t2, t3, t4, c1, c2, c3, c4, z, x0, x1, x2, x3, x4, y1, y2, y3, y4⟩
theorem t3_mk {K : PySem.W.Frag} {a c : Addr} {x y : Str} {o : Option Addr} {u1 u2 : Tok} {n : Nat} {sl : Array (Option Value)} (l : K.lookup a = some ⟨.type "tuple", o, .seq #[.str x u1, .ref c, .str y u2] n, sl⟩) : ∀ H, SqT K H a [.str x, .ref c, .str y] := sqt_mk l rfl rfl rfl (.cons ⟨_, rfl⟩ (.cons rfl (.cons ⟨_, rfl⟩ .nil)))
theorem t4_mk {K : PySem.W.Frag} {a c1 c2 c3 c4 : Addr} {o : Option Addr} {n : Nat} {sl : Array (Option Value)} (l : K.lookup a = some ⟨.type "tuple", o, .seq #[.ref c1, .ref c2, .ref c3, .ref c4] n, sl⟩) : ∀ H, SqT K H a [.ref c1, .ref c2, .ref c3, .ref c4] := sqt_mk l rfl rfl rfl (.cons rfl (.cons rfl (.cons rfl (.cons rfl .nil))))
theorem w1_mk {K : PySem.W.Frag} {a : Addr} {x1 : Str} {o : Option Addr} {u1 : Tok} {n : Nat} {sl : Array (Option Value)} (l : K.lookup a = some ⟨.type "tuple", o, .seq #[.str x1 u1] n, sl⟩) : ∀ H, SqT K H a (([x1] : List Str).map V.str) := sqt_mk l rfl rfl rfl (.cons ⟨_, rfl⟩ .nil)
theorem w2_mk {K : PySem.W.Frag} {a : Addr} {x1 x2 : Str} {o : Option Addr} {u1 u2 : Tok} {n : Nat} {sl : Array (Option Value)} (l : K.lookup a = some ⟨.type "tuple", o, .seq #[.str x1 u1, .str x2 u2] n, sl⟩) : ∀ H, SqT K H a (([x1, x2] : List Str).map V.str) := sqt_mk l rfl rfl rfl (.cons ⟨_, rfl⟩ (.cons ⟨_, rfl⟩ .nil))
theorem w4_mk {K : PySem.W.Frag} {a : Addr} {x1 x2 x3 x4 : Str} {o : Option Addr} {u1 u2 u3 u4 : Tok} {n : Nat} {sl : Array (Option Value)} (l : K.lookup a = some ⟨.type "tuple", o, .seq #[.str x1 u1, .str x2 u2, .str x3 u3, .str x4 u4] n, sl⟩) : ∀ H, SqT K H a (([x1, x2, x3, x4] : List Str).map V.str) := sqt_mk l rfl rfl rfl (.cons ⟨_, rfl⟩ (.cons ⟨_, rfl⟩ (.cons ⟨_, rfl⟩ (.cons ⟨_, rfl⟩ .nil))))
theorem int_mk {K : PySem.W.Frag} {a : Addr} {x : Str} {n : Int} {t : Tok} (h : PySem.W.nsIn K a x = some (some (.int n t))) : ∃ t, PySem.W.nsIn K a x = some (some (.int n t)) := ⟨t, h⟩
theorem str_mk {K : PySem.W.Frag} {a : Addr} {x n : Str} {t : Tok} (h : PySem.W.nsIn K a x = some (some (.str n t))) : ∃ t, PySem.W.nsIn K a x = some (some (.str n t)) := ⟨t, h⟩
theorem walk {l : PySem.W.OpenLaw} {q : Program} {loose : List Str} {XP : (Str → Option Value) → Heap → Prop} {YP : World → Heap → Prop} {d : DefRec} {K : Params → PySem.W.Frag} (hn : l.most = some 63) (hdf : d.params.defaults = [])
    (hY : ∀ (w : World) (h : Heap), YP w h → (K w.params).In h)
    (F : ∀ (w : World) (mg : Str → Option Value) (fa : Addr) (h : Heap), (K w.params).In h → h.Ns mainGlobals mg → mg d.name = some (.ref fa) →
      ∃ fd : FuncData, (∀ (s : Shared) (u : Value), BindsTo s fd ⟨[u], []⟩ [("_law_script", u)]) ∧ ∀ base : Heap, (K w.params).In base → base.Ns mainGlobals mg → FnOk l.prog w (K w.params) mg base CX0 26 fa fd ["_law_script"] (spLaw6 (K w.params))) :
    PySem.W.WalkO q loose XP YP l.row.toRowW d [] (fun f vs => PySem.call f vs) :=
  L2.walk_of (n := 63) (k := 26) (x := "_law_script") (CX := fun _ => CX0) (sp := fun w => spLaw6 (K w.params)) hn (by decide) hdf ⟨rfl, by decide, by decide⟩ hY F (fun _ _ a ns hl _ hS => ⟨a, ns, rfl, hS, hl, fun _ => rfl⟩) fun _ _ _ _ _ z => z
end K6

/-! text TH -/
set_option Elab.async false
open PySem PySem.W PyProof.Rows
set_option maxRecDepth 100000 in
set_option maxHeartbeats 0 in
theorem PySem.Challenge.cw_lastasked_k06_programs_at_their_bounds_holds : PySem.Challenge.rw_lastasked_k06_programs_at_their_bounds.Holds := by
  w_on; o_law; k_head; (case hw => w_witness2)
  k_fill
  refine K6.walk (l := PySem.Challenge.rw_lastasked_k06_programs_at_their_bounds) rfl rfl (fun w h Y => PySem.W.kIn_of Y) ?F
  case F =>
    intro w mg fa h KX G hmg
    refine' K6.all_of KX G (K6.Facts.mk ?gC ?gCB ?gCL ?gCS ?gCP ?clC ?clCS ?clCP ?nC_rows ?nC_at ?nCS_worths ?nCS_cells ?nCS_known ?nCS_asks ?nCS_in_house ?nCS_lets ?nCS_most ?nCP_text ?nCP_worths ?nCP_in_order ?nCP_house ?nCP_works ?nCP_firsts ?nCP_shows ?nCP_unsure ?nCP_takes ?nCP_sends ?nCP_keeps ?nCP_backs ?nCP_hands ?nCP_handlers ?nCP_over ?nCP_asks ?nCP_cells ?nCP_deeds ?nCP_choices ?nCP_keeping ?nCP_redone ?fis_name ?fread_worth ?fread_new_name ?fread_value ?fread_write ?fread_ending ?fread_short ?fread_guess ?fread_ask ?fread_statement ?fread_if ?fread_first_line ?fread_line ?fread_cells ?fread_house_asks ?fread_shows ?fread_unsure ?fread_choices ?fread_choices_of ?fread_deeds ?fread_handlers ?fread_screen_handlers ?f_law_pot ?f_law_take ?f_law_of ?f_law_caught ?f_law_is_at ?f_law_house_rows ?f_law_screen_rows ?f_law_deed_rows ?f_law_hopes_right ?f_law_right ?flaw ?mCwords ?mCbegins ?mCstep ?mCneed ?mCP_read_house ?mCP_read_screen ?fb ?fs ?mkC ?mkP ?zlen ?zall ?zint ?ztuple ?zmax ?zmin ?zrange ?zlist ?zisinstance ?zstr ?zsum ?zabs ?zValueError ?iMOST_STATEMENTS ?iMOST_IFS ?iMOST_UNSURE ?iMOST_ASKS ?iMOST_CELLS ?iMOST_HOUSE_CELLS ?iMOST_DEEDS ?iMOST_ASKS_OF_DEED ?iMOST_ASKS_OF_OTHERS ?iLETTERS ?iDIGITS ?gw ?ch ?low ?isD ?ex ?k1 ?k2) hmg
    (case gC => k_is)
    (case gCB => k_is)
    (case gCL => k_is)
    (case gCS => k_is)
    (case gCP => k_is)
    (case clC => refine' K6.cls_mk ?a ?b ?c ?d; (case a => k_is); (case b => k_is); (case c => k_is); (case d => k_is))
    (case clCS => refine' K6.cls_mk ?a ?b ?c ?d; (case a => k_is); (case b => k_is); (case c => k_is); (case d => k_is))
    (case clCP => refine' K6.cls_mk ?a ?b ?c ?d; (case a => k_is); (case b => k_is); (case c => k_is); (case d => k_is))
    (case nC_rows => show PySem.W.findIn _ _ _ = _; k_is)
    (case nC_at => show PySem.W.findIn _ _ _ = _; k_is)
    (case nCS_worths => show PySem.W.findIn _ _ _ = _; k_is)
    (case nCS_cells => show PySem.W.findIn _ _ _ = _; k_is)
    (case nCS_known => show PySem.W.findIn _ _ _ = _; k_is)
    (case nCS_asks => show PySem.W.findIn _ _ _ = _; k_is)
    (case nCS_in_house => show PySem.W.findIn _ _ _ = _; k_is)
    (case nCS_lets => show PySem.W.findIn _ _ _ = _; k_is)
    (case nCS_most => show PySem.W.findIn _ _ _ = _; k_is)
    (case nCP_text => show PySem.W.findIn _ _ _ = _; k_is)
    (case nCP_worths => show PySem.W.findIn _ _ _ = _; k_is)
    (case nCP_in_order => show PySem.W.findIn _ _ _ = _; k_is)
    (case nCP_house => show PySem.W.findIn _ _ _ = _; k_is)
    (case nCP_works => show PySem.W.findIn _ _ _ = _; k_is)
    (case nCP_firsts => show PySem.W.findIn _ _ _ = _; k_is)
    (case nCP_shows => show PySem.W.findIn _ _ _ = _; k_is)
    (case nCP_unsure => show PySem.W.findIn _ _ _ = _; k_is)
    (case nCP_takes => show PySem.W.findIn _ _ _ = _; k_is)
    (case nCP_sends => show PySem.W.findIn _ _ _ = _; k_is)
    (case nCP_keeps => show PySem.W.findIn _ _ _ = _; k_is)
    (case nCP_backs => show PySem.W.findIn _ _ _ = _; k_is)
    (case nCP_hands => show PySem.W.findIn _ _ _ = _; k_is)
    (case nCP_handlers => show PySem.W.findIn _ _ _ = _; k_is)
    (case nCP_over => show PySem.W.findIn _ _ _ = _; k_is)
    (case nCP_asks => show PySem.W.findIn _ _ _ = _; k_is)
    (case nCP_cells => show PySem.W.findIn _ _ _ = _; k_is)
    (case nCP_deeds => show PySem.W.findIn _ _ _ = _; k_is)
    (case nCP_choices => show PySem.W.findIn _ _ _ = _; k_is)
    (case nCP_keeping => show PySem.W.findIn _ _ _ = _; k_is)
    (case nCP_redone => show PySem.W.findIn _ _ _ = _; k_is)
    (case fis_name => refine' K6.fa_mk ?a ?l ?c ?k; (case a => k_is); (case l => k_is); (case c => k_is); (case k => k_is))
    (case fread_worth => refine' K6.fa_mk ?a ?l ?c ?k; (case a => k_is); (case l => k_is); (case c => k_is); (case k => k_is))
    (case fread_new_name => refine' K6.fa_mk ?a ?l ?c ?k; (case a => k_is); (case l => k_is); (case c => k_is); (case k => k_is))
    (case fread_value => refine' K6.fa_mk ?a ?l ?c ?k; (case a => k_is); (case l => k_is); (case c => k_is); (case k => k_is))
    (case fread_write => refine' K6.fa_mk ?a ?l ?c ?k; (case a => k_is); (case l => k_is); (case c => k_is); (case k => k_is))
    (case fread_ending => refine' K6.fa_mk ?a ?l ?c ?k; (case a => k_is); (case l => k_is); (case c => k_is); (case k => k_is))
    (case fread_short => refine' K6.fa_mk ?a ?l ?c ?k; (case a => k_is); (case l => k_is); (case c => k_is); (case k => k_is))
    (case fread_guess => refine' K6.fa_mk ?a ?l ?c ?k; (case a => k_is); (case l => k_is); (case c => k_is); (case k => k_is))
    (case fread_ask => refine' K6.fa_mk ?a ?l ?c ?k; (case a => k_is); (case l => k_is); (case c => k_is); (case k => k_is))
    (case fread_statement => refine' K6.fa_mk ?a ?l ?c ?k; (case a => k_is); (case l => k_is); (case c => k_is); (case k => k_is))
    (case fread_if => refine' K6.fa_mk ?a ?l ?c ?k; (case a => k_is); (case l => k_is); (case c => k_is); (case k => k_is))
    (case fread_first_line => refine' K6.fa_mk ?a ?l ?c ?k; (case a => k_is); (case l => k_is); (case c => k_is); (case k => k_is))
    (case fread_line => refine' K6.fa_mk ?a ?l ?c ?k; (case a => k_is); (case l => k_is); (case c => k_is); (case k => k_is))
    (case fread_cells => refine' K6.fa_mk ?a ?l ?c ?k; (case a => k_is); (case l => k_is); (case c => k_is); (case k => k_is))
    (case fread_house_asks => refine' K6.fa_mk ?a ?l ?c ?k; (case a => k_is); (case l => k_is); (case c => k_is); (case k => k_is))
    (case fread_shows => refine' K6.fa_mk ?a ?l ?c ?k; (case a => k_is); (case l => k_is); (case c => k_is); (case k => k_is))
    (case fread_unsure => refine' K6.fa_mk ?a ?l ?c ?k; (case a => k_is); (case l => k_is); (case c => k_is); (case k => k_is))
    (case fread_choices => refine' K6.fa_mk ?a ?l ?c ?k; (case a => k_is); (case l => k_is); (case c => k_is); (case k => k_is))
    (case fread_choices_of => refine' K6.fa_mk ?a ?l ?c ?k; (case a => k_is); (case l => k_is); (case c => k_is); (case k => k_is))
    (case fread_deeds => refine' K6.fa_mk ?a ?l ?c ?k; (case a => k_is); (case l => k_is); (case c => k_is); (case k => k_is))
    (case fread_handlers => refine' K6.fa_mk ?a ?l ?c ?k; (case a => k_is); (case l => k_is); (case c => k_is); (case k => k_is))
    (case fread_screen_handlers => refine' K6.fa_mk ?a ?l ?c ?k; (case a => k_is); (case l => k_is); (case c => k_is); (case k => k_is))
    (case f_law_pot => refine' K6.fa_mk ?a ?l ?c ?k; (case a => k_is); (case l => k_is); (case c => k_is); (case k => k_is))
    (case f_law_take => refine' K6.fa_mk ?a ?l ?c ?k; (case a => k_is); (case l => k_is); (case c => k_is); (case k => k_is))
    (case f_law_of => refine' K6.fa_mk ?a ?l ?c ?k; (case a => k_is); (case l => k_is); (case c => k_is); (case k => k_is))
    (case f_law_caught => refine' K6.fa_mk ?a ?l ?c ?k; (case a => k_is); (case l => k_is); (case c => k_is); (case k => k_is))
    (case f_law_is_at => refine' K6.fa_mk ?a ?l ?c ?k; (case a => k_is); (case l => k_is); (case c => k_is); (case k => k_is))
    (case f_law_house_rows => refine' K6.fa_mk ?a ?l ?c ?k; (case a => k_is); (case l => k_is); (case c => k_is); (case k => k_is))
    (case f_law_screen_rows => refine' K6.fa_mk ?a ?l ?c ?k; (case a => k_is); (case l => k_is); (case c => k_is); (case k => k_is))
    (case f_law_deed_rows => refine' K6.fa_mk ?a ?l ?c ?k; (case a => k_is); (case l => k_is); (case c => k_is); (case k => k_is))
    (case f_law_hopes_right => refine' K6.fa_mk ?a ?l ?c ?k; (case a => k_is); (case l => k_is); (case c => k_is); (case k => k_is))
    (case f_law_right => refine' K6.fa_mk ?a ?l ?c ?k; (case a => k_is); (case l => k_is); (case c => k_is); (case k => k_is))
    (case flaw => refine' K6.fa_mk ?a ?l ?c ?k; (case a => k_is); (case l => k_is); (case c => k_is); (case k => k_is))
    (case mCwords => refine' K6.me_mk ?a ?i ?l ?c ?k; (case a => k_is); (case i => k_is); (case l => k_is); (case c => k_is); (case k => k_is))
    (case mCbegins => refine' K6.me_mk ?a ?i ?l ?c ?k; (case a => k_is); (case i => k_is); (case l => k_is); (case c => k_is); (case k => k_is))
    (case mCstep => refine' K6.me_mk ?a ?i ?l ?c ?k; (case a => k_is); (case i => k_is); (case l => k_is); (case c => k_is); (case k => k_is))
    (case mCneed => refine' K6.me_mk ?a ?i ?l ?c ?k; (case a => k_is); (case i => k_is); (case l => k_is); (case c => k_is); (case k => k_is))
    (case mCP_read_house => refine' K6.me_mk ?a ?i ?l ?c ?k; (case a => k_is); (case i => k_is); (case l => k_is); (case c => k_is); (case k => k_is))
    (case mCP_read_screen => refine' K6.me_mk ?a ?i ?l ?c ?k; (case a => k_is); (case i => k_is); (case l => k_is); (case c => k_is); (case k => k_is))
    (case fb => refine' K6.fbk_mk ?a ?l ?c ?k ?t ?o; (case a => k_is); (case l => k_is); (case c => k_is); (case k => k_is); (case t => k_is); (case o => exact rfl))
    (case fs => refine' K6.fsc_mk2 ?m1 ?m2 ?m3 ?m4 ?l ?c ?k ?n1 ?n2 ?n3 ?t ?o ?oq; (case m1 => k_is); (case m2 => k_is); (case m3 => k_is); (case m4 => k_is); (case l => k_is); (case c => k_is); (case k => k_is); (case n1 => k_is); (case n2 => k_is); (case n3 => k_is); (case t => k_is); (case o => exact rfl); (case oq => exact rfl))
    (case mkC => refine' K6.mk_mk ?m ?i ?n ?k ?l ?c ?kf; (case m => k_is); (case i => k_is); (case n => k_is); (case k => k_is); (case l => k_is); (case c => k_is); (case kf => k_is))
    (case mkP => refine' K6.mk_mk ?m ?i ?n ?k ?l ?c ?kf; (case m => k_is); (case i => k_is); (case n => k_is); (case k => k_is); (case l => k_is); (case c => k_is); (case kf => k_is))
    (case zlen => k_is)
    (case zall => k_is)
    (case zint => k_is)
    (case ztuple => k_is)
    (case zmax => k_is)
    (case zmin => k_is)
    (case zrange => k_is)
    (case zlist => k_is)
    (case zisinstance => k_is)
    (case zstr => k_is)
    (case zsum => k_is)
    (case zabs => k_is)
    (case zValueError => k_is)
    (case iMOST_STATEMENTS => refine' K6.int_mk ?e; (case e => k_is))
    (case iMOST_IFS => refine' K6.int_mk ?e; (case e => k_is))
    (case iMOST_UNSURE => refine' K6.int_mk ?e; (case e => k_is))
    (case iMOST_ASKS => refine' K6.int_mk ?e; (case e => k_is))
    (case iMOST_CELLS => refine' K6.int_mk ?e; (case e => k_is))
    (case iMOST_HOUSE_CELLS => refine' K6.int_mk ?e; (case e => k_is))
    (case iMOST_DEEDS => refine' K6.int_mk ?e; (case e => k_is))
    (case iMOST_ASKS_OF_DEED => refine' K6.int_mk ?e; (case e => k_is))
    (case iMOST_ASKS_OF_OTHERS => refine' K6.int_mk ?e; (case e => k_is))
    (case iLETTERS => refine' K6.str_mk ?e; (case e => k_is))
    (case iDIGITS => refine' K6.str_mk ?e; (case e => k_is))
    (case gw => refine' K6.gw_mk ?a ?l ?e1 ?e2 ?hd; (case a => k_is); (case l => k_is); (case e1 => exact rfl); (case e2 => exact rfl); (case hd => exact rfl))
    (case ch => refine' K6.ch_mk ?z (K6.t4_mk ?l0) (K6.t3_mk ?l1) (K6.t3_mk ?l2) (K6.t3_mk ?l3) (K6.t3_mk ?l4) (K6.w2_mk ?m1) (K6.w4_mk ?m2) (K6.w2_mk ?m3) (K6.w1_mk ?m4); (case z => k_is); (case l0 => k_is); (case l1 => k_is); (case l2 => k_is); (case l3 => k_is); (case l4 => k_is); (case m1 => k_is); (case m2 => k_is); (case m3 => k_is); (case m4 => k_is))
    (case low => refine' K6.low_mk ?aC ?xL ?sa ?ga ?gg ?nb ?a1 ?t1 ?l1 ?c1 ?kC ?eC ?tC ?hC ?iC ?sC; (case aC => k_is); (case xL => k_is); (case sa => k_is); (case ga => k_is); (case gg => k_is); (case nb => k_is); (case a1 => k_is); (case t1 => k_is); (case l1 => k_is); (case c1 => k_is); (case kC => k_is); (case eC => k_is); (case tC => k_is); (case hC => k_is); (case iC => k_is); (case sC => k_is))
    (case isD => refine' K6.isD_mk ?c1 ?c2 ?c3 ?c4 ?c5 ?c6 ?c7 ?c8; (case c1 => k_is); (case c2 => k_is); (case c3 => k_is); (case c4 => k_is); (case c5 => k_is); (case c6 => k_is); (case c7 => k_is); (case c8 => k_is))
    (case ex => refine' K6.exm_two ?h1 ?h2 ?h3 ?h4; (case h1 => k_is); (case h2 => k_is); (case h3 => k_is); (case h4 => k_is))
    (case k1 => exact K6.kit_self)
    (case k2 => kit_is)
