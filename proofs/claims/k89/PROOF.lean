import PyProof.Rows.All
import Wide.All
import OpenK.AllK
import Wide.FinOn
import PyProof.EqAt
import PyProof.EqKinds
import PyProof.TupleCall
import KE.OsGo
import KE.KxIndex
import HandS.ForMost
import HandS.ForExc
import HandS.More
import HandS.RaiseMore
import PyProof.ReprRoads
import HandS.Ends
import HandS.Exc
import HandS.ExcOwn
import HandS.ExcField
import HandS.IsInst
import KE.KExcIs
import HandS.Text
import HandS.Words
import HandS.WordsList
import HandS.WordsExc
import KE.GoesEnumKw
import HandS.Comp
import HandS.Walk
import HandS.Deep
import KE.RegKIsAll
import PySem.Challenge.RW_lastasked_k89_texts_that_are_no_stories
/-! text LB -/
set_option Elab.async false
set_option linter.all false
set_option maxRecDepth 100000
set_option maxHeartbeats 4000000
namespace PySem
namespace LowX
open PySem.W PySem.Calls PyProof.Rows PySem.HandSPX
/-! ### the text of __init__ -/
def iA (p1 p2 : Pos) : Arguments := { posonlyargs := [], args := [{ arg := "self", annotation := none, pos := p1 }, { arg := "line", annotation := none, pos := p2 }], vararg := none, kwonlyargs := [], kw_defaults := [], kwarg := none, defaults := [] }
def iB (q1 q2 q3 q4 : Pos) : List Stmt := [.Assign [.Attribute (.Name "self" q1) "line" q2] (.Name "line" q3) q4]
def iS : Scope := { kind := .function, names := [(PySem.Str.ofString "self", .local), (PySem.Str.ofString "line", .local)], isGenerator := false, isCoroutine := false, more := [] }
/-- what the written part says of Low, at C, and of its __init__, at fI -/
structure LowTxt (K : Frag) (mg : Str → Option Value) (C fI : Addr) : Prop where
  gC : mg "BadText" = some (.ref C)
  cls : ∃ nm q N bs bm sn sub ab col dd k0 k1 k2 k3 k5, K.lookup C = some (excClassObj nm q C N bs bm true sn sub ab col dd k0 k1 k2 k3 k5 "ValueError.__new__") ∧ refsVE bm = true
  sa : findIn K (.ref C) "__setattr__" = some (some (.builtin "object.__setattr__"))
  ga : findIn K (.ref C) "__getattribute__" = some (some (.builtin "BaseException.__getattribute__"))
  gg : findIn K (.ref C) "__getattr__" = some none
  noN : findIn K (.ref C) "line" = some none
  iC : findIn K (.ref C) "__init__" = some (some (.ref fI))
  tC : typeIn K (.ref fI) = some (.type "function")
  kC : keepIn K (.ref C) = true
  exC : subIn K (.ref C) (.type "BaseException") = some true
  tyC : typeIn K (.ref C) = some (.type "type")
  hdC : hasDictIn K C = true
  te : exmOne K (.ref C) (.ref C) = some true
  fn : ∃ (oc : Value) (od : Option Addr) (doc pm : Value) (an : Option Addr) (cdv ct : Value) (osl : Array (Option Value)) (p1 p2 q1 q2 q3 q4 : Pos),
    K.lookup fI = some ⟨oc, od, .func (fnOf "__init__" "BadText.__init__" (iA p1 p2) (iB q1 q2 q3 q4) iS .none .none doc pm an cdv ct), osl⟩ ∧ codeIn K cdv "BadText.__init__" = true
theorem one_size (v : Value) : [v].length ≤ sizeLine := by
  rw [sizeLine_eq]
  exact (by decide : 1 ≤ 16777216)
theorem kept_but {K : Frag} {h h' : Heap} {x : Addr} (X : K.In h) (hx : K.lookup x = none) (k : ∀ b o, b ≠ x → h.get? b = some o → h'.get? b = some o) : K.In h' := fun a o e =>
  k a o (fun z => by rw [z, hx] at e; cases e) (X a o e)
theorem ldC {M : Model} {s : Shared} {name : Str} {scope : Scope} {L a : Addr} {cd : Value} {m : Str → Option Value} {x : Str} {pos : Pos} {v : Value} {Q : Value → Shared → Prop} {A : Around} {E : Value → Shared → Prop} (hn : s.heap.Ns L m) (hv : m x = some v) (h : Q v s)
    (hk : scope.kind = .function := by rfl) (hl : (envOfC name scope L a cd).kindOf x = some .local := by rfl) (hd : (x == ("__debug__" : Str)) = false := by decide) :
    wpAny M A (eval (.Name x pos) (envOfC name scope L a cd)) Q E s := wpAny_Name (wpAny_loadName_local hk hl hn hv h) hd
/-- what __init__ leaves of a fresh exception at x -/
structure InitEnd (h h' : Heap) (x C dx t1 : Addr) (v : Value) : Prop where
  keep : ∀ b o, b ≠ x → h.get? b = some o → h'.get? b = some o
  obj : h'.get? x = some { cls := .ref C, dict := some dx, data := .fields #[.ref t1, .none, .none, .none, .bool false, .none] }
  dbig : h.objs.size ≤ dx
  dne : dx ≠ x
  ns : h'.Ns1 dx (fun y => if y = "line" then some v else none)
/-- a made Low -/
structure OwnMade (h h' : Heap) (e C d : Addr) (v : Value) : Prop where
  keep : ∀ b o, h.get? b = some o → h'.get? b = some o
  new : h.objs.size ≤ e
  obj : ∃ oe vs, h'.get? e = some oe ∧ oe.cls = .ref C ∧ oe.dict = some d ∧ oe.data = .fields vs ∧ vs[1]? = some .none
  dbig : h.objs.size ≤ d
  dne : d ≠ e
  ns : h'.Ns1 d (fun y => if y = "line" then some v else none)
section
variable {prog : Program} {w : World} {A : Around} {E : Value → Shared → Prop} {R : Result → Shared → Prop} {s : Shared} {K : Frag} {mg : Str → Option Value} {C fI : Addr}
theorem low_init (T : LowTxt K mg C fI) {x t0 : Addr} {v : Value} (X : K.In s.heap) (hlim : s.heap.NoLimit) (hx : s.heap.get? x = some (excO C t0)) (hnx : K.lookup x = none) (hroom : A.depth < recursionLimit)
    (hq : ∀ h' tk dx, InitEnd s.heap h' x C dx t0 v → R (.ok (.ret .none)) { s with heap := h', toks := tk }) :
    codeAny (model prog w) A (.call (.ref fI) ⟨[.ref x, v], []⟩) R s := by
  obtain ⟨oc, od, doc, pm, an, cdv, ct, osl, p1, p2, q1, q2, q3, q4, ho, hcd⟩ := T.fn
  obtain ⟨nm, q, N, bs, bm, sn, sub, ab, col, dd, k0, k1, k2, k3, k5, hC, hbm⟩ := T.cls
  have hcl : clsIn K C = some { name := nm, bases := bs, mro := .ref C :: bm, ns := N, qualname := q, hasDict := true, slotNames := sn, subclasses := sub, abstract := ab, collection := col, hasDel := false } := by unfold clsIn; rw [hC] <;> rfl
  refine Att.call_fn (binds := [("self", .ref x), ("line", v)]) X hlim ho hcd hroom (BindsTo.of_eq (by first | rfl | with_unfolding_all rfl)) (by first | rfl | decide | with_unfolding_all rfl) (fun s₁ IC => ?_) rfl rfl rfl
  obtain ⟨h₁, tk₁, rfl⟩ := IC.toInCall.same
  have k : ∀ b o, s.heap.get? b = some o → h₁.get? b = some o := IC.toInCall.keep
  have hn := IC.toInCall.ns
  have hxL : s.heap.objs.size ≠ x := Nat.ne_of_gt (Heap.lt_size hx)
  have X₁ : K.In h₁ := X.keeps k
  have hx₁ := k _ _ hx
  -- self.by = by
  show wpAny _ _ (execs _ _) _ _ _
  refine wpAny_execs_cons (plainObj_wpAny_Assign_Attribute ?_)
  refine ldC (v := v) hn (by first | rfl | with_unfolding_all rfl | kernel_rfl) (ldC (v := .ref x) hn (by first | rfl | with_unfolding_all rfl | kernel_rfl) ?_)
  refine set_plain X₁ (ox := excO C t0) (od := none) ⟨hx₁, rfl, rfl, trivial⟩ T.sa ?_
  refine exc_osa X₁ hx₁ hcl (show refsVE (.ref C :: bm) = true from hbm) rfl T.noN (fun h₃ tk₃ dx k₃ dn dne hx₃ hn₃ => ?_)
  show wpAny _ _ (execs _ _) _ _ _
  have z : s.heap.objs.size < h₁.objs.size := hn.lt
  exact wpAny_execs_nil (hq h₃ tk₃ dx ⟨fun b o hb e => k₃ b o hb (k b o e), hx₃, Nat.le_of_lt (Nat.lt_of_lt_of_le z dn), dne, hn₃⟩)
theorem low_made (T : LowTxt K mg C fI) {v : Value} (X : K.In s.heap) (hlim : s.heap.NoLimit) (hroom : A.depth + 1 < recursionLimit)
    (hq : ∀ h' tk e d, OwnMade s.heap h' e C d v → R (.ok (.ret (.ref e))) { s with heap := h', toks := tk }) :
    codeAny (model prog w) A (.call (.ref C) ⟨[v], []⟩) R s := by
  obtain ⟨nm, q, N, bs, bm, sn, sub, ab, col, dd, k0, k1, k2, k3, k5, hC, hbm⟩ := T.cls
  obtain ⟨hp, g, dr, tk, os⟩ := s
  have k : ∀ b o, hp.get? b = some o → ((hp.push (kdv_tup [v])).push (excO C hp.objs.size)).get? b = some o := fun b o e => Heap.get?_push_of_some _ (Heap.get?_push_of_some _ e)
  have hget : ((hp.push (kdv_tup [v])).push (excO C hp.objs.size)).get? (hp.objs.size + 1) = some (excO C hp.objs.size) := by heap_get
  have hnx : K.lookup (hp.objs.size + 1) = none := by
    cases e : K.lookup (hp.objs.size + 1) with
    | none => rfl
    | some o =>
      have z : hp.get? (hp.objs.size + 1) = some o := X _ _ e
      exact absurd (Nat.lt_of_succ_lt (Heap.lt_size z)) (Nat.lt_irrefl _)
  refine call_own F.excBase_ValueError (fun X => refsVE_contains X bm hbm) (X _ _ hC) (looks_findIn X T.iC) (fun self => bind_fn X self T.tC) (one_size v) ?_
  refine low_init (s := ⟨(hp.push (kdv_tup [v])).push (excO C hp.objs.size), g, dr, tk, os⟩) T (X.keeps k) (hlim.keeps k) hget hnx ?_ fun h' tk' dx ⟨k', hx, dn, dne, hns⟩ => ?_
  · show A.depth + 1 < recursionLimit
    exact hroom
  · have old : ∀ b o, hp.get? b = some o → h'.get? b = some o := fun b o e => k' b o (Nat.ne_of_lt (Nat.lt_succ_of_lt (Heap.lt_size e))) (k b o e)
    have z : hp.objs.size + 1 + 1 ≤ dx := by
      first
        | (simpa only [Heap.size_push] using dn)
        | exact dn
        | (have q := dn; rw [Heap.size_push, Heap.size_push] at q; exact q)
    exact ⟨rfl, hq h' tk' (hp.objs.size + 1) dx ⟨old, Nat.le_succ _, ⟨_, _, hx, rfl, rfl, rfl, rfl⟩, Nat.le_trans (Nat.le_trans (Nat.le_succ _) (Nat.le_succ _)) z, dne, hns⟩⟩
end
end LowX
end PySem
namespace L2
open PySem PySem.Spec PyProof.Rows
theorem relO_bad {v : V} {v' : Value} (r : RelV v v') (f : Str) : RelO (List.lookup f [(("line" : Str), v)]) (if f = "line" then some v' else none) := by
  by_cases hw : f = "line"
  · subst hw
    rw [if_pos rfl]
    have q : List.lookup ("line" : Str) [(("line" : Str), v)] = some v := by simp [List.lookup]
    rw [q]
    exact r
  · rw [if_neg hw]
    have qw : (f == ("line" : Str)) = false := by simpa using hw
    have q2 : List.lookup f [(("line" : Str), v)] = none := by simp [List.lookup, qw]
    rw [q2]
    trivial
section
variable {X : Cx} {C fI : Addr}
/-- Low(e) -/
def tMkLow (C : Addr) (ta : TA) : St → Hp → XK → Prop := fun σ H Q => ta σ H fun vs H1 => ∃ v, vs = [v] ∧ ∀ d, H1 d = none → Q (.ref C) (some d) (upd H1 d (.xd [(("line" : Str), v)]))
theorem pmk_low {a : Expr} {ta : TA} {p pos : Pos} {k : Nat} (T : PySem.LowX.LowTxt X.K X.mg C fI) (hr : Room k X.A) (ha : PA X [a] ta) (hg : Gl X "BadText" := by rfl)
    (he : starEach (a :: []) X.env = (false, eval a X.env) :: starEach [] X.env := by rfl) (hpl : (backTo pos (starEach [] X.env)).any (·.1) = false := by rfl) :
    PMk X (.Call (.Name "BadText" p) [a] [] pos) (tMkLow C ta) := by
  intro pins s σ H Q I h
  refine wpAny_Call_Name_kw (ld_glob I hg T.gC ?_)
  refine PySem.W.callWith_K (h₀ := X.base) I.ok.mod.kin T.kC (thn (ha.run pos pins s σ H _ I h) fun us s1 hh => ?_) he hpl
  obtain ⟨vs, H1, I1, r1, v, ev, q1⟩ := hh
  subst ev
  refine ⟨I1.kIn, ?_⟩
  cases r1 with
  | cons rv rn =>
    rename_i v' us'
    cases rn
    show wpAny _ _ (call (.ref C) [v']) _ _ _
    have hlim := I1.nolimit
    obtain ⟨hp, g, dr, tk, os⟩ := s1
    refine wpAny_call (PySem.LowX.low_made T I1.kIn hlim (by have := hr.dp; omega) fun h' tk' e d M => ?_)
    show MkP X pins σ Q (.ref e) ⟨h', g, dr, tk', os⟩
    obtain ⟨oe, fv, hoe, hc, hd, hdat, h1⟩ := M.obj
    have hns := M.ns
    obtain ⟨G', g1, g2⟩ := restrict h' fun b => decide (b ≠ e)
    have gk : ∀ b, b ≠ e → G'.get? b = h'.get? b := fun b hb => g1 b (decide_eq_true hb)
    have ge : G'.get? e = none := g2 e (by simp)
    have old : ∀ b o, hp.get? b = some o → G'.get? b = some o := fun b o q => (gk b (Nat.ne_of_lt (Nat.lt_of_lt_of_le (Heap.lt_size q) M.new))).trans (M.keep b o q)
    have ob : ObjOk X.prog X.w (upd H1 d (.xd [(("line" : Str), v)])) G' d (.xd [(("line" : Str), v)]) :=
      ⟨_, hns.at (fun o q => (gk d M.dne).trans q), fun f => relO_bad rv f⟩
    have J : Inv X pins σ (upd H1 d (.xd [(("line" : Str), v)])) ⟨G', g, dr, tk', os⟩ := I1.laid (t' := tk') old M.dbig ob
    refine ⟨e, oe, fv, ⟨G', g, dr, tk', os⟩, _, .ref C, some d, rfl, J, fun b o q => ?_, ge, hoe, ⟨hc, hd⟩, hdat, h1, ?_, rfl, I1.bare, raises_own T.exC T.tyC, q1 d (I1.hok.fresh M.dbig)⟩
    · by_cases hb : b = e
      · have q' : G'.get? b = some o := q
        rw [hb, ge] at q'; cases q'
      · exact (gk b hb).symm.trans q
    · rw [upd_ne (Ne.symm M.dne)]
      exact I1.hok.fresh M.new
/-- raise Low(e) -/
def tRaiseLow (C : Addr) (W : WX) (ta : TA) : TS := fun _ σ H => tMkLow C ta σ H fun cls d H' => W cls d σ H'
theorem ps_raiseLow {a : Expr} {ta : TA} {W : WX} {p pos pos2 : Pos} {k : Nat} (hc : X.calm = true) (T : PySem.LowX.LowTxt X.K X.mg C fI) (hr : Room k X.A) (tk : Takes X W) (ha : PA X [a] ta) (hg : Gl X "BadText" := by rfl)
    (he : starEach (a :: []) X.env = (false, eval a X.env) :: starEach [] X.env := by rfl) (hpl : (backTo pos (starEach [] X.env)).any (·.1) = false := by rfl) :
    PS X (.Raise (some (.Call (.Name "BadText" p) [a] [] pos)) none pos2) (tRaiseLow C W ta) := ps_raise hc tk (pmk_low T hr ha hg he hpl)
/-- low.by, low the exception that the suite holds (at a; its class cls, its dict d) -/
def tByLow (C : Addr) (a : Addr) (cls : Value) (d : Option Addr) (te : TE) : TE := fun σ H Q => te σ H fun x H1 => x = .ref a ∧ cls = .ref C ∧ ∃ (dd : Addr) (v : V), d = some dd ∧ H1 dd = some (.xd [(("line" : Str), v)]) ∧ Q v H1
theorem pe_byLow {a : Addr} {oe : Obj} {cls : Value} {d : Option Addr} {pn : List (Addr × Obj)} {e : Expr} {te : TE} {pos : Pos} (T : PySem.LowX.LowTxt X.K X.mg C fI) (hz : Zc cls d oe) (hf : ∃ vs, oe.data = .fields vs) (he : PE (X.suite a ((a, oe) :: pn)) e te)
    (hb : attributeBase e "line" X.env (eval e X.env) = eval e X.env := by rfl) :
    PE (X.suite a ((a, oe) :: pn)) (.Attribute e "line" pos) (tByLow C a cls d te) := by
  refine ⟨fun pins s σ H Q I h => ?_⟩
  refine attr_of hb (thn (he.run pins s σ H _ I h) fun u s1 hh => ?_)
  obtain ⟨x, H1, I1, rx, ex, ec, dd, v, ed, ea, q⟩ := hh
  subst ex
  obtain rfl : u = Value.ref a := rx
  subst ec
  subst ed
  obtain ⟨ha, _⟩ := I1.pin (a, oe) (List.mem_append_left _ List.mem_cons_self)
  obtain ⟨vs, hd⟩ := hf
  have hx : ObjOk X.prog X.w H1 s1.heap dd (.xd [(("line" : Str), v)]) := I1.hok dd _ ea
  obtain ⟨mA, hns, hr⟩ := hx
  obtain ⟨od, ho, hl⟩ := lookIn_ns hns
  have l : List.lookup ("line" : Str) [(("line" : Str), v)] = some v := by simp [List.lookup]
  obtain ⟨u, hu, ru⟩ := RelO.some_of (v := v) (o := mA "line") (by rw [← l]; exact hr "line")
  have J : PySem.W.InstAt s1.heap a oe C (some od) := ⟨ha, hz.1, by unfold PySem.W.notCls; rw [hd] <;> rfl, by rw [hz.2]; exact ho⟩
  exact HandSPX.exc_get I1.kIn J T.ga T.gg T.exC (PySem.W.findObj_own T.hdC T.noN rfl (by rw [hl, hu])) (handed_of ru) ⟨v, H1, I1.tok _, ru, q⟩
end
end L2

namespace L2
open PySem PySem.Spec PyProof.Rows
/-- an if whose test is known -/
theorem if_true_of {c : Bool} {A B : Prop} (hc : c = true) (h : A) : if c = true then A else B := by
  rw [if_pos hc]
  exact h
theorem if_false_of {c : Bool} {A B : Prop} (hc : c = false) (h : B) : if c = true then A else B := by
  rw [hc, if_neg Bool.false_ne_true]
  exact h
end L2

namespace L2
open PySem PySem.Spec PyProof.Rows
/-- "..." * n, a short text and a small number -/
theorem op_mul_str {X : Cx} : OpR X (binaryOp .Mult) (fun x y H Q => ∃ (i : Str) (j : Int), x = .str i ∧ y = .int j ∧ i.length ≤ 16 ∧ 0 ≤ j ∧ j ≤ 1000 ∧ Q (.str (Txt.mul i j)) H) := by
  intro pins s σ H x y v u Q I rx ry h
  obtain ⟨i, j, rfl, rfl, hi, h0, h1, q⟩ := h
  obtain ⟨t, rfl⟩ := rx
  obtain ⟨t', rfl⟩ := ry
  refine PySem.W.KXi.mul rfl hi (by omega) (by omega) fun t' k _ _ => ⟨.str (Txt.mul i j), H, I.tok _, ⟨_, rfl⟩, q⟩
end L2

/-! text RG -/
set_option Elab.async false
set_option linter.all false
set_option maxRecDepth 100000
set_option maxHeartbeats 4000000
namespace K6
open PySem PySem.Spec PyProof.Rows L2
/-! ### a def's promise where no repr is under way -/
section
variable {P : Program} {w : World} {K : PySem.W.Frag} {mg : Str → Option Value} {base : Heap} {CX : CXT} {k j : Nat} {f : Addr} {fd : FuncData} {ps : List Str} {sp : Sp}
structure FnG (P : Program) (w : World) (K : PySem.W.Frag) (mg : Str → Option Value) (base : Heap) (CX : CXT) (k : Nat) (f : Addr) (fd : FuncData) (ps : List Str) (sp : Sp) : Prop where
  ln : ∀ {vs : List V} {H : Hp} {Q : VK} {E : XK}, sp vs H Q E → vs.length = ps.length
  go : ∀ {A : Around} {os : List Env} {st : Shared} {H : Hp} {ar : Args} {us : List Value} {vs : List V} {Q : VK} {E : XK}, A.guards = some [] → Room k A → Env0 P w K mg base A os st H → BindsTo st fd ar (ps.zip us) → Vals vs us → sp vs H Q E →
    codeAny (model P w) A (.call (.ref f) ar) (CR CX os P w H st Q E) st
theorem toG (F : FnOk P w K mg base CX k f fd ps sp) : FnG P w K mg base CX k f fd ps sp := ⟨fun h => F.len _ _ _ _ h, fun _ a b c d e g => F.run _ _ _ _ _ _ _ _ _ a b c d e g⟩
theorem FnG.mono (F : FnG P w K mg base CX j f fd ps sp) (h : j ≤ k) : FnG P w K mg base CX k f fd ps sp := ⟨F.ln, fun g r => F.go g (r.mono h)⟩
theorem fnG_of {name qual : Str} {params : Arguments} {body : List Stmt} {scope : Scope} {dV kV doc pm cdv ct oc : Value} {an od : Option Addr} {osl : Array (Option Value)} {N : List Str}
    (lk : K.lookup f = some ⟨oc, od, .func (PySem.W.fnOf name qual params body scope dV kV doc pm an cdv ct), osl⟩) (cd : PySem.W.codeIn K cdv qual = true) (S : FnScope N ps scope) (ln : ∀ {vs : List V} {H : Hp} {Q : VK} {E : XK}, sp vs H Q E → vs.length = ps.length)
    (bd : ∀ {A : Around} {os : List Env} {st : Shared} {H : Hp} {vs : List V} {Q : VK} {E : XK}, (A.deeper (envOfC qual scope st.heap.objs.size f cdv)).guards = some [] → Room k (A.deeper (envOfC qual scope st.heap.objs.size f cdv)) → sp vs H Q E →
      ∃ t, PSs (cxOf CX P w K mg base N qual scope f cdv A os st H E) body t ∧ t { nx := fun _ H' => Q .non H', rt := Q } (L2.start N vs) H) :
    FnG P w K mg base CX (k + 1) f (PySem.W.fnOf name qual params body scope dV kV doc pm an cdv ct) ps sp := by
  refine ⟨ln, fun {A os st H ar us vs Q E} hg hr e0 hb rl hs => ?_⟩
  have KI : K.In st.heap := e0.mod.kin.keeps (fun b o z => (e0.bs b o z).1)
  have nl : st.heap.NoLimit := e0.mod.nolimit.keeps (fun b o z => (e0.bs b o z).1)
  have kd : ∀ y ∈ ps.zip us, scope.names.lookup y.1 = some .local ∨ (scope.names.lookup y.1 = some .cell ∧ ((cellsFrom (st.heap.objs.size + 1) scope.names []).lookup y.1).isSome = true) := by
    rintro ⟨x, v⟩ hy
    cases S.par x (List.of_mem_zip hy).1 with
    | inl z => exact Or.inl z
    | inr z => exact Or.inr ⟨z, PySem.W.cellsFrom_some _ _ _ (Or.inl z)⟩
  refine codeAny_call_function hr.depth (KI _ _ lk) rfl S.co S.gen rfl (PySem.W.codeRec_of KI cd) (hb _ _ _ _ ?_)
  refine wpAny_newFunctionEnv_cells S.kind kd (fun ev ee s2 x => ?_)
  cases ee
  refine ⟨nl.keeps x.toInCall.keep, codeAny_func ?_⟩
  obtain ⟨t, h1, h2⟩ := bd (A := A) (os := os) (st := st) (by rw [← hg]; rfl) (hr.deeper _) hs
  refine wpAny_mono (h1.run [] s2 (L2.start N vs) H _ (inv_start S hr.hd e0 (ln hs) rl x) h2) (fun fl s3 z => ?_) (fun e s3 z => z)
  match fl, z with
  | .ret u, ⟨v, _, H2, J, rv, q⟩ => exact ⟨v, H2, J.os, J.bare, J.base, J.hok, rv, q⟩
  | .next, ⟨_, H2, J, q⟩ => exact ⟨V.non, H2, J.os, J.bare, J.base, J.hok, rfl, q⟩
  | .brk, ⟨_, _, _, q⟩ => exact q.elim
  | .cont, ⟨_, _, _, q⟩ => exact q.elim
theorem okG {x qual : Str} {s : Stmt} {N : List Str} (F : Fun K x qual s f fd) (S : FnScope N ps (defScope s)) (ln : ∀ {vs : List V} {H : Hp} {Q : VK} {E : XK}, sp vs H Q E → vs.length = ps.length)
    (bd : ∀ {cdv : Value} {A : Around} {os : List Env} {st : Shared} {H : Hp} {vs : List V} {Q : VK} {E : XK}, (A.deeper (envOfC qual (defScope s) st.heap.objs.size f cdv)).guards = some [] → Room k (A.deeper (envOfC qual (defScope s) st.heap.objs.size f cdv)) → sp vs H Q E →
      ∃ t, PSs (cxOf CX0 P w K mg base N qual (defScope s) f cdv A os st H E).nox (defBody s) t ∧ t { nx := fun _ H' => Q .non H', rt := Q } (L2.start N vs) H) : FnG P w K mg base CX0 (k + 1) f fd ps sp := by
  obtain ⟨oc, od, kV, doc, pm, an, cdv, ct, osl, e, lk, cd⟩ := F.ex
  subst e
  refine fnG_of lk cd S ln (fun hg hr hs => ?_)
  obtain ⟨t, h, q⟩ := bd hg hr hs
  exact ⟨t, h.nox, q⟩
end
section
variable {X : Cx} {CX : CXT} {k : Nat} {f : Addr} {fd : FuncData} {ps : List Str} {sp : Sp} {dv : List V} {ds : List Value} {E : XK} {x : Str} {p pos : Pos} {e : Expr} {es : List Expr} {t : TA}
theorem run_G {pins : List (Addr × Obj)} {σ : L2.St} {H : Hp} {s : Shared} {Q : VK} {us : List Value} {vs : List V} (hG : X.A.guards = some []) (F : FnG X.prog X.w X.K X.mg X.base CX k f fd ps sp) (hr : Room k X.A) (hb : Binds X.K fd ps ds) (hd : Vals dv ds) (hx : Passes CX X E)
    (I : Inv X pins σ H s) (rl : Vals vs us) (h : sp (vs ++ dv) H Q E) : wpAny (model X.prog X.w) X.A (call (.ref f) us) (EP X pins σ Q) X.xe s := by
  have ra : Vals (vs ++ dv) (us ++ ds) := rl.append hd
  refine wpAny_call (codeAny_mono (F.go (os := X.stack) (ar := ⟨us, []⟩) (us := us ++ ds) hG hr I.env0 (hb s us I.kIn (by rw [← ra.length]; exact F.ln h)) ra h) fun r s2 z => ?_)
  match r, z with
  | .error y, z => exact hx pins σ H s y s2 I z
  | .ok (.ret u), z => exact I.after z
theorem pe_callG (hG : X.A.guards = some []) (F : FnG X.prog X.w X.K X.mg X.base CX k f fd ps sp) (hr : Room k X.A) (hg : Gl X x) (hm : X.mg x = some (.ref f)) (hk : PySem.W.keepIn X.K (.ref f) = true) (hb : Binds X.K fd ps ds) (hd : Vals dv ds) (hx : Passes CX X E)
    (ha : PA X (e :: es) t) (hdb : (x == ("__debug__" : Str)) = false := by decide) (he : starEach (e :: es) X.env = (false, eval e X.env) :: starEach es X.env := by rfl) (hpl : (backTo pos (starEach es X.env)).any (·.1) = false := by rfl) :
    PE X (.Call (.Name x p) (e :: es) [] pos) (tCall sp dv E t) := ⟨fun pins s σ H Q I h => wpAny_Call_Name_kw (ld_glob I hg hm (PySem.W.callWith_K (h₀ := X.base) I.ok.mod.kin hk (thn (ha.run pos pins s σ H _ I h) fun us s1 ⟨vs, H1, I1, rl, q⟩ => ⟨I1.kIn, run_G hG F hr hb hd hx I1 rl q⟩) he hpl) hdb)⟩
/-! ### repr of what is told by data -/
def rRepr (X : Cx) : List V → Hp → VK → Prop := fun xs H Q => ∃ (a : Addr) (d : PyData), xs = [V.ref a] ∧ Dp X.K H (.ref a) d ∧ d.showable = true ∧ d.hasDict = false ∧ d.depth ≤ 60 ∧ d.shown.length ≤ sizeLine ∧ Q (.str d.shown) H
theorem call_repr (hG : X.A.guards = some []) (hu : X.A.units + 64 < cLine) : CallR X (.builtin "repr") (rRepr X) := by
  intro pins s σ H xs us Q I r h
  obtain ⟨a, d, rfl, hd, hs, hh, hl, hz, q⟩ := h
  rw [Vals.ref1 r]
  obtain ⟨as, rd⟩ := Dp.reads I d _ _ hd rfl
  refine repr_of_reads' rd hs (fun z => by rw [hh] at z; cases z) hG (by omega) (fun b o z => z) (fun h' u tk hk => ?_) hz
  exact ⟨.str d.shown, H, I.kept hk, ⟨u, rfl⟩, q⟩
end
end K6

/-! text RW -/
set_option Elab.async false
set_option linter.all false
set_option maxRecDepth 100000
set_option maxHeartbeats 4000000
namespace K6
open PySem PySem.Spec PyProof.Rows L2
theorem headG {P : Program} {w : World} {K : PySem.W.Frag} {mg mb : Str → Option Value} {CX : CXT} {k : Nat} {fa a : Addr} {fd : FuncData} {x : Str} {sp : Sp} {st : Shared} {us : List Value} {ns : List Int}
    (hK : K.In st.heap) (hm : st.heap.Ns mainGlobals mg) (hB : st.heap.Ns builtinsNs mb) (hbb : ∀ y : Str, y ≠ "__name__" → mb y = bootBuiltins y) (nl : st.heap.NoLimit) (hgen : st.gens = #[])
    (ho : st.heap.get? a = some { cls := .type "list", data := .seq us.toArray }) (hi : IntsAre us ns) (hz : ns.length ≤ sizeLine) (hr : Room k callerA)
    (F : ∀ b : Heap, K.In b → b.Ns mainGlobals mg → FnG P w K mg b CX k fa fd [x] sp) (bind : ∀ (s : Shared) (u : Value), BindsTo s fd ⟨[u], []⟩ [(x, u)])
    (hs : ∀ H : Hp, Only H → SqL K H a (ns.map V.int) → sp [.ref a] H (fun v _ => v = .bl true) fun _ _ _ => False)
    (hC : ∀ H e s2, CX [] H st (fun _ _ _ => False) e s2 → False) :
    codeAny (model P w) callerA (.call (.ref fa) ⟨[.ref a], []⟩) (fun r s2 => r = .ok (.ret (.bool true)) ∧ OldK st.heap s2.heap ∧ s2.os = st.os ∧ AllBare s2.gens) st := by
  have rv := vals_ints hi
  have hL := hi.length
  have main : ∀ H : Hp, Only H → SqL K H a (ns.map V.int) → HOk P w H st.heap → (∀ b, H b ≠ none → b = a) → (H a ≠ none → K.lookup a = none) →
      codeAny (model P w) callerA (.call (.ref fa) ⟨[.ref a], []⟩) (fun r s2 => r = .ok (.ret (.bool true)) ∧ OldK st.heap s2.heap ∧ s2.os = st.os ∧ AllBare s2.gens) st := fun H hO hS hok hA hKa => by
    have at_a : ∀ {b : Addr}, H b ≠ none → b = a := fun {b} => hA b
    have free : ∀ {b : Addr} {o : Obj}, st.heap.get? b = some o → (∀ n, o.data ≠ .seq us.toArray n) → H b = none := fun {b o} e d => Classical.byContradiction fun n => by
      have eb := at_a n
      rw [eb, ho] at e
      injection e with e
      exact d _ (by rw [← e])
    have keepN : ∀ {b : Addr} {m : Str → Option Value}, st.heap.Ns b m → (hidT st.heap H).Ns b m := fun {b m} ⟨o, es, ep, e, d, r⟩ => ⟨o, es, ep, hidT_get e (free e fun n z => by rw [d] at z; cases z), d, r⟩
    have kin : K.In (hidT st.heap H) := fun b o e => hidT_get (hK b o e) (Classical.byContradiction fun n => by
      have eb := at_a n
      rw [eb] at e n
      rw [hKa n] at e
      cases e)
    have nl2 : (hidT st.heap H).NoLimit := by
      obtain ⟨mc, h1, h2⟩ := nl
      exact ⟨mc, keepN h1, h2⟩
    have e0 : Env0 P w K mg (hidT st.heap H) callerA [] st H := { frames := rfl, mod := ⟨kin, keepN hm, ⟨mb, keepN hB, hbb⟩, nl2⟩, bs := fun b o e => of_hidT e, bsz := Nat.le_of_eq (hidT_size _ _), funs := trivial, frf := (fun b hb => by cases hb), hok := hok, bare := .of_eq hgen }
    refine codeAny_mono ((F _ kin (keepN hm)).go (ar := ⟨[.ref a], []⟩) (us := [.ref a]) (vs := [.ref a]) rfl hr e0 (bind st (.ref a)) (.cons rfl .nil) (hs H hO hS)) fun r s2 h => ?_
    match r, h with
    | .error e, h => exact (hC H e s2 h).elim
    | .ok (.ret u), ⟨v, H2, os, bare, un, hok2, rl, q⟩ =>
      have q : v = .bl true := q
      subst q
      have eu : u = Value.bool true := rl
      subst eu
      refine ⟨rfl, OldK.of_keep fun b o e => ?_, os, bare⟩
      rcases hO b with hn | ⟨ob, xs, hf⟩
      · exact un.keep b o e hn (by intro z; cases z) (by simp)
      · obtain ⟨z1, _⟩ := hok b _ hf
        obtain ⟨z2, _⟩ := hok2 b _ (un.frzs b ob _ hf)
        rw [e] at z1
        cases z1
        exact z2
  by_cases hk : ∃ o, K.lookup a = some o
  · obtain ⟨o, hk⟩ := hk
    have e := hK a o hk
    rw [ho] at e
    cases e
    exact main (fun _ => none) (fun _ => Or.inl rfl) (Or.inr ⟨_, us.toArray, _, hk, rfl, rfl, rfl, by rw [List.size_toArray, hL]; exact hz, by simpa using rv⟩) (fun _ _ z => nomatch z) (fun _ z => absurd rfl z) (fun z => absurd rfl z)
  · have hk : K.lookup a = none := by
      cases z : K.lookup a with
      | none => rfl
      | some o => exact absurd ⟨o, z⟩ hk
    refine main (fun b => if b = a then some (.frz { cls := .type "list", data := .seq us.toArray } (.lst (ns.map V.int))) else none) (fun b => ?_) (Or.inl (Or.inr ⟨{ cls := .type "list", data := .seq us.toArray }, if_pos rfl⟩)) (fun b u z => ?_) (fun b z => ?_) (fun _ => hk)
    · rcases Decidable.em (b = a) with e | e
      · exact Or.inr ⟨_, _, if_pos e⟩
      · exact Or.inl (if_neg e)
    · rcases Decidable.em (b = a) with e | e
      · cases (if_pos e).symm.trans z
        cases e
        exact ⟨ho, by rw [List.length_map]; exact hz, us, _, rv, ho⟩
      · cases (if_neg e).symm.trans z
    · rcases Decidable.em (b = a) with e | e
      · exact e
      · exact absurd (if_neg e) z
theorem walkG {l : PySem.W.OpenLaw} {n k : Nat} {q : Program} {loose : List Str} {XP : (Str → Option Value) → Heap → Prop} {YP : World → Heap → Prop} {d : DefRec} {K : Params → PySem.W.Frag} {CX : World → CXT} {sp : World → Sp} {x : Str}
    (hn : l.most = some n) (h2 : n ≤ sizeLine) (hd : d.params.defaults = []) (hr : Room k callerA) (hY : ∀ (w : World) (h : Heap), YP w h → (K w.params).In h)
    (F : ∀ (w : World) (mg : Str → Option Value) (fa : Addr) (h : Heap), (K w.params).In h → h.Ns mainGlobals mg → mg d.name = some (.ref fa) →
      ∃ fd : FuncData, (∀ (s : Shared) (u : Value), BindsTo s fd ⟨[u], []⟩ [(x, u)]) ∧ ∀ b : Heap, (K w.params).In b → b.Ns mainGlobals mg → FnG l.prog w (K w.params) mg b (CX w) k fa fd [x] (sp w))
    (hs : ∀ (w : World) (H : Hp) (a : Addr) (ns : List Int), ns.length ≤ n → Only H → SqL (K w.params) H a (ns.map V.int) → sp w [.ref a] H (fun v _ => v = .bl true) fun _ _ _ => False)
    (hC : ∀ (w : World) (H : Hp) (s : Shared) (e : Value) (s2 : Shared), CX w [] H s (fun _ _ _ => False) e s2 → False) : PySem.W.WalkO q loose XP YP l.row.toRowW d [] (fun f vs => PySem.call f vs) := by
  refine Att.attach_call hn hd fun w s0 s1 mg mb fa o pm cd doc a vs ns G Y h1 h3 h4 hm hobj hints hlen hg => ?_
  obtain ⟨fd, hb, hF⟩ := F w mg fa _ (hY w _ Y) G.T.g hm
  exact headG (hY w _ Y) G.T.g G.T.b G.T.builtins G.T.nolimit hg hobj hints (Nat.le_trans hlen h2) hr hF hb (fun H hO hS => hs w H a ns hlen hO hS) (fun H e s2 => hC w H s1 e s2)
end K6

/-! text EV -/
set_option Elab.async false
set_option linter.all false
set_option maxRecDepth 100000
set_option maxHeartbeats 4000000
namespace K6
open PySem PySem.Spec PyProof.Rows L2
/-! ### an exception that was caught and is kept in a name behind its suite -/
def ExV (cls : Value) (d : Option Addr) (a : Addr) : HO := .ext fun h => ∃ (oe : Obj) (vs : Array Value), h.get? a = some oe ∧ Zc cls d oe ∧ oe.data = .fields vs
theorem exV_ok {P : Program} {w : World} {H : Hp} {h : Heap} {a : Addr} {cls : Value} {d : Option Addr} {oe : Obj} {vs : Array Value} (e : h.get? a = some oe) (z : Zc cls d oe) (f : oe.data = .fields vs) : ObjOk P w H h a (ExV cls d a) := ⟨⟨oe, vs, e, z, f⟩, ⟨oe, e⟩, fun _ _ ⟨o, v, q, r⟩ k => ⟨o, v, k o q, r⟩⟩
section
variable {X : Cx} {pins : List (Addr × Obj)} {σ : L2.St} {H : Hp} {s : Shared} {a : Addr} {oe : Obj} {vs : Array Value} {cls : Value} {d : Option Addr}
theorem track (I : Inv X ((a, oe) :: pins) σ H s) (n0 : X.s_0.heap.get? a = none) (z : Zc cls d oe) (f : oe.data = .fields vs) (ap : ∀ p ∈ X.pn ++ pins, p.1 ≠ a) : Inv X pins σ (upd H a (ExV cls d a)) s := by
  obtain ⟨ga, na, nl, nf, nc⟩ := I.pin (a, oe) (List.mem_append_right _ List.mem_cons_self)
  have ne0 : ∀ {b o}, X.s_0.heap.get? b = some o → b ≠ a := fun {b o} e q => by
    subst q
    rw [n0] at e
    cases e
  have neS : ∀ {b u}, H b = some u → b ≠ a := fun {b u} e q => by
    subst q
    rw [na] at e
    cases e
  refine { ok := I.ok, os := I.os, bare := I.bare, base := ⟨I.base.keep, I.base.slot, fun b o e n x => ?_, I.base.there, fun b xs e => ?_, fun b o u e => ?_, fun b ps e => ?_⟩, loc := I.loc, cell := I.cell, free := ?_, freeC := fun x c e => ?_, pin := fun p hp => ?_, hok := fun b u e => ?_, len := I.len }
  · rw [upd_ne (ne0 e)]
    exact I.base.free b o e n x
  · have q := I.base.tups b xs e
    rw [upd_ne (neS q)]
    exact q
  · have q := I.base.frzs b o u e
    rw [upd_ne (neS q)]
    exact q
  · obtain ⟨m, q⟩ := I.base.tbls b ps e
    exact ⟨m, by rw [upd_ne (neS q)]; exact q⟩
  · rw [upd_ne (Ne.symm nl)]
    exact I.free
  · obtain ⟨v, oc, hc, hv⟩ := I.cell x c e
    have q : c ≠ a := fun q => by
      subst q
      rw [ga] at hc
      cases hc
      exact nc _ hv
    rw [upd_ne q]
    exact I.freeC x c e
  · have hp2 : p ∈ X.pn ++ ((a, oe) :: pins) := by
      rcases List.mem_append.mp hp with q | q
      · exact List.mem_append_left _ q
      · exact List.mem_append_right _ (List.mem_cons_of_mem _ q)
    obtain ⟨g1, g2, g3⟩ := I.pin p hp2
    exact ⟨g1, by rw [upd_ne (ap p hp)]; exact g2, g3⟩
  · by_cases q : b = a
    · subst q
      rw [upd_same] at e
      cases e
      exact exV_ok ga z f
    · rw [upd_ne q] at e
      exact (I.hok b u e).stay (fun _ _ _ r => r) (fun c r => by rw [upd_ne (neS r)]; exact r) (fun c xs r => by rw [upd_ne (neS r)]; exact r)
end
/-! ### try: .. except x as n: .., the exception kept -/
/-- what the clause wishes of an exception of the body: behind the suite its object is told of -/
def wKeep (K : PySem.W.Frag) (c : Value) (i : Nat) (ts : Addr → Value → Option Addr → TS) (Wo : WX) (D : Ends) : WX := fun cls d σ H => ∃ b, PySem.W.exmOne K cls c = some b ∧ (b = false → Wo cls d σ H) ∧
  (b = true → ∀ a, H a = none → ts a cls d { nx := fun τ G => D.nx (τ.set i none) (upd G a (ExV cls d a)), rt := fun _ _ => False, bk := fun _ _ => False, ct := fun _ _ => False } (σ.set i (some (.ref a))) H)
section
variable {X : Cx} {x n : Str} {c : Value} {i : Nat} {body suite : List Stmt} {b0 : Stmt} {np pos pos2 : Pos} {tb : WX → TS} {ts : Addr → Value → Option Addr → TS} {Wo : WX}
theorem ps_try_keep (hs : X.stack = X.env :: X.outer) (hf : X.env.frame = some X.env.locals) (nd : X.N.Nodup) (hi : X.N[i]? = some n) (hl : X.env.kindOf n = some .local) (hc : Names X x c) (tk : Takes X Wo) (hx : X.ex = [])
    (hb : ∀ (W : WX) (pn : List (Addr × Obj)) (xe : Value → Shared → Prop), Takes (X.tr pn xe) W → PassesOwn (model X.prog X.w) X.A X.env xe → PSs (X.tr pn xe) body (tb W))
    (hu : ∀ (a : Addr) (oe : Obj) (cls : Value) (d : Option Addr) (pn : List (Addr × Obj)), Zc cls d oe → (∃ vs, oe.data = .fields vs) → PSs (X.suite a ((a, oe) :: pn)) (b0 :: suite) (ts a cls d)) :
    PS X (.Try body [.ExceptHandler (some (.Name x np)) (some n) (b0 :: suite) pos2] [] [] pos) (fun D σ H => tb (wKeep X.K c i ts Wo D) D σ H) := by
  constructor
  intro pins s σ H D I h
  have ok := I.ok
  have fr : X.A.frames = some (X.env :: X.outer) := by
    rw [ok.frames, hs]
  refine wpAny_Try_except (wpAny_mono ((hb (wKeep X.K c i ts Wo D) (X.pn ++ pins) (fun e s1 => wpAny (model X.prog X.w) X.A (noteFrame e X.env) (fun _ s2 => wpAny (model X.prog X.w) X.A (setFlight e none) (fun _ s3 => wpAny (model X.prog X.w) X.A (handleBy e X.env [.ExceptHandler (some (.Name x np)) (some n) (b0 :: suite) pos2]) (SP X pins D) X.xe s3) X.xe s2) X.xe s1) (fun u s1 xx => ?_) PassesOwn.looking).run [] s σ H D (I.toTry _) h) (fun fl s1 sp => ?_) (fun _ _ z => z))
  · obtain ⟨a, B, sI, pn2, τ, G, cls, d, eu, J0, nb, up, sky, na, os, ag, b, hb1, no, yes⟩ := xx
    subst eu
    have J : Inv X pins τ G sI := J0.ofTry ok
    rw [hs] at sky
    show wpAny (model X.prog X.w) X.A (noteFrame (.ref a) X.env) _ _ _
    refine Sky.land Zc.steady fr hf sky (fun h3 f3 up3 => ?_)
    have J3 : Inv X pins τ G { s1 with heap := h3 } := J.landed nb f3.1 (up.trans up3) os ag
    obtain ⟨o3, v3, e3, z3, d3⟩ := f3.there
    have off : a ∉ frs (X.env :: X.outer) := fun hm => by
      obtain ⟨_, o2, e2, h2⟩ := f3.2.2.1.mem hm
      rw [e3] at e2
      cases e2
      exact h2 _ d3
    have nL : a ≠ X.env.locals := fun z => off (List.mem_filterMap.mpr ⟨X.env, List.mem_cons_self, by rw [hf, z]⟩)
    have nF : a ∉ X.fs := fun hm => by
      obtain ⟨en, he, q⟩ := List.mem_filterMap.mp hm
      exact off (List.mem_filterMap.mpr ⟨en, List.mem_cons_of_mem _ he, q⟩)
    -- the exception is new
    have gB : ∀ {b2 : Addr} {o : Obj}, sI.heap.get? b2 = some o → b2 ∉ frs (X.env :: X.outer) → b2 ≠ a := fun {b2 o} e hm q => by
      subst q
      have z := nb _ _ e (by rw [hs]; exact hm)
      rw [f3.2.1] at z
      cases z
    have n0 : X.s_0.heap.get? a = none := by
      cases q : X.s_0.heap.get? a with
      | none => rfl
      | some o =>
        obtain ⟨o2, q2⟩ := J.base.there a o q (by rw [hx]; exact fun z => nomatch z)
        exact absurd rfl (gB q2 off)
    have ap : ∀ p ∈ X.pn ++ pins, p.1 ≠ a := fun p hp => by
      obtain ⟨g1, _, g3, g4, _⟩ := J.pin p hp
      refine gB g1 fun hm => ?_
      obtain ⟨en, he, q⟩ := List.mem_filterMap.mp hm
      rcases List.mem_cons.mp he with r | r
      · subst r
        rw [hf] at q
        injection q with q
        exact g3 q.symm
      · exact g4 (List.mem_filterMap.mpr ⟨en, r, q⟩)
    have S3 := J3.suite e3 d3 na nL nF
    refine wpAny_handleBy_cons (codeAny_handlers_test ?_) (by intro q; cases q)
    have lt : PySem.W.Looks (model X.prog X.w) h3 (typeOf (.ref a)) cls := fun A Q E s k q => wpAny_typeOf_ref (k _ _ e3) (by rw [z3.1]; exact q)
    have lm := PySem.W.exm_one (M := model X.prog X.w) J3.kIn lt hb1
    have ask : ∀ {Q : Value → Shared → Prop} {E : Value → Shared → Prop}, Q c { s1 with heap := h3 } → wpAny (model X.prog X.w) (X.A.mark (some (.ref a))) (eval (.Name x np) X.env) Q E { s1 with heap := h3 } := fun {Q E} q => by
      obtain ⟨hg, hdb, hm | ⟨hm, hv, hn⟩⟩ := hc
      · exact ld_glob (X := X.suite a ((a, o3) :: (X.pn ++ pins))) S3 hg hm q hdb
      · exact ld_blt (X := X.suite a ((a, o3) :: (X.pn ++ pins))) S3 hg hm hv q hn hdb
    refine ask (lm.here ?_)
    match b, no, yes with
    | true, _, yes =>
      refine codeAny_handlers_suite_as (HandSPX.lands_againZ f3 (fun h4 f4 up4 => ?_))
      have J4 : Inv X pins τ G { s1 with heap := h4 } := J.landed nb f4.1 ((up.trans up3).trans up4) os ag
      obtain ⟨o4, v4, e4, z4, d4⟩ := f4.there
      refine store_ok (X := X.suite a ((a, o4) :: (X.pn ++ pins))) (v := .ref a) (J4.suite e4 d4 na nL nF) nd hi (.inl hl) rfl (fun s5 S5 => ?_) (.inr hl)
      refine wpAny_mono ((hu a o4 cls d (X.pn ++ pins) z4 ⟨_, d4⟩).run [] s5 _ G _ S5 (yes rfl a na)) (fun fl s6 sp => ?_) (fun _ _ z => z.elim)
      match fl, sp with
      | .next, ⟨τ6, G6, S6, q6⟩ =>
        have J6 : Inv X ((a, o4) :: pins) τ6 G6 s6 := ⟨ok, S6.os, S6.bare, S6.base, S6.loc, S6.cell, S6.free, S6.freeC, fun p hp => S6.pin p (by
          refine List.mem_append_left _ ?_
          rcases List.mem_append.mp hp with q | q
          · exact List.mem_cons_of_mem _ (List.mem_append_left _ q)
          · rcases List.mem_cons.mp q with q | q
            · rw [q]
              exact List.mem_cons_self
            · exact List.mem_cons_of_mem _ (List.mem_append_right _ q)), S6.hok, S6.len⟩
        exact gone_ok J6 nd hi hl fun s7 J7 => ⟨_, _, track J7 n0 z4 d4 ap, q6⟩
      | .brk, ⟨_, _, _, q6⟩ => exact q6.elim
      | .cont, ⟨_, _, _, q6⟩ => exact q6.elim
      | .ret _, ⟨_, _, _, _, _, q6⟩ => exact q6.elim
    | false, no, _ =>
      show wpAny _ X.A (handleBy (.ref a) X.env []) _ _ _
      refine wpAny_handleBy_nil ?_
      obtain ⟨_, _, _, oe, vs, T, oT, tv, he, hz, hd, h1, hr⟩ := id f3
      unfold PySem.passOn
      refine wpAny_bind (wpAny_field he hd h1 ?_)
      have ht : ¬ ((Value.ref T == Value.none) = true) := by simp
      rw [if_neg ht]
      have last : wpAny (model X.prog X.w) X.A (setFlight (.ref a) X.env.frame) (fun _ s4 => wpAny (model X.prog X.w) X.A (throw (.ref a) : Sem Flow) (SP X pins D) X.xe s4) X.xe { s1 with heap := h3 } := by
        rw [hf]
        refine HandSPX.setFlight_upZ f3 (fun h4 g4 up4 => wpAny_throw (tk _ _ ⟨a, B, sI, pins, τ, G, cls, d, rfl, J, nb, (up.trans up3).trans up4, ?_, na, os, ag, no rfl⟩))
        rw [hs]
        exact .inr (.inr g4)
      first
        | exact wpAny_bind (wpAny_pure (wpAny_bind last))
        | exact wpAny_bind last
  · match fl, sp with
    | .next, ⟨τ, G, J, q⟩ => exact wpAny_execs_nil ⟨τ, G, J.ofTry ok, q⟩
    | .brk, ⟨τ, G, J, q⟩ => exact ⟨τ, G, J.ofTry ok, q⟩
    | .cont, ⟨τ, G, J, q⟩ => exact ⟨τ, G, J.ofTry ok, q⟩
    | .ret u, ⟨v, τ, G, J, r, q⟩ => exact ⟨v, τ, G, J.ofTry ok, r, q⟩
/-! ### isinstance and a field of a kept exception -/
structure IsD2 (K : PySem.W.Frag) (C : Addr) : Prop where
  cl : (PySem.W.clsIn K C).isSome = true
  hg : PySem.W.findIn K (.ref C) "__getattribute__" = some (some (.builtin "BaseException.__getattribute__"))
  gt : ∃ gt, PySem.W.findIn K (.ref C) "__getattr__" = some gt
  sb : PySem.W.subIn K (.ref C) (.type "BaseException") = some true
  ac : PySem.W.findIn K (.ref C) "__class__" = some (some (.builtin "object.__class__"))
  sg : PySem.W.specialIn K (.builtin "object.__class__") "__get__" = some (some (.builtin "getset_descriptor.__get__"))
  tk : PySem.W.takesIn K (.builtin "object.__class__") = some true
  mo : PySem.W.mroIn K C (.type "object") = some true
def rIsV (K : PySem.W.Frag) : List V → Hp → VK → Prop := fun xs H Q => ∃ (C a dd : Addr) (f : Str) (v c : V) (u : Value) (b : Bool), xs = [.ref a, c] ∧ IsD2 K C ∧ H a = some (ExV (.ref C) (some dd) a) ∧ H dd = some (.xd [(f, v)]) ∧ (∀ y, RelV c y → y = u) ∧ PySem.W.kitOne K (.ref C) u = some b ∧ Q (.bl b) H
theorem call_isV : CallR X (.builtin "isinstance") (rIsV X.K) := by
  intro pins s σ H xs us Q I r h
  obtain ⟨C, a, dd, f, v, c, u, b, rfl, D, ha, hd, hu, ek, q⟩ := h
  obtain ⟨u1, u2, rfl, rx, ry⟩ := vals2 r
  cases (show u1 = Value.ref a from rx)
  cases hu _ ry
  obtain ⟨⟨oe, vs, ga, hz, hv⟩, _⟩ := (show ObjOk X.prog X.w H s.heap a (ExV (.ref C) (some dd) a) from I.hok a _ ha)
  obtain ⟨mA, hns, _⟩ := (show ObjOk X.prog X.w H s.heap dd (.xd [(f, v)]) from I.hok dd _ hd)
  obtain ⟨od, ho, _⟩ := lookIn_ns hns
  have J : PySem.W.InstAt s.heap a oe C (some od) := ⟨ga, hz.1, by unfold PySem.W.notCls; rw [hv] <;> rfl, by rw [hz.2]; exact ho⟩
  obtain ⟨gt, hgt⟩ := D.gt
  exact PySem.W.kia_one (PySem.W.kitx_exc (od := some od) D.cl D.hg hgt D.sb D.ac D.sg D.tk D.mo) I.kIn J ek (fun z => nomatch z) fun tk => ⟨.bl b, H, I.tok tk, rfl, q⟩
/-- e.f, e a kept exception -/
def tFldV (K : PySem.W.Frag) (n : Str) (te : TE) : TE := fun σ H Q => te σ H fun y G => ∃ (C a dd : Addr) (fs : List (Str × V)) (v : V), y = .ref a ∧ XfC K C ∧ PySem.W.findIn K (.ref C) n = some none ∧ G a = some (ExV (.ref C) (some dd) a) ∧ G dd = some (.xd fs) ∧ fs.lookup n = some v ∧ Q v G
theorem pe_fldV {e : Expr} {te : TE} {fp : Pos} {f : Str} (he : PE X e te) (hb : attributeBase e f X.env (eval e X.env) = eval e X.env := by rfl) : PE X (.Attribute e f fp) (tFldV X.K f te) := by
  constructor
  intro pins s σ H Q I h
  refine attr_of hb (thn (he.run pins s σ H _ I h) fun u s1 hh => ?_)
  obtain ⟨y, G, I1, ry, C, a, dd, fs, v, ey, T, no, ga, gd, gl, q⟩ := hh
  subst ey
  cases (show u = Value.ref a from ry)
  obtain ⟨⟨oe, vs, ge, hz, hv⟩, _⟩ := (show ObjOk X.prog X.w G s1.heap a (ExV (.ref C) (some dd) a) from I1.hok a _ ga)
  obtain ⟨mA, hns, hr⟩ := (show ObjOk X.prog X.w G s1.heap dd (.xd fs) from I1.hok dd _ gd)
  obtain ⟨od, ho, ol⟩ := lookIn_ns hns
  obtain ⟨u2, hu, ru⟩ := RelO.some_of (v := v) (o := mA f) (by rw [← gl]; exact hr f)
  have J : PySem.W.InstAt s1.heap a oe C (some od) := ⟨ge, hz.1, by unfold PySem.W.notCls; rw [hv] <;> rfl, by rw [hz.2]; exact ho⟩
  exact HandSPX.exc_get I1.kIn J T.ga T.gg T.exC (PySem.W.findObj_own T.hdC no rfl (by rw [ol, hu])) (handed_of ru) ⟨v, G, I1.tok _, ru, q⟩
end
end K6

/-! text EN -/
set_option Elab.async false
set_option linter.all false
set_option maxRecDepth 100000
set_option maxHeartbeats 1000000
namespace K6
open PySem PySem.Spec PyProof.Rows L2
/-! ### enumerate(.., start=n) of a list, a tuple -/
theorem callWith_typeKw {M : Model} {A : Around} {E : Value → Shared → Prop} {s : Shared} {env : Env} {pos : Pos} {T : String} {e : Expr} {rest : List Expr} {kws : List Keyword} {Q : Value → Shared → Prop}
    (h : wpAny M A (spliced (backTo pos (starEach (e :: rest) env))) (fun vs s₁ => wpAny M A (evalAll ((backToKw pos (keywordEach kws env)).map (·.2)))
      (fun kvs s₂ => wpAny M A (call (.type T) vs (((backToKw pos (keywordEach kws env)).filterMap (·.1)).zip kvs)) Q E s₂) E s₁) E s)
    (he : backTo pos (starEach (e :: rest) env) = (false, eval e env) :: backTo pos (starEach rest env) := by rfl)
    (hplain : (backTo pos (starEach (e :: rest) env)).any (·.1) = false := by rfl)
    (hall : (backToKw pos (keywordEach kws env)).all (·.1.isSome) = true := by rfl)
    (hkw : (backToKw pos (keywordEach kws env)).any (·.1.isNone) = false := by rfl) :
    wpAny M A (callWith pos (.type T) [] (backTo pos (starEach (e :: rest) env)) (backToKw pos (keywordEach kws env))) Q E s := by
  have h2 : wpAny M A (evalArgs (.type T) true (backTo pos (starEach (e :: rest) env)) (backToKw pos (keywordEach kws env))) (fun a s₁ => wpAny M A (call (.type T) a.pos a.kw) Q E s₁) E s := by
    rw [he] at h ⊢
    exact evalArgs_kwB hall h
  unfold callWith
  refine wpAny_bind (wpAny_holding (wpAny_mono h2 (fun a s₁ h₁ => wpAny_bind (wpAny_standAt ?_)) fun _ _ x => x))
  simp only [hplain, hkw, Bool.or_false]
  refine wpAny_bind (wpAny_pure ?_)
  exact wpAny_bind (wpAny_mono h₁ (fun r s₂ hr => wpAny_bind (wpAny_holding (wpAny_point (wpAny_pure hr)))) fun _ _ x => x)

/-- the list at a, each item in a new pair with its number from k on -/
def IteL (K : PySem.W.Frag) (k : Nat) (a : Addr) : It :=
  ⟨fun i H => ∃ (xs : List V) (x : V), SqL K H a xs ∧ xs[i]? = some x, fun i H v H' => ∃ T x, v = .ref T ∧ H T = none ∧ H' = upd H T (.tup [.int ((i + k : Nat)), x]) ∧ ∀ xs, SqL K H a xs → xs[i]? = some x, fun i H => ∃ xs : List V, SqL K H a xs ∧ xs.length = i⟩
theorem turn_enumL {P : Program} {w : World} {K : PySem.W.Frag} {elts : List Expr} {kk : Nat} {tpos : Pos} (k : Nat) (a e it : Addr) :
    Turn P w K (.Tuple elts kk tpos) (IteL K k a) [e, it] e (fun i h => (∃ old, IsEnum h e it ((i + k : Nat) : Int) old) ∧ h.IsListIter it a i ∧ e ≠ it) where
  mem := by simp
  obj := fun i h st b hb => by
    obtain ⟨⟨old, he⟩, ⟨o, ho, hc, hd⟩, _⟩ := st
    have e' : b = e ∨ b = it := by simpa using hb
    rcases e' with z | z
    · rw [z]; exact ⟨_, he, fun v q => nomatch q⟩
    · rw [z]; exact ⟨o, ho, fun v q => by rw [hd] at q; cases q⟩
  keep := fun i h h' st k => let ⟨⟨old, he⟩, hi, hne⟩ := st; ⟨⟨old, k e (by simp) _ he⟩, hi.at fun o q => k it (by simp) o q, hne⟩
  item := by
    intro X hP hw hK hc i pins s σ H E I hf st hg
    subst hP hw hK
    obtain ⟨⟨old, he⟩, hit, hne⟩ := st
    obtain ⟨xs, x, hq, hx⟩ := hg
    obtain ⟨its, rv, p, hz⟩ := I.list hq
    obtain ⟨u, hu, ru⟩ := rv.get hx
    have hel : e < s.heap.objs.size := Heap.lt_size he
    have hil : it < s.heap.objs.size := by obtain ⟨_, q, _⟩ := hit; exact Heap.lt_size q
    have hli : a ≠ it := fun z => by
      obtain ⟨o2, g2, _, d2⟩ := hit
      obtain ⟨o3, n3, e2, _, _, dd⟩ := p
      rw [z, g2] at e2
      cases e2
      rw [d2] at dd
      cases dd
    have hae : e ≠ a := fun z => by
      obtain ⟨o3, n3, e2, _, _, dd⟩ := p
      rw [← z, he] at e2
      cases e2
      cases dd
    have D := Draws.list (prog := X.prog) (w := X.w) (A := X.A.in1) (I.ok.hd hc) it a hli its.toArray
    have hlt : i < its.toArray.size := by
      have z := rv.length
      have z2 := (List.getElem?_eq_some_iff.mp hx).1
      simp only [List.size_toArray]
      omega
    refine wpAny_pyNext_enum_itemC D he ⟨hit, p.isList⟩ hlt hne (by simp [hne, hae]) fun x2 h' tk hx2 ho hst' hT hsz hk => ?_
    have ex2 : x2 = u := by
      have z : its[i]? = some x2 := by simpa using hx2
      rw [hu] at z
      exact (Option.some.inj z).symm
    subst ex2
    refine ⟨_, rfl, wpAny_letOwnedTupleGo_enum (s := { s with heap := h', toks := tk + 1 }) ho fun h'' he' sb => ?_⟩
    have hT2 : h''.get? s.heap.objs.size = some { cls := .type "tuple", data := .seq #[.int ((i + k : Nat) : Int) tk, x2] } := (sb.2 _ (Nat.ne_of_gt hel)).trans hT
    have new : ObjOk X.prog X.w (upd H s.heap.objs.size (.tup [.int (i + k : Nat), x])) h'' s.heap.objs.size (.tup [.int (i + k : Nat), x]) :=
      ⟨by show 2 ≤ sizeLine; decide, [.int ((i + k : Nat) : Int) tk, x2], .cons ⟨_, rfl⟩ (.cons ru .nil), ⟨_, hT2, rfl, _, rfl⟩⟩
    have I1 : Inv X pins σ (upd H s.heap.objs.size (.tup [.int (i + k : Nat), x])) { s with heap := h'', toks := tk + 1 } :=
      I.turnedNew (ch := [e, it]) (fun b ob hb q => (sb.2 b (fun z => hb (by simp [z]))).trans (hk b ob (fun z => hb (by simp [z])) (fun z => hb (by simp [z])) q)) hf (Nat.le_refl _) new
    refine ⟨.ref s.heap.objs.size, _, I1, rfl, ⟨_, x, rfl, I.hok.fresh (Nat.le_refl _), rfl, fun ys hy => by rw [I.list_inj hy hq]; exact hx⟩, ⟨⟨x2, ?_⟩, hst'.1.at fun o q => (sb.2 it (Ne.symm hne)).trans q, hne⟩, fun b hb => ?_⟩
    · have e1 : ((i + 1 + k : Nat) : Int) = ((i + k : Nat) : Int) + 1 := by omega
      rw [e1]; exact he'
    · have hb' : b < s.heap.objs.size := by
        have e' : b = e ∨ b = it := by simpa using hb
        rcases e' with z | z
        · rw [z]; exact hel
        · rw [z]; exact hil
      rw [upd_ne (Nat.ne_of_lt hb')]
      exact (hf b hb).1
  done := by
    intro X hP hw hK hc i pins s σ H E I hf st hg
    subst hP hw hK
    obtain ⟨⟨old, he⟩, hit, hne⟩ := st
    obtain ⟨xs, hq, hx⟩ := hg
    obtain ⟨its, rv, p, hz⟩ := I.list hq
    obtain ⟨f0, f1, f2, f3, f4, f5⟩ := hf it (by simp)
    have hl := rv.length
    have hli : a ≠ it := fun z => by
      obtain ⟨o2, g2, _, d2⟩ := hit
      obtain ⟨o3, n3, e2, _, _, dd⟩ := p
      rw [z, g2] at e2
      cases e2
      rw [d2] at dd
      cases dd
    exact wpAny_pyNext_enum_endD (Draws.list (prog := X.prog) (w := X.w) (A := X.A.in1) (I.ok.hd hc) it a hli its.toArray) he ⟨(by rw [show its.toArray.size = i from by rw [List.size_toArray]; omega]; exact hit), p.isList⟩ fun h' eb => ⟨rfl, I.turned (t' := s.toks) (fun b o hb q => eb b o hb q) f0 f1 f3 f4 f5⟩
  self := fun A i s Q E st h => let ⟨⟨_, he⟩, _⟩ := st; wpAny_pyIter_enum he h
def iEnumL (K : PySem.W.Frag) (k : Nat) (ta : TA) : TI := fun σ H R => ta σ H fun vs H1 => ∃ a xs, vs = [.ref a] ∧ SqL K H1 a xs ∧ R (IteL K k a) H1
theorem pi_enumL {X : Cx} {e : Expr} {ta : TA} {p pos tpos cpos kpos : Pos} {elts : List Expr} {kk j : Nat} {k : Nat} (hk : k < 1000) (hg : Gl X "enumerate") (hm : X.mg "enumerate" = none) (ha : PA X [e] ta) (hs : backTo pos (starEach [e] X.env) = (false, eval e X.env) :: backTo pos (starEach [] X.env) := by rfl)
    (hp : (backTo pos (starEach [e] X.env)).any (·.1) = false := by rfl) :
    PI X (.Tuple elts kk tpos) (.Call (.Name "enumerate" p) [e] [⟨some "start", .Constant (.int (k : Int)) j cpos, kpos⟩] pos) (iEnumL X.K k ta) := by
  refine ⟨fun pins s σ H R I h => ?_⟩
  refine wpAny_Call_Name_kw (ld_blt I hg hm boot_enumerate ?_)
  refine callWith_typeKw (thn (ha.run pos pins s σ H _ I h) fun us s1 ⟨vs, H1, I1, r1, q1⟩ => ?_) hs hp
  obtain ⟨a, xs, ex, hq, q⟩ := q1
  subst ex
  cases r1 with
  | cons r rr =>
    cases rr
    cases r
    have pk : PK X [⟨some "start", .Constant (.int (k : Int)) j cpos, kpos⟩] (tCons (tC (.int (k : Int))) tNil) := pk_cons pe_int pk_nil
    refine thn (pk.run pos pins s1 σ H1 (fun vs H2 => vs = [V.int (k : Int)] ∧ H1 = H2) I1 ⟨rfl, rfl⟩) fun ws s2 ⟨zs, H2, I2, rz, ez, eH⟩ => ?_
    subst ez eH
    cases rz with
    | cons rz rn =>
      cases rn
      obtain ⟨t, et⟩ := rz
      subst et
      obtain ⟨its, rv, p', hz⟩ := I2.list hq
      refine enum_begins_start (begins_list a its.toArray) p'.isList (by omega) (by omega) fun h' he hit hsz hk => wpAny_pyIter_enum he ?_
      have I3 : Inv X pins σ H1 { s2 with heap := h' } := I2.kept (t' := s2.toks) hk
      refine ⟨s2.heap.objs.size + 1, [s2.heap.objs.size + 1, s2.heap.objs.size], _, _, H1, rfl, I3, turn_enumL k a (s2.heap.objs.size + 1) s2.heap.objs.size, ⟨⟨.none, (by rw [Nat.zero_add]; exact he)⟩, ⟨_, hit, rfl, rfl⟩, Nat.succ_ne_self _⟩, fun b hb => ?_, q⟩
      have e' : b = s2.heap.objs.size + 1 ∨ b = s2.heap.objs.size := by simpa using hb
      have hle : s2.heap.objs.size ≤ b := by
        rcases e' with z | z
        · rw [z]; exact Nat.le_add_right _ _
        · rw [z]; exact Nat.le_refl _
      exact I2.fpOk hle (I2.hok.fresh hle)
end K6

/-! text QG -/
set_option Elab.async false
set_option linter.all false
set_option maxRecDepth 100000
set_option maxHeartbeats 4000000
namespace K6
open PySem PySem.Spec PyProof.Rows L2
theorem Same.new {H : Hp} {q : Addr} {o : HO} (h : H q = none) : Same H (upd H q o) := fun b o' e => by
  rw [upd_ne (ne_of_none e h)]
  exact e
/-- all but what stands at a stays -/
def Fr (s : Addr) (H H' : Hp) : Prop := ∀ b o, b ≠ s → H b = some o → H' b = some o
theorem Fr.refl (s : Addr) (H : Hp) : Fr s H H := fun _ _ _ h => h
theorem Fr.same {s : Addr} {H H1 H2 : Hp} (a : Fr s H H1) (k : Same H1 H2) : Fr s H H2 := fun b o h e => k b o (a b o h e)
theorem Fr.trans {s : Addr} {H H1 H2 : Hp} (a : Fr s H H1) (k : Fr s H1 H2) : Fr s H H2 := fun b o h e => k b o h (a b o h e)
theorem Fr.of {s : Addr} {H H1 : Hp} (k : Same H H1) : Fr s H H1 := fun b o _ e => k b o e
section
variable (P : Program) (w : World) (K : PySem.W.Frag) (mg : Str → Option Value) (base : Heap)
def FnAt (CX : CXT) (k : Nat) (x : Str) (ps : List Str) (sp : Sp) : Prop := ∃ f fd, mg x = some (.ref f) ∧ PySem.W.keepIn K (.ref f) = true ∧ Binds K fd ps [] ∧ FnOk P w K mg base CX k f fd ps sp
def FnAtG (CX : CXT) (k : Nat) (x : Str) (ps : List Str) (sp : Sp) : Prop := ∃ f fd, mg x = some (.ref f) ∧ PySem.W.keepIn K (.ref f) = true ∧ Binds K fd ps [] ∧ FnG P w K mg base CX k f fd ps sp
end
/-! ### data -/
theorem sqt_same {K : PySem.W.Frag} {H H' : Hp} {a : Addr} {xs : List V} (k : Same H H') (h : SqT K H a xs) : SqT K H' a xs := by
  rcases h with h | h
  · exact .inl (by
      rcases h with h | ⟨o, h⟩
      · exact .inl (k _ _ h)
      · exact .inr ⟨o, k _ _ h⟩)
  · exact .inr h
mutual
theorem dp_same {K : PySem.W.Frag} {H H' : Hp} (k : Same H H') : ∀ (d : PyData) (v : V), Dp K H v d → Dp K H' v d
  | .none, _, h => by cases h; exact .non
  | .bool b, _, h => by cases h; exact .bl b
  | .int i, _, h => by cases h; exact .int i
  | .str x, _, h => by cases h; exact .str x
  | .list ds, _, h => by
    cases h with
    | lst hs ha => exact .lst (k.seq hs) (dps_same k ds _ ha)
  | .tuple ds, _, h => by
    cases h with
    | tup hs ha => exact .tup (sqt_same k hs) (dps_same k ds _ ha)
  | .dict _, _, h => by cases h
theorem dps_same {K : PySem.W.Frag} {H H' : Hp} (k : Same H H') : ∀ (ds : List PyData) (vs : List V), DpAll K H vs ds → DpAll K H' vs ds
  | [], _, h => by cases h; exact .nil
  | d :: ds, _, h => by
    cases h with
    | cons h1 h2 => exact .cons (dp_same k d _ h1) (dps_same k ds _ h2)
end
theorem dps_app {K : PySem.W.Frag} {H : Hp} : ∀ {ds es : List PyData} {vs ws : List V}, DpAll K H vs ds → DpAll K H ws es → DpAll K H (vs ++ ws) (ds ++ es)
  | _, _, _, _, .nil, h => h
  | _, _, _, _, .cons a b, h => .cons a (dps_app b h)
theorem dps_len {K : PySem.W.Frag} {H : Hp} : ∀ {ds : List PyData} {vs : List V}, DpAll K H vs ds → vs.length = ds.length
  | _, _, .nil => rfl
  | _, _, .cons _ b => by rw [List.length_cons, List.length_cons, dps_len b]
end K6

/-! text Q1 -/
set_option Elab.async false
set_option linter.all false
set_option maxRecDepth 100000
set_option maxHeartbeats 1000000
namespace K6
open PySem PySem.Spec PyProof.Rows L2
def top (i : Nat) : Stmt := PySem.Challenge.pw_lastasked_k89_texts_that_are_no_stories.main.body.getD i (.Pass ⟨0, 0, 0, 0⟩)
abbrev sTake : Stmt := top 16
section
variable {P : Program} {w : World} {K : PySem.W.Frag} {mg : Str → Option Value} {base : Heap}
theorem scTake : FnScope ["_law_pot_here", "_law_upto", "_law_digit", "_law_prime", "_law_mixed"] ["_law_pot_here", "_law_upto"] (defScope sTake) := ⟨rfl, rfl, rfl, by decide +kernel, rfl, by decide +kernel, by decide +kernel⟩
def Pot (a : Addr) (p0 p1 p2 : Int) (H : Hp) : Prop := H a = some (.lst [.int p0, .int p1, .int p2]) ∧ 0 ≤ p1 ∧ p1 < 2305843009213693951 ∧ 0 ≤ p2
def spTake : Sp := fun vs H Q _ => ∃ (a : Addr) (p0 p1 p2 n : Int), vs = [.ref a, .int n] ∧ Pot a p0 p1 p2 H ∧ p2 ≤ 300 ∧ 0 < n ∧ n ≤ 100 ∧
  ∀ d q0 q2 H', 0 ≤ d → d < n → q2 ≤ p2 + 1 → Fr a H H' → Pot a q0 p1 q2 H' → Q (.int d) H'
theorem ok_take {f : Addr} {fd : FuncData} (F : Fun K "_law_take" "_law_take" sTake f fd) (hI : mg "int" = none) : FnOk P w K mg base CX0 1 f fd ["_law_pot_here", "_law_upto"] spTake := by
  refine F.ok scTake (fun vs H Q E h => ?_) (fun cdv A outer s0 H vs Q E hr h => ?_)
  · obtain ⟨a, p0, p1, p2, n, rfl, _⟩ := h
    rfl
  · obtain ⟨a, p0, p1, p2, n, rfl, ⟨hp, h10, h1, h20⟩, h2, hn0, hn, q⟩ := h
    refine ⟨_, pss_cons (ps_if (pt_cmpR op_gt (pe_ix ix_list (pv 0) pe_int (fun _ _ => rfl)) pe_int (nomark _))
        (pss_cons (ps_set (i := 2) scTake.nd rfl (Or.inl rfl) (pe_op op_mod (pe_callTy call_int1 (by rfl) hI (by decide +kernel) (pa_cons (pe_ix ix_list (pv 0) pe_int (fun _ _ => rfl)) pa_nil)) (pv 1)))
        (pss_cons (ps_asg (pe_op op_fdiv (pe_ix ix_list (pv 0) pe_int (fun _ _ => rfl)) (pv 1)) (pg_sub (pv 0) pe_int set_list))
        (pss_one (ps_ret (pv 2))))) pss_nil)
      (pss_cons (ps_asg (pe_op op_add (pe_ix ix_list (pv 0) pe_int (fun _ _ => rfl)) pe_int) (pg_sub (pv 0) pe_int set_list))
      (pss_cons (ps_set (i := 3) scTake.nd rfl (Or.inl rfl) (pe_ix ix_list (pe_lst (pa_cons pe_int (pa_cons pe_int (pa_cons pe_int (pa_cons pe_int (pa_cons pe_int pa_nil)))))) (pe_op op_mod (pe_callTy call_int1 (by rfl) hI (by decide +kernel) (pa_cons (pe_ix ix_list (pv 0) pe_int (fun _ _ => rfl)) pa_nil)) pe_int) (fun _ _ => rfl)))
      (pss_cons (ps_set (i := 4) scTake.nd rfl (Or.inl rfl) (pe_op op_mod (pe_callTy call_int1 (by rfl) hI (by decide +kernel) (pa_cons (pe_op op_pow (pe_callTy call_int1 (by rfl) hI (by decide +kernel) (pa_cons (pe_op op_add (pe_op op_add (pe_ix ix_list (pv 0) pe_int (fun _ _ => rfl)) (pe_op op_mul (pe_op op_mul pe_int (pe_ix ix_list (pv 0) pe_int (fun _ _ => rfl))) (pe_ix ix_list (pv 0) pe_int (fun _ _ => rfl)))) pe_int) pa_nil)) pe_int) pa_nil)) (pv 3)))
      (pss_cons (ps_set (i := 4) scTake.nd rfl (Or.inl rfl) (pe_op op_mod (pe_callTy call_int1 (by rfl) hI (by decide +kernel) (pa_cons (pe_op op_mul (pv 4) (pe_op op_add (pe_op op_mod (pe_callTy call_int1 (by rfl) hI (by decide +kernel) (pa_cons (pv 4) pa_nil)) pe_int) (pe_op op_mul pe_int (pe_ix ix_list (pv 0) pe_int (fun _ _ => rfl))))) pa_nil)) pe_int))
      (pss_one (ps_ret (pe_op op_mod (pe_callTy call_int1 (by rfl) hI (by decide +kernel) (pa_cons (pe_op op_fdiv (pv 4) pe_int) pa_nil)) (pv 1)))))))), ?_⟩
    refine ⟨_, rfl, a, _, _, _, rfl, rfl, SqL.of hp, atI_nat (j := 0) rfl, _, _, rfl, rfl, _, rfl, ?_⟩
    refine ite2 (fun c1 => ?_) (fun c1 => ?_)
    · refine ⟨_, rfl, a, _, _, _, rfl, rfl, SqL.of hp, atI_nat (j := 0) rfl, .inl ⟨_, rfl, _, rfl, _, _, rfl, rfl, hn0, ?_⟩⟩
      refine ⟨_, rfl, a, _, _, _, rfl, rfl, SqL.of hp, atI_nat (j := 0) rfl, _, rfl, _, _, rfl, rfl, ⟨hn0, by omega⟩, _, rfl, a, _, _, 0, rfl, rfl, hp, rfl, _, rfl, ?_⟩
      exact q _ _ p2 _ (Int.emod_nonneg _ (by omega)) (Int.emod_lt_of_pos _ hn0) (by omega) (fun b o h e => by rw [upd_ne h]; exact e) ⟨upd_same, h10, h1, h20⟩
    · refine ⟨_, rfl, a, _, _, _, rfl, rfl, SqL.of hp, atI_nat (j := 2) rfl, _, _, rfl, rfl, _, rfl, a, _, _, 2, rfl, rfl, hp, rfl, ?_⟩
      have hfr : Fr a H (upd H a (.lst (([.int p0, .int p1, .int p2] : List V).set 2 (.int (p2 + 1))))) := fun b o h e => by rw [upd_ne h]; exact e
      have hp2 : (upd H a (.lst (([.int p0, .int p1, .int p2] : List V).set 2 (.int (p2 + 1))))) a = some (.lst [.int p0, .int p1, .int (p2 + 1)]) := upd_same
      generalize upd H a (.lst (([.int p0, .int p1, .int p2] : List V).set 2 (.int (p2 + 1)))) = H2 at hfr hp2
      refine ⟨(by show 5 ≤ sizeLine; decide), fun pl hpl => ?_⟩
      have s3 := Same.new (o := .lst [V.int 2147483647, V.int 2147483629, V.int 2147483587, V.int 2147483579, V.int 2147483563]) hpl
      have hpl3 : (upd H2 pl (.lst [V.int 2147483647, V.int 2147483629, V.int 2147483587, V.int 2147483579, V.int 2147483563])) pl = some (.lst [V.int 2147483647, V.int 2147483629, V.int 2147483587, V.int 2147483579, V.int 2147483563]) := upd_same
      generalize upd H2 pl (.lst [V.int 2147483647, V.int 2147483629, V.int 2147483587, V.int 2147483579, V.int 2147483563]) = H3 at s3 hpl3
      have hp3 := s3 _ _ hp2
      have e5 : ((p2 + 1) % 5) = (((p2 + 1) % 5).toNat : Int) := by omega
      have l5 : ((p2 + 1) % 5).toNat < 5 := by omega
      generalize ((p2 + 1) % 5).toNat = j at e5 l5
      obtain ⟨pr, hpr, hpr1⟩ : ∃ pr : Int, ([V.int 2147483647, V.int 2147483629, V.int 2147483587, V.int 2147483579, V.int 2147483563] : List V)[j]? = some (V.int pr) ∧ 0 < pr := by
        match j, l5 with
        | 0, _ => exact ⟨_, rfl, by decide⟩
        | 1, _ => exact ⟨_, rfl, by decide⟩
        | 2, _ => exact ⟨_, rfl, by decide⟩
        | 3, _ => exact ⟨_, rfl, by decide⟩
        | 4, _ => exact ⟨_, rfl, by decide⟩
      have hpr2 : pr ≤ 2147483647 := by
        match j, l5, hpr with
        | 0, _, h | 1, _, h | 2, _, h | 3, _, h | 4, _, h =>
          injection h with h
          injection h with h
          omega
      refine ⟨_, rfl, a, _, _, _, rfl, rfl, SqL.of hp3, atI_nat (j := 2) rfl, .inl ⟨_, rfl, _, _, rfl, rfl, (by show (0 : Int) < 5; decide), pl, _, _, _, rfl, rfl, SqL.of hpl3, (by rw [e5]; exact atI_nat hpr), ?_⟩⟩
      have sq : 0 ≤ (p2 + 1) * (p2 + 1) ∧ (p2 + 1) * (p2 + 1) ≤ 301 * 301 := ⟨Int.mul_nonneg (by omega) (by omega), Int.mul_le_mul (by omega) (by omega) (by omega) (by omega)⟩
      have sq2 : 98999 * (p2 + 1) * (p2 + 1) = 98999 * ((p2 + 1) * (p2 + 1)) := Int.mul_assoc ..
      refine ⟨_, rfl, a, _, _, _, rfl, rfl, SqL.of hp3, atI_nat (j := 1) rfl, _, rfl, a, _, _, _, rfl, rfl, SqL.of hp3, atI_nat (j := 2) rfl, _, _, rfl, rfl, .inl (by omega), _, rfl, a, _, _, _, rfl, rfl, SqL.of hp3, atI_nat (j := 2) rfl, _, _, rfl, rfl, .inr (by omega), _, _, rfl, rfl, _, _, rfl, rfl, .inl ⟨_, rfl, _, _, rfl, rfl, ⟨by omega, by omega, by omega⟩, .inl ⟨_, rfl, _, rfl, _, _, rfl, rfl, hpr1, ?_⟩⟩⟩
      generalize (p1 + 98999 * (p2 + 1) * (p2 + 1) + 43) ^ _ = big
      have b1 := Int.emod_nonneg big (show pr ≠ 0 by omega)
      have b2 := Int.emod_lt_of_pos big hpr1
      refine ⟨_, rfl, _, rfl, .inl ⟨_, rfl, _, _, rfl, rfl, (by show (0 : Int) < 10007; decide), _, rfl, a, _, _, _, rfl, rfl, SqL.of hp3, atI_nat (j := 2) rfl, _, _, rfl, rfl, .inl (by omega), _, _, rfl, rfl, _, _, rfl, rfl, .inl ⟨by omega, by omega⟩, .inl ⟨_, rfl, _, _, rfl, rfl, (by show (0 : Int) < 2305843009213693907; decide), ?_⟩⟩⟩
      refine ⟨_, rfl, _, _, rfl, rfl, ⟨by decide, by decide⟩, .inl ⟨_, rfl, _, rfl, _, _, rfl, rfl, hn0, ?_⟩⟩
      exact q _ p0 (p2 + 1) _ (Int.emod_nonneg _ (by omega)) (Int.emod_lt_of_pos _ hn0) (by omega) (hfr.same s3) ⟨hp3, h10, h1, by omega⟩
end
abbrev sOf : Stmt := top 17
section
variable {P : Program} {w : World} {K : PySem.W.Frag} {mg : Str → Option Value} {base : Heap}
theorem scOf : FnScope ["_law_pot_here", "_law_some"] ["_law_pot_here", "_law_some"] (defScope sOf) := ⟨rfl, rfl, rfl, by decide +kernel, rfl, by decide +kernel, by decide +kernel⟩
def spOf : Sp := fun vs H Q _ => ∃ (a b : Addr) (p0 p1 p2 : Int) (xs : List V), vs = [.ref a, .ref b] ∧ Pot a p0 p1 p2 H ∧ p2 ≤ 300 ∧ H b = some (.lst xs) ∧ b ≠ a ∧ 0 < xs.length ∧ xs.length ≤ 100 ∧
  ∀ x q0 q2 H', x ∈ xs → q2 ≤ p2 + 1 → Fr a H H' → Pot a q0 p1 q2 H' → Q x H'
theorem ok_of {f : Addr} {fd : FuncData} (F : Fun K "_law_of" "_law_of" sOf f fd) (hL : mg "len" = none) (R : FnAt P w K mg base CX0 1 "_law_take" ["_law_pot_here", "_law_upto"] spTake) : FnOk P w K mg base CX0 2 f fd ["_law_pot_here", "_law_some"] spOf := by
  refine F.ok scOf (fun vs H Q E h => ?_) (fun cdv A outer s0 H vs Q E hr h => ?_)
  · obtain ⟨a, b, p0, p1, p2, xs, rfl, _⟩ := h
    rfl
  · obtain ⟨a, b, p0, p1, p2, xs, rfl, hp, h2, hb, hne, hx0, hx, q⟩ := h
    obtain ⟨f1, d1, m1, k1, b1, G1⟩ := R
    refine ⟨_, pss_one (ps_ret (pe_ix ix_list (pv 1) (pe_call G1 hr rfl m1 k1 b1 .nil pass0 (pa_cons (pv 0) (pa_cons (pe_callB call_len_seq (by rfl) hL PySem.boot_len (pa_cons (pv 1) pa_nil)) pa_nil))) (fun _ _ => rfl))), ?_⟩
    refine ⟨_, rfl, _, rfl, _, rfl, b, _, rfl, .inl (SqL.of hb), ?_⟩
    have hl : (xs.length : Int) = (xs.length : Int) := rfl
    refine ⟨a, p0, p1, p2, _, rfl, hp, h2, by omega, by omega, fun d q0 q2 H' hd0 hd hq hf hp' => ?_⟩
    have hdl : d.toNat < xs.length := by omega
    refine ⟨b, _, d, _, rfl, rfl, SqL.of (hf b _ hne hb), (?_ : _ = some xs[d.toNat]), q _ q0 q2 H' (List.getElem_mem hdl) hq hf hp'⟩
    have z : atI xs ((d.toNat : Nat) : Int) = some xs[d.toNat] := atI_nat (List.getElem?_eq_getElem hdl)
    rw [show ((d.toNat : Nat) : Int) = d by omega] at z
    exact z
end
abbrev sPot : Stmt := top 15
theorem op_pow5 {X : Cx} : OpR X (binaryOp .Pow) (rI (fun i j => i = 10 ^ 60 ∧ j = 5) fun i j => .int (i ^ j.toNat)) := opI fun i j _ _ _ _ _ hc q => PyProof.Rows.pow_int (by rw [hc.2]; decide) (by rw [hc.1, hc.2]; decide +kernel) q
section
variable {P : Program} {w : World} {K : PySem.W.Frag} {mg : Str → Option Value} {base : Heap}
theorem scPot : FnScope ["_law_script", "_law_k", "_law_cell", "_law_own", "_law_mixed"] ["_law_script", "_law_k"] (defScope sPot) := ⟨rfl, rfl, rfl, by decide +kernel, rfl, by decide +kernel, by decide +kernel⟩
def spPot (K : PySem.W.Frag) : Sp := fun vs H Q _ => ∃ (a : Addr) (k : Nat) (ns : List Int), vs = [.ref a, .int k] ∧ SqL K H a (ns.map V.int) ∧ k ≤ 2 ∧ ∀ p p0 p1 H', H p = none → Same H H' → Pot p p0 p1 0 H' → Q (.ref p) H'
theorem ok_pot {f : Addr} {fd : FuncData} (F : Fun K "_law_pot" "_law_pot" sPot f fd) (hL : mg "len" = none) (hI : mg "int" = none) (hA : mg "abs" = none) : FnOk P w K mg base CX0 1 f fd ["_law_script", "_law_k"] (spPot K) := by
  refine F.ok scPot (fun vs H Q E h => ?_) (fun cdv A outer s0 H vs Q E hr h => ?_)
  · obtain ⟨a, k, ns, rfl, _⟩ := h
    rfl
  · obtain ⟨a, k, ns, rfl, ha, hk, q⟩ := h
    refine ⟨_, pss_cons (ps_set (i := 2) scPot.nd rfl (Or.inl rfl) (pe_ifExp (pt_cmpR op_lt (pv 1) (pe_callB call_len_seq (by rfl) hL PySem.boot_len (pa_cons (pv 0) pa_nil)) (nomark _)) (pe_ix ix_list (pv 0) (pv 1) (fun _ _ => rfl)) (pe_op op_add (pe_op op_mul pe_int (pv 1)) pe_int)))
      (pss_cons (ps_set (i := 3) scPot.nd rfl (Or.inl rfl) (pe_op op_mul (pe_op op_mod (pe_callTy call_int1 (by rfl) hI (by decide +kernel) (pa_cons (pe_callB call_abs (by rfl) hA (by decide +kernel) (pa_cons (pv 2) pa_nil)) pa_nil)) (pe_op op_pow5 (pe_op op_pow pe_int pe_int) pe_int)) (pe_callTy call_int1 (by rfl) hI (by decide +kernel) (pa_cons (pe_cmpR op_ge (pe_callB call_abs (by rfl) hA (by decide +kernel) (pa_cons (pv 2) pa_nil)) (pe_op op_pow pe_int pe_int) (nomark _)) pa_nil))))
      (pss_cons (ps_set (i := 4) scPot.nd rfl (Or.inl rfl) (pe_op op_add (pe_op op_add (pe_op op_mul (pe_op op_mod (pe_callTy call_int1 (by rfl) hI (by decide +kernel) (pa_cons (pv 2) pa_nil)) pe_int) pe_int) (pe_op op_mul (pe_op op_mul pe_int (pv 1)) (pv 1))) pe_int))
      (pss_one (ps_ret (pe_lst (pa_cons (pv 3) (pa_cons (pe_op op_mod (pe_callTy call_int1 (by rfl) hI (by decide +kernel) (pa_cons (pv 4) pa_nil)) pe_int) (pa_cons pe_int pa_nil)))))))), ?_⟩
    refine ⟨_, rfl, _, rfl, a, _, rfl, .inl (ha), _, _, rfl, rfl, _, rfl, ?_⟩
    have big : (0 : Int) < (10 ^ 60) ^ (5 : Int).toNat := by decide +kernel
    refine ite2 (fun c1 => ?_) (fun c1 => ?_)
    · have hlt : k < (ns.map V.int).length := by
        have z := of_decide_eq_true c1
        omega
      have hg : (ns.map V.int)[k]? = some (V.int (ns.getD k 0)) := by
        rw [List.length_map] at hlt
        rw [List.getElem?_map, List.getElem?_eq_getElem hlt]
        simp [List.getD, hlt]
      refine ⟨_, rfl, _, rfl, a, _, _, _, rfl, rfl, ha, atI_nat hg, ?_⟩
      generalize ns.getD k 0 = x
      refine ⟨_, rfl, _, rfl, .inl ⟨_, rfl, _, _, rfl, rfl, ⟨by decide, by decide, by decide⟩, _, _, rfl, rfl, ⟨by decide +kernel, rfl⟩, _, _, rfl, rfl, big, ?_⟩⟩
      refine ⟨_, rfl, _, rfl, _, _, rfl, rfl, ⟨by decide, by decide, by decide⟩, _, _, rfl, rfl, .inr ⟨_, rfl, _, _, rfl, rfl, .inr (by split <;> omega), ?_⟩⟩
      refine ⟨_, rfl, .inl ⟨_, rfl, _, _, rfl, rfl, (by show (0 : Int) < 2305843009213693951; decide), _, _, rfl, rfl, .inr (by omega), _, rfl, _, _, rfl, rfl, .inl (by omega), _, rfl, _, _, rfl, rfl, .inr (by omega), _, _, rfl, rfl, _, _, rfl, rfl, ?_⟩⟩
      refine ⟨_, rfl, _, rfl, .inl ⟨_, rfl, _, _, rfl, rfl, (by show (0 : Int) < 2305843009213693921; decide), (by show 3 ≤ sizeLine; decide), fun p hp => ?_⟩⟩
      exact q p _ _ _ hp (Same.new hp) ⟨upd_same, Int.emod_nonneg _ (by decide), Int.lt_trans (Int.emod_lt_of_pos _ (by decide)) (by decide), Int.le_refl _⟩
    · refine ⟨_, rfl, _, _, rfl, rfl, .inl (by omega), _, _, rfl, rfl, ?_⟩
      generalize 41 * (k : Int) + 13 = x
      refine ⟨_, rfl, _, rfl, .inl ⟨_, rfl, _, _, rfl, rfl, ⟨by decide, by decide, by decide⟩, _, _, rfl, rfl, ⟨by decide +kernel, rfl⟩, _, _, rfl, rfl, big, ?_⟩⟩
      refine ⟨_, rfl, _, rfl, _, _, rfl, rfl, ⟨by decide, by decide, by decide⟩, _, _, rfl, rfl, .inr ⟨_, rfl, _, _, rfl, rfl, .inr (by split <;> omega), ?_⟩⟩
      refine ⟨_, rfl, .inl ⟨_, rfl, _, _, rfl, rfl, (by show (0 : Int) < 2305843009213693951; decide), _, _, rfl, rfl, .inr (by omega), _, rfl, _, _, rfl, rfl, .inl (by omega), _, rfl, _, _, rfl, rfl, .inr (by omega), _, _, rfl, rfl, _, _, rfl, rfl, ?_⟩⟩
      refine ⟨_, rfl, _, rfl, .inl ⟨_, rfl, _, _, rfl, rfl, (by show (0 : Int) < 2305843009213693921; decide), (by show 3 ≤ sizeLine; decide), fun p hp => ?_⟩⟩
      exact q p _ _ _ hp (Same.new hp) ⟨upd_same, Int.emod_nonneg _ (by decide), Int.lt_trans (Int.emod_lt_of_pos _ (by decide)) (by decide), Int.le_refl _⟩
end
end K6

/-! text Q2 -/
set_option Elab.async false
set_option linter.all false
set_option maxRecDepth 100000
set_option maxHeartbeats 1000000
namespace K6
open PySem PySem.Spec PyProof.Rows L2
def rs0 : List Str := (["deed a", "deed tell 2", "sends 0", "does 10", "comes 999", "gone 7", "over", "deed over", "deed does 1"] : List Str)
def rs1 : List Str := (["", "deed", "deed a 0", "deed a 01", "deed a 1000", "deed it", "deed asked 1", "deed abcdefghi"] : List Str)
def rs2 : List Str := (["deed a -1", "deed A", "deed a 1 1", "sends", "sends 00", "sends 1000", "sends 1 ", " sends 1"] : List Str)
def rs3 : List Str := (["sends  1", "does x", "does 1.0", "comes +1", "gone -0", "over 0", "Over", "over ", "off 1"] : List Str)
def rs4 : List Str := (["deed a_b", "deed 1", "deed a!", "does 1e1"] : List Str)
/-- the rows that are drawn -/
def rowsL : List Str := (((rs0 ++ rs0 ++ rs0 ++ rs1) ++ rs2) ++ rs3) ++ rs4
abbrev sRow : Stmt := top 18
section
variable {P : Program} {w : World} {K : PySem.W.Frag} {mg : Str → Option Value} {base : Heap}
theorem scRow : FnScope ["_law_pot_here", "_law_some"] ["_law_pot_here"] (defScope sRow) := ⟨rfl, rfl, rfl, by decide +kernel, rfl, by decide +kernel, by decide +kernel⟩
def spRow : Sp := fun vs H Q _ => ∃ (a : Addr) (p0 p1 p2 : Int), vs = [.ref a] ∧ Pot a p0 p1 p2 H ∧ p2 ≤ 300 ∧ ∀ x q0 q2 H', x ∈ rowsL → q2 ≤ p2 + 1 → Fr a H H' → Pot a q0 p1 q2 H' → Q (.str x) H'
theorem Pot.same {a : Addr} {p0 p1 p2 : Int} {H H' : Hp} (h : Pot a p0 p1 p2 H) (k : Same H H') : Pot a p0 p1 p2 H' := ⟨k _ _ h.1, h.2⟩
theorem Pot.ne {a b : Addr} {p0 p1 p2 : Int} {H : Hp} (h : Pot a p0 p1 p2 H) (k : H b = none) : b ≠ a := fun z => by
  rw [z, h.1] at k
  cases k
theorem new_lst {H : Hp} {p : Addr} {xs : List V} (h : H p = none) : Same H (upd H p (.lst xs)) ∧ upd H p (.lst xs) p = some (.lst xs) := ⟨Same.new h, upd_same⟩
theorem ok_row {f : Addr} {fd : FuncData} (F : Fun K "_law_row" "_law_row" sRow f fd) (R : FnAt P w K mg base CX0 2 "_law_of" ["_law_pot_here", "_law_some"] spOf) : FnOk P w K mg base CX0 3 f fd ["_law_pot_here"] spRow := by
  refine F.ok scRow (fun vs H Q E h => ?_) (fun cdv A outer s0 H vs Q E hr h => ?_)
  · obtain ⟨a, p0, p1, p2, rfl, _⟩ := h
    rfl
  · obtain ⟨a, p0, p1, p2, rfl, hp, h2, q⟩ := h
    obtain ⟨f1, d1, m1, k1, b1, G1⟩ := R
    refine ⟨_, pss_cons (ps_set (i := 1) scRow.nd rfl (Or.inl rfl) (pe_lst (pa_cons pe_str (pa_cons pe_str (pa_cons pe_str (pa_cons pe_str (pa_cons pe_str (pa_cons pe_str (pa_cons pe_str (pa_cons pe_str (pa_cons pe_str pa_nil)))))))))))
      (pss_cons (ps_set (i := 1) scRow.nd rfl (Or.inl rfl) (pe_op op_cat (pe_op op_rep (pv 1) pe_int) (pe_lst (pa_cons pe_str (pa_cons pe_str (pa_cons pe_str (pa_cons pe_str (pa_cons pe_str (pa_cons pe_str (pa_cons pe_str (pa_cons pe_str pa_nil)))))))))))
      (pss_cons (ps_set (i := 1) scRow.nd rfl (Or.inl rfl) (pe_op op_cat (pv 1) (pe_lst (pa_cons pe_str (pa_cons pe_str (pa_cons pe_str (pa_cons pe_str (pa_cons pe_str (pa_cons pe_str (pa_cons pe_str (pa_cons pe_str pa_nil)))))))))))
      (pss_cons (ps_set (i := 1) scRow.nd rfl (Or.inl rfl) (pe_op op_cat (pv 1) (pe_lst (pa_cons pe_str (pa_cons pe_str (pa_cons pe_str (pa_cons pe_str (pa_cons pe_str (pa_cons pe_str (pa_cons pe_str (pa_cons pe_str (pa_cons pe_str pa_nil))))))))))))
      (pss_one (ps_ret (by exact pe_call G1 hr rfl m1 k1 b1 .nil pass0 (pa_cons (pv 0) (pa_cons (pe_op op_cat (pv 1) (pe_lst (pa_cons pe_str (pa_cons pe_str (pa_cons pe_str (pa_cons pe_str pa_nil)))))) pa_nil)))))))), ?_⟩
    refine ⟨(by show 9 ≤ sizeLine; decide), fun l0 e0 => ?_⟩
    obtain ⟨s0, t0⟩ := new_lst (xs := rs0.map V.str) e0
    refine ⟨_, rfl, l0, 3, rs0.map V.str, rfl, rfl, t0, by decide, by decide, by decide, fun l1 e1 => ?_⟩
    obtain ⟨s1, t1⟩ := new_lst (xs := (rs0 ++ rs0 ++ rs0).map V.str) e1
    refine ⟨(by show 8 ≤ sizeLine; decide), fun l2 e2 => ?_⟩
    obtain ⟨s2, t2⟩ := new_lst (xs := rs1.map V.str) e2
    refine ⟨l1, l2, (rs0 ++ rs0 ++ rs0).map V.str, rs1.map V.str, rfl, rfl, s2 _ _ t1, t2, by decide, fun l3 e3 => ?_⟩
    obtain ⟨s3, t3⟩ := new_lst (xs := (rs0 ++ rs0 ++ rs0 ++ rs1).map V.str) e3
    refine ⟨_, rfl, (by show 8 ≤ sizeLine; decide), fun l4 e4 => ?_⟩
    obtain ⟨s4, t4⟩ := new_lst (xs := rs2.map V.str) e4
    refine ⟨l3, l4, (rs0 ++ rs0 ++ rs0 ++ rs1).map V.str, rs2.map V.str, rfl, rfl, s4 _ _ t3, t4, by decide, fun l5 e5 => ?_⟩
    obtain ⟨s5, t5⟩ := new_lst (xs := ((rs0 ++ rs0 ++ rs0 ++ rs1) ++ rs2).map V.str) e5
    refine ⟨_, rfl, (by show 9 ≤ sizeLine; decide), fun l6 e6 => ?_⟩
    obtain ⟨s6, t6⟩ := new_lst (xs := rs3.map V.str) e6
    refine ⟨l5, l6, ((rs0 ++ rs0 ++ rs0 ++ rs1) ++ rs2).map V.str, rs3.map V.str, rfl, rfl, s6 _ _ t5, t6, by decide, fun l7 e7 => ?_⟩
    obtain ⟨s7, t7⟩ := new_lst (xs := (((rs0 ++ rs0 ++ rs0 ++ rs1) ++ rs2) ++ rs3).map V.str) e7
    refine ⟨_, rfl, _, rfl, (by show 4 ≤ sizeLine; decide), fun l8 e8 => ?_⟩
    obtain ⟨s8, t8⟩ := new_lst (xs := rs4.map V.str) e8
    refine ⟨l7, l8, (((rs0 ++ rs0 ++ rs0 ++ rs1) ++ rs2) ++ rs3).map V.str, rs4.map V.str, rfl, rfl, s8 _ _ t7, t8, by decide, fun l9 e9 => ?_⟩
    obtain ⟨s9, t9⟩ := new_lst (xs := rowsL.map V.str) e9
    have sa : Same H _ := s0.trans (s1.trans (s2.trans (s3.trans (s4.trans (s5.trans (s6.trans (s7.trans s8)))))))
    have pa := hp.same (sa.trans s9)
    refine ⟨a, l9, p0, p1, p2, rowsL.map V.str, rfl, pa, h2, t9, (hp.same sa).ne e9, by decide, by decide, fun x q0 q2 H' hx hq hf hp' => ?_⟩
    obtain ⟨y, hy, rfl⟩ := List.mem_map.mp hx
    exact q y q0 q2 H' hy hq (fun b o hb e => hf b o hb ((sa.trans s9) b o e)) hp'
end
end K6

/-! text QL -/
set_option Elab.async false
set_option linter.all false
set_option maxRecDepth 100000
set_option maxHeartbeats 4000000
namespace L2
open PySem PySem.Spec PyProof.Rows
/-- names: the keys of a dict, or the items of a list, a tuple -/
def Nm (K : PySem.W.Frag) (H : Hp) (v : V) (ns : List Str) : Prop := ∃ a : Addr, v = .ref a ∧
  ((∃ kvs : List (Key × V), H a = some (.dK kvs) ∧ kvs.map (·.1) = ns.map Sum.inr) ∨ SqL K H a (ns.map V.str) ∨ SqT K H a (ns.map V.str))
theorem valV_names {x : Str} : ∀ {kvs : List (Key × V)} {ns : List Str}, kvs.map (·.1) = ns.map Sum.inr → (valV kvs (Sum.inr x : Key)).isSome = ns.contains x
  | [], [], _ => rfl
  | [], _ :: _, h => by cases h
  | _ :: _, [], h => by cases h
  | (k, v) :: r, n :: ns, h => by
    rw [List.map_cons, List.map_cons] at h
    obtain ⟨h1, h2⟩ := List.cons.inj h
    have ih := valV_names (x := x) h2
    have h1' : k = Sum.inr n := h1
    subst h1'
    unfold valV at ih ⊢
    rw [List.find?_cons, List.contains_cons]
    by_cases e : n = x
    · subst e
      simp
    · have e1 : decide ((Sum.inr n : Key) = Sum.inr x) = false := decide_eq_false (fun z => e (Sum.inr.inj z))
      have e2 : (x == n) = false := beq_eq_false_iff_ne.mpr (fun z => e z.symm)
      rw [e2, Bool.false_or, ← ih]
      simp only [e1]
theorem flatS (l : List Str) : (l.map V.str).all flatV = true := by
  rw [List.all_map]
  exact List.all_eq_true.mpr fun _ _ => rfl
theorem inVS (x : Str) (l : List Str) : inV (V.str x) (l.map V.str) = l.contains x := by
  unfold inV
  rw [List.any_map]
  induction l with
  | nil => rfl
  | cons a r ih =>
    rw [List.any_cons, ih, List.contains_cons]
    show ((a == x) || _) = ((x == a) || _)
    rw [BEq.comm]
def rInN (K : PySem.W.Frag) (neg : Bool) : R2 := fun x y H Q => ∃ (z : Str) (ns : List Str), x = .str z ∧ Nm K H y ns ∧ Q (.bl (if neg then !ns.contains z else ns.contains z)) H
theorem op_inN {X : Cx} (hu : X.A.units + 1 < cLine) : OpR X (compareOp .In) (rInN X.K false) := by
  intro pins s σ H x y v u Q I rx ry h
  obtain ⟨z, ns, rfl, ⟨a, rfl, h⟩, q⟩ := h
  rcases h with ⟨kvs, hk, e⟩ | h | h
  · obtain rfl : u = Value.ref a := ry
    refine d_in hu I (DGet.k (k := Sum.inr z) hk) rx fun s3 I3 => ⟨.bl (valV kvs (Sum.inr z : Key)).isSome, H, I3, rfl, ?_⟩
    rw [valV_names e]
    exact q
  · refine op_in_seq pins s σ H (.str z) (.ref a) v u Q I rx ry ⟨a, _, rfl, .inl h, rfl, flatS _, ?_⟩
    rw [inVS]
    exact q
  · refine op_in_seq pins s σ H (.str z) (.ref a) v u Q I rx ry ⟨a, _, rfl, .inr h, rfl, flatS _, ?_⟩
    rw [inVS]
    exact q
theorem op_notInN {X : Cx} (hu : X.A.units + 1 < cLine) : OpR X (compareOp .NotIn) (rInN X.K true) := by
  intro pins s σ H x y v u Q I rx ry h
  obtain ⟨z, ns, rfl, ⟨a, rfl, h⟩, q⟩ := h
  rcases h with ⟨kvs, hk, e⟩ | h | h
  · obtain rfl : u = Value.ref a := ry
    refine d_notIn hu I (DGet.k (k := Sum.inr z) hk) rx fun s3 I3 => ⟨.bl (!(valV kvs (Sum.inr z : Key)).isSome), H, I3, rfl, ?_⟩
    rw [valV_names e]
    exact q
  · refine op_notIn_seq pins s σ H (.str z) (.ref a) v u Q I rx ry ⟨a, _, rfl, .inl h, rfl, flatS _, ?_⟩
    rw [inVS]
    exact q
  · refine op_notIn_seq pins s σ H (.str z) (.ref a) v u Q I rx ry ⟨a, _, rfl, .inr h, rfl, flatS _, ?_⟩
    rw [inVS]
    exact q
/-- a comprehension over a text -/
theorem lc_str {x : Str} {g : TG} {tt : TT} {te : TE} {vs : List Nat} {σ : St} {H1 : Hp} {D : Addr} {Qd : Hp → Prop} (Pv : Nat → Hp → Prop) (h0 : Pv 0 (upd H1 D (.lst [])))
    (hs : ∀ i c H, x.cps[i]? = some c → Pv i H → g (.str ⟨#[c]⟩) (wipe σ vs) H fun σ2 H2 => wipe σ2 vs = wipe σ vs ∧ tt σ2 H2 fun b H3 =>
      if b = true then te σ2 H3 fun y H4 => ∃ acc, H4 D = some (.lst acc) ∧ acc.length < sizeLine ∧ Pv (i + 1) (upd H4 D (.lst (acc ++ [y]))) else Pv (i + 1) H3) (hd : ∀ H, Pv x.cps.size H → Qd H) :
    ∃ W : Nat → Nat → Hp → Prop, (∃ m, W 0 m (upd H1 D (.lst []))) ∧ ∀ i m H, W i m H →
      ((Its x).stop i H ∧ Qd H) ∨ ((Its x).go i H ∧ ∃ Nx : Hp → Prop, (∀ H', Nx H' → ∃ m', m' < m ∧ W (i + 1) m' H') ∧ ∀ y H', (Its x).yld i H y H' → g y (wipe σ vs) H' fun σ2 H2 => wipe σ2 vs = wipe σ vs ∧ tt σ2 H2 fun b H3 =>
        if b = true then te σ2 H3 fun y H4 => ∃ acc, H4 D = some (.lst acc) ∧ acc.length < sizeLine ∧ Nx (upd H4 D (.lst (acc ++ [y]))) else Nx H3) := by
  refine ⟨fun i m H => m = x.cps.size - i ∧ i ≤ x.cps.size ∧ Pv i H, ⟨x.cps.size, by simp, Nat.zero_le _, h0⟩, ?_⟩
  rintro i m H ⟨rfl, hi, p⟩
  by_cases hlt : i < x.cps.size
  · refine .inr ⟨hlt, Pv (i + 1), fun H' p' => ⟨x.cps.size - (i + 1), by omega, rfl, hlt, p'⟩, fun y H' hy => ?_⟩
    obtain ⟨e, c, ec, ey⟩ := hy
    subst e
    subst ey
    exact hs i c _ ec p
  · have e : i = x.cps.size := by omega
    subst e
    exact .inl ⟨Nat.le_refl _, hd H p⟩
end L2

/-! text PA -/
set_option Elab.async false
set_option linter.all false
set_option maxRecDepth 100000
set_option maxHeartbeats 1000000
namespace K6
open PySem PySem.Spec PyProof.Rows L2
def pLETT : Str := "abcdefghijklmnopqrstuvwxyz"
def pDIGS : Str := "0123456789"
def pAll (z : Str) (w : Str) : Bool := w.cps.toList.all fun c => decide (c ∈ z.cps.toList)
def pName (x : Str) : Bool := (decide (1 ≤ x.length) && decide (x.length ≤ 8)) && !(["it", "asked"] : List Str).contains x && pAll pLETT x
def pNum (x : Str) : Bool := (decide (1 ≤ x.length) && decide (x.length ≤ 3)) && pAll pDIGS x && (decide (x = "0") || !decide (x.cps.getD 0 0 = 48))
structure PNm (K : PySem.W.Frag) (mg : Str → Option Value) : Prop where
  len : mg "len" = none
  all : mg "all" = none
  int : mg "int" = none
  gL : ∃ t, mg "LETTERS" = some (.str pLETT t)
  gD : ∃ t, mg "DIGITS" = some (.str pDIGS t)
  gM : ∃ t, mg "MOST_FIGURES" = some (.int 3 t)
  gT : ∃ a, mg "TASK_WORDS" = some (.ref a) ∧ ∀ H, SqT K H a [.str "sends", .str "does", .str "comes", .str "gone"]
  gO : ∃ a, mg "OVER" = some (.ref a) ∧ ∀ H, SqT K H a [.str "over"]
abbrev sPIsName : Stmt := top 6
abbrev sPNum : Stmt := top 13
abbrev sPMov : Stmt := top 12
abbrev sPRead : Stmt := top 11
section
variable {P : Program} {w : World} {K : PySem.W.Frag} {mg : Str → Option Value} {base : Heap}
def spPName : Sp := fun vs H Q _ => ∃ x : Str, vs = [.str x] ∧ x.length ≤ 1000000 ∧ ∀ H', Same H H' → Q (.bl (pName x)) H'
theorem scPName : FnScope ["word", "letter"] ["word"] (defScope sPIsName) := ⟨rfl, rfl, rfl, by decide +kernel, rfl, by decide +kernel, by decide +kernel⟩
theorem ok_pname {f : Addr} {fd : FuncData} (F : Fun K "is_name" "is_name" sPIsName f fd) (T : PNm K mg) : FnOk P w K mg base CX0 1 f fd ["word"] spPName := by
  refine F.ok scPName (fun vs H Q E h => ?_) (fun cdv A outer s H vs Q E hr h => ?_)
  · obtain ⟨x, rfl, _⟩ := h
    rfl
  · obtain ⟨x, rfl, hx, k⟩ := h
    obtain ⟨tL, gL⟩ := T.gL
    refine ⟨_, pss_cons (ps_if (PW.pt (pw_or (pt_not (pt_chain op_le op_le pe_int (pe_callB call_len_str (by rfl) T.len PySem.boot_len (pa_cons (pv 0) pa_nil)) pe_int)) (pw_or1 (pt_cmpR (op_inN (hu_of hr)) (pv 0) (pe_tup (pa_cons pe_str (pa_cons pe_str pa_nil))) rfl)))) (pss_one (ps_ret pe_bl)) pss_nil)
      (pss_one (ps_ret (pe_callB (cr_all rfl) (by rfl) T.all (by decide +kernel) (pa_cons (pe_lc (own := [("letter", 1)]) (g := gName 1) (tt := tYes) rfl scPName.nd (pi_str (pv 0)) (blkOk_by (own := [("letter", 1)]) (N := ["word", "letter"]) (sc := defScope sPIsName) (by decide +kernel)) (fun _ _ _ _ _ => pg_name (i := 1) scPName.nd rfl (Or.inl rfl)) (fun _ _ _ _ _ => pts_nil)
        (fun _ _ _ _ _ => pe_cmpR op_in_sign (pv 1) (pe_glob (v := .str pLETT) rfl gL ⟨_, rfl⟩) rfl)) pa_nil)))), ?_⟩
    have hsl := sizeLine_eq
    have no : ∀ {H' : Hp}, Same H H' → pName x = false → Q (.bl false) H' := fun s1 e => by
      rw [← e]
      exact k _ s1
    refine ⟨_, rfl, _, rfl, (by omega), _, _, rfl, rfl, _, rfl, ?_⟩
    refine ite2 (fun c1 => ?_) (fun c1 => ?_)
    · refine ⟨_, _, rfl, rfl, _, rfl, ?_⟩
      refine ite2 (fun c2 => ?_) (fun c2 => ?_)
      · refine iteT (no (Same.refl H) ?_)
        unfold pName
        have z : ¬ x.length ≤ 8 := fun z => by
          rw [decide_eq_true (show (x.length : Int) ≤ 8 by omega)] at c2
          cases c2
        rw [decide_eq_false z]
        simp
      · refine ⟨_, rfl, (by show 2 ≤ sizeLine; omega), fun t ht => ?_⟩
        refine ⟨x, ["it", "asked"], rfl, ⟨t, rfl, .inr (.inr (SqT.of upd_same))⟩, _, rfl, ?_⟩
        have c3 : x.length ≤ 8 := by
          rcases Nat.lt_or_ge 8 x.length with z | z
          · exact absurd (by rw [decide_eq_false (show ¬ (x.length : Int) ≤ 8 by omega)]; rfl) c2
          · exact z
        have c4 : 1 ≤ x.length := by
          have z := of_decide_eq_true c1
          omega
        have st := Same.new (o := .tup [V.str "it", V.str "asked"]) ht
        refine ite2 (fun c5 => ?_) (fun c5 => ?_)
        · refine no st ?_
          unfold pName
          have z : (["it", "asked"] : List Str).contains x = true := c5
          rw [z]
          simp
        · have z : (["it", "asked"] : List Str).contains x = false := by
            cases e : (["it", "asked"] : List Str).contains x with
            | false => rfl
            | true => exact absurd e c5
          have ev : pName x = pAll pLETT x := by
            unfold pName
            rw [decide_eq_true c3, decide_eq_true c4, z]
            rfl
          refine ⟨_, rfl, _, rfl, fun D hD => ?_⟩
          refine lc_str (fun i H' => Same H H' ∧ H' D = some (.lst ((x.cps.toList.take i).map fun c => V.bl (decide (c ∈ pLETT.cps.toList))))) ⟨st.trans (Same.new hD), upd_same⟩ ?_ ?_
          · rintro i c H' hc ⟨s1, h1⟩
            have hlt : i < x.cps.size := (Array.getElem?_eq_some_iff.mp hc).1
            have hxl : x.cps.size ≤ 1000000 := hx
            refine ⟨rfl, ?_⟩
            refine ⟨_, rfl, c, pLETT, rfl, rfl, _, h1, (by rw [List.length_map, List.length_take, Array.length_toList]; omega), ?_⟩
            refine ⟨fun b o e => ?_, ?_⟩
            · rw [upd_ne (fun z => by
                rw [z] at e
                rw [(st.free hD)] at e
                cases e)]
              exact s1 b o e
            · rw [upd_same, List.take_add_one, List.map_append]
              rw [show x.cps.toList[i]? = some c from by rw [Array.getElem?_toList]; exact hc]
              rfl
          · rintro H' ⟨s1, h1⟩
            refine ⟨D, x.cps.toList.map fun c => decide (c ∈ pLETT.cps.toList), rfl, SqL.of ?_, ?_⟩
            · rw [h1, List.map_map, ← Array.length_toList, List.take_length]
              rfl
            · rw [List.all_map]
              have e2 : (x.cps.toList.all (id ∘ fun c => decide (c ∈ pLETT.cps.toList))) = pName x := by
                rw [ev]
                rfl
              rw [e2]
              exact k _ s1
    · refine ⟨_, rfl, iteT (iteT (no (Same.refl H) ?_))⟩
      unfold pName
      have z : ¬ 1 ≤ x.length := fun z => by
        rw [decide_eq_true (show (1 : Int) ≤ (x.length : Int) by omega)] at c1
        exact c1 rfl
      rw [decide_eq_false z]
      simp
def spPNum : Sp := fun vs H Q _ => ∃ x : Str, vs = [.str x] ∧ x.length ≤ 1000000 ∧ ∀ H', Same H H' → Q (.bl (pNum x)) H'
theorem scPNum : FnScope ["word", "figure"] ["word"] (defScope sPNum) := ⟨rfl, rfl, rfl, by decide +kernel, rfl, by decide +kernel, by decide +kernel⟩
theorem ok_pnum {f : Addr} {fd : FuncData} (F : Fun K "is_number" "is_number" sPNum f fd) (T : PNm K mg) : FnOk P w K mg base CX0 1 f fd ["word"] spPNum := by
  refine F.ok scPNum (fun vs H Q E h => ?_) (fun cdv A outer s H vs Q E hr h => ?_)
  · obtain ⟨x, rfl, _⟩ := h
    rfl
  · obtain ⟨x, rfl, hx, k⟩ := h
    obtain ⟨tD, gD⟩ := T.gD
    obtain ⟨tM, gM⟩ := T.gM
    refine ⟨_, pss_cons (ps_if (PW.pt (pw_or (pt_not (pt_chain op_le op_le pe_int (pe_callB call_len_str (by rfl) T.len PySem.boot_len (pa_cons (pv 0) pa_nil)) (pe_glob (v := .int 3) rfl gM ⟨_, rfl⟩))) (pw_or1 (pt_not (pt_val (pe_callB (cr_all rfl) (by rfl) T.all (by decide +kernel) (pa_cons (pe_lc (own := [("figure", 1)]) (g := gName 1) (tt := tYes) rfl scPNum.nd (pi_str (pv 0)) (blkOk_by (own := [("figure", 1)]) (N := ["word", "figure"]) (sc := defScope sPNum) (by decide +kernel)) (fun _ _ _ _ _ => pg_name (i := 1) scPNum.nd rfl (Or.inl rfl)) (fun _ _ _ _ _ => pts_nil)
        (fun _ _ _ _ _ => pe_cmpR op_in_sign (pv 1) (pe_glob (v := .str pDIGS) rfl gD ⟨_, rfl⟩) rfl)) pa_nil))))))) (pss_one (ps_ret pe_bl)) pss_nil)
      (pss_one (ps_ret (pe_or (pe_cmpR op_eq (pv 0) pe_str (nomark _)) (pe_one (pe_cmpR op_ne (pe_ix ix_str (pv 0) pe_int (fun _ _ => rfl)) pe_str (nomark _)))))), ?_⟩
    have hsl := sizeLine_eq
    have no : ∀ {H' : Hp}, Same H H' → pNum x = false → Q (.bl false) H' := fun s1 e => by
      rw [← e]
      exact k _ s1
    refine ⟨_, rfl, _, rfl, (by omega), _, _, rfl, rfl, _, rfl, ?_⟩
    refine ite2 (fun c1 => ?_) (fun c1 => ?_)
    · refine ⟨_, _, rfl, rfl, _, rfl, ?_⟩
      refine ite2 (fun c2 => ?_) (fun c2 => ?_)
      · refine iteT (no (Same.refl H) ?_)
        unfold pNum
        have z : ¬ x.length ≤ 3 := fun z => by
          rw [decide_eq_true (show (x.length : Int) ≤ 3 by omega)] at c2
          cases c2
        rw [decide_eq_false z]
        simp
      · have c3 : x.length ≤ 3 := by
          rcases Nat.lt_or_ge 3 x.length with z | z
          · exact absurd (by rw [decide_eq_false (show ¬ (x.length : Int) ≤ 3 by omega)]; rfl) c2
          · exact z
        have c4 : 1 ≤ x.length := by
          have z := of_decide_eq_true c1
          omega
        have ev : pNum x = (pAll pDIGS x && (decide (x = "0") || !decide (x.cps.getD 0 0 = 48))) := by
          unfold pNum
          rw [decide_eq_true c3, decide_eq_true c4]
          rfl
        refine ⟨_, rfl, _, rfl, fun D hD => ?_⟩
        refine lc_str (fun i H' => Same H H' ∧ H' D = some (.lst ((x.cps.toList.take i).map fun c => V.bl (decide (c ∈ pDIGS.cps.toList))))) ⟨Same.new hD, upd_same⟩ ?_ ?_
        · rintro i c H' hc ⟨s1, h1⟩
          have hlt : i < x.cps.size := (Array.getElem?_eq_some_iff.mp hc).1
          have hxl : x.cps.size ≤ 1000000 := hx
          refine ⟨rfl, ?_⟩
          refine ⟨_, rfl, c, pDIGS, rfl, rfl, _, h1, (by rw [List.length_map, List.length_take, Array.length_toList]; omega), ?_⟩
          refine ⟨fun b o e => ?_, ?_⟩
          · rw [upd_ne (ne_of_none e hD)]
            exact s1 b o e
          · rw [upd_same, List.take_add_one, List.map_append]
            rw [show x.cps.toList[i]? = some c from by rw [Array.getElem?_toList]; exact hc]
            rfl
        · rintro H' ⟨s1, h1⟩
          refine ⟨D, x.cps.toList.map fun c => decide (c ∈ pDIGS.cps.toList), rfl, SqL.of ?_, ?_⟩
          · rw [h1, List.map_map, ← Array.length_toList, List.take_length]
            rfl
          rw [List.all_map]
          rw [show (x.cps.toList.all (id ∘ fun c => decide (c ∈ pDIGS.cps.toList))) = pAll pDIGS x from rfl]
          refine ⟨_, rfl, ?_⟩
          cases ha : pAll pDIGS x with
          | false =>
            refine iteT (no s1 ?_)
            rw [ev, ha]
            rfl
          | true =>
            refine iteF ?_
            have fin : ∀ {b : Bool}, (decide (x = "0") || !decide (x.cps.getD 0 0 = 48)) = b → Q (.bl b) H' := fun {b} e => by
              have z := k _ s1
              rw [ev, ha, e] at z
              exact z
            refine ⟨_, rfl, rfl, _, rfl, ?_⟩
            refine ite2 (fun c5 => ?_) (fun c5 => ?_)
            · exact fin (by rw [decide_eq_true (V.str.inj (of_decide_eq_true c5))]; rfl)
            · have hz : ¬ x = "0" := fun z => c5 (decide_eq_true (by rw [z]))
              have hlen : 0 < x.cps.size := c4
              obtain ⟨c, hc⟩ : ∃ c, x.cps[0]? = some c := ⟨_, Array.getElem?_eq_getElem hlen⟩
              have hd : x.cps.getD 0 0 = c := by
                rw [Array.getD_eq_getD_getElem?, hc]
                rfl
              refine ⟨_, rfl, x, 0, c, rfl, rfl, by show x.cps.size ≤ _; have : x.cps.size ≤ 3 := c3; omega, (atI_nat (j := 0) (by rw [Array.getElem?_toList]; exact hc)), rfl, ?_⟩
              by_cases c6 : c = 48
              · have e : (V.str ⟨#[c]⟩ = V.str "0") := by rw [c6]; rfl
                rw [decide_eq_true e]
                exact fin (by rw [decide_eq_false hz, hd, decide_eq_true c6]; rfl)
              · have e : ¬ (V.str ⟨#[c]⟩ = V.str "0") := fun z => by
                  have z2 := V.str.inj z
                  have z3 : (#[c] : Array Nat) = #[48] := congrArg Str.cps z2
                  injection z3 with z3
                  injection z3 with z3
                  exact c6 z3
                rw [decide_eq_false e]
                exact fin (by rw [decide_eq_false hz, hd, decide_eq_false c6]; rfl)
    · refine ⟨_, rfl, iteT (iteT (no (Same.refl H) ?_))⟩
      unfold pNum
      have z : ¬ 1 ≤ x.length := fun z => by
        rw [decide_eq_true (show (1 : Int) ≤ (x.length : Int) by omega)] at c1
        exact c1 rfl
      rw [decide_eq_false z]
      simp
end
end K6

/-! text PB -/
set_option Elab.async false
set_option linter.all false
set_option maxRecDepth 100000
set_option maxHeartbeats 1000000
namespace K6
open PySem PySem.Spec PyProof.Rows L2
def pHeads : List Str := ["sends", "does", "comes", "gone"]
def pInt (w : Str) : PyData := match PySem.intText? w with
  | some n => .int n
  | none => .none
def pTail (ws : List Str) : PyData := if (pHeads.contains (ws.getD 0 "") && (decide (ws.length = 2) && pNum (ws.getD 1 ""))) = true then .tuple [.str (ws.getD 0 ""), pInt (ws.getD 1 "")] else .none
def pDeed (ws : List Str) : PyData := if decide (ws.length = 2) = true then .tuple [.str "deed", .str (ws.getD 1 ""), .int 0] else
  if (pNum (ws.getD 2 "") && !decide (ws.getD 2 "" = "0")) = true then .tuple [.str "deed", .str (ws.getD 1 ""), pInt (ws.getD 2 "")] else .none
def pMov (x : Str) : PyData := if decide (x = "over") = true then .tuple [.str "over"] else
  if (decide ((Txt.split x " ").getD 0 "" = "deed") && ((decide ((Txt.split x " ").length = 2) || decide ((Txt.split x " ").length = 3)) && pName ((Txt.split x " ").getD 1 ""))) = true then pDeed (Txt.split x " ") else pTail (Txt.split x " ")
def WdOk (w : Str) : Prop := w.length ≤ 100 ∧ (pNum w = true → (PySem.intText? w).isSome = true)
structure PRow (x : Str) : Prop where
  len : x.length ≤ 100
  few : (Txt.split x " ").length ≤ 100
  some : 0 < (Txt.split x " ").length
  wd : ∀ w ∈ Txt.split x " ", WdOk w
/-- flat data -/
inductive FlAll : List V → List PyData → Prop
  | nil : FlAll [] []
  | int (i : Int) {vs : List V} {ds : List PyData} : FlAll vs ds → FlAll (.int i :: vs) (.int i :: ds)
  | str (x : Str) {vs : List V} {ds : List PyData} : FlAll vs ds → FlAll (.str x :: vs) (.str x :: ds)
/-- a move as it lies in the heap, or none -/
inductive PMv (K : PySem.W.Frag) (H : Hp) : V → PyData → Prop
  | non : PMv K H .non .none
  | tup {a : Addr} {xs : List V} {ds : List PyData} : SqT K H a xs → FlAll xs ds → PMv K H (.ref a) (.tuple ds)
theorem pgetS {ws : List Str} {i : Nat} (h : i < ws.length) : (ws.map V.str)[i]? = some (V.str (ws.getD i "")) := by
  rw [List.getElem?_map, List.getD_eq_getElem?_getD, List.getElem?_eq_getElem h]
  rfl
theorem pgetS_mem {ws : List Str} {i : Nat} (h : i < ws.length) : ws.getD i "" ∈ ws := by
  rw [List.getD_eq_getElem?_getD, List.getElem?_eq_getElem h]
  exact List.getElem_mem h
theorem pkeep (p : Bool) {b : Bool} {X B : Prop} (hb : b = false → p = false) (rest : p = false → B) (yes : b = true → (p = false → B) → X) : if b = true then X else B := by
  cases b with
  | true => exact yes rfl rest
  | false => exact rest (hb rfl)
section
variable {P : Program} {w : World} {K : PySem.W.Frag} {mg : Str → Option Value} {base : Heap}
theorem scPMov : FnScope ["row", "words"] ["row"] (defScope sPMov) := ⟨rfl, rfl, rfl, by decide +kernel, rfl, by decide +kernel, by decide +kernel⟩
def spPMov (K : PySem.W.Frag) : Sp := fun vs H Q _ => ∃ x : Str, vs = [.str x] ∧ PRow x ∧ ∀ v H', Same H H' → PMv K H' v (pMov x) → Q v H'
theorem ok_pmov {f : Addr} {fd : FuncData} (F : Fun K "move_of_text" "move_of_text" sPMov f fd) (T : PNm K mg) (R1 : FnAt P w K mg base CX0 1 "is_name" ["word"] spPName) (R2 : FnAt P w K mg base CX0 1 "is_number" ["word"] spPNum) : FnOk P w K mg base CX0 2 f fd ["row"] (spPMov K) := by
  refine F.ok scPMov (fun vs H Q E h => ?_) (fun cdv A outer s H vs Q E hr h => ?_)
  · obtain ⟨x, rfl, _⟩ := h
    rfl
  · obtain ⟨x, rfl, ok, k⟩ := h
    obtain ⟨f1, d1, m1, k1, b1, G1⟩ := R1
    obtain ⟨f2, d2, m2, k2, b2, G2⟩ := R2
    obtain ⟨aT, gT, sT⟩ := T.gT
    obtain ⟨aO, gO, sO⟩ := T.gO
    have hsl := sizeLine_eq
    obtain ⟨tr, hps, last⟩ : ∃ tr, PSs (cxOf CX0 P w K mg base ["row", "words"] "move_of_text" (defScope sPMov) f cdv A outer s H E).nox ((defBody sPMov).drop 3) tr ∧ ∀ (ws : List Str) (l : Addr) (σ : L2.St) (H5 : Hp), 0 < ws.length → (∀ w ∈ ws, WdOk w) → H5 l = some (.lst (ws.map V.str)) → σ[1]? = some (some (.ref l)) →
        (∀ y H6, Same H5 H6 → PMv K H6 y (pTail ws) → Q y H6) → tr { nx := fun _ H' => Q .non H', rt := Q } σ H5 := by
      refine ⟨_, pss_cons (ps_if (PW.pt (pw_and (pt_cmpR (op_inN (hu_of hr)) (pe_ix ix_list (pv 1) pe_int (fun _ _ => rfl)) (pe_glob (v := .ref aT) rfl gT rfl) rfl) (pw_and (pt_cmpR op_eq (pe_callB call_len_seq (by rfl) T.len PySem.boot_len (pa_cons (pv 1) pa_nil)) pe_int (nomark _)) (pw_and1 (pt_val (by exact pe_call G2 hr rfl m2 k2 b2 .nil pass0 (pa_cons (pe_ix ix_list (pv 1) pe_int (fun _ _ => rfl)) pa_nil))))))) (pss_one (ps_ret (pe_tup (pa_cons (pe_ix ix_list (pv 1) pe_int (fun _ _ => rfl)) (pa_cons (pe_callTy call_int_str (by rfl) T.int (by decide +kernel) (pa_cons (pe_ix ix_list (pv 1) pe_int (fun _ _ => rfl)) pa_nil)) pa_nil))))) pss_nil)
        (pss_one (ps_ret pe_non)), ?_⟩
      intro ws l σ H5 hs hw el g1 fin
      have hml : (ws.map V.str).length = ws.length := List.length_map ..
      have ix : ∀ {i : Nat} {H' : Hp}, i < ws.length → Same H5 H' → SqL K H' l (ws.map V.str) ∧ atI (ws.map V.str) ((i : Nat) : Int) = some (.str (ws.getD i "")) := fun hi s2 => ⟨SqL.of (s2 _ _ el), atI_nat (pgetS hi)⟩
      refine ⟨_, g1, l, _, _, _, rfl, rfl, (ix (i := 0) hs (Same.refl H5)).1, (ix (i := 0) hs (Same.refl H5)).2, ?_⟩
      refine ⟨ws.getD 0 "", pHeads, rfl, ⟨aT, rfl, .inr (.inr (sT _))⟩, _, rfl, ?_⟩
      have no : ∀ {H' : Hp}, Same H5 H' → (pHeads.contains (ws.getD 0 "") && (decide (ws.length = 2) && pNum (ws.getD 1 ""))) = false → Q .non H' := fun s1 cN => fin _ _ s1 (by
        unfold pTail
        rw [cN]
        exact .non)
      refine ite2 (fun c => ?_) (fun c => ?_)
      · refine ⟨_, g1, l, _, rfl, .inl (ix (i := 0) hs (Same.refl H5)).1, rfl, _, rfl, ?_⟩
        rw [hml]
        refine ite2 (fun c3 => ?_) (fun c3 => ?_)
        · have l2 : ws.length = 2 := by
            have z := V.int.inj (of_decide_eq_true c3)
            omega
          refine ⟨_, g1, l, _, _, _, rfl, rfl, (ix (i := 1) (by omega) (Same.refl H5)).1, (ix (i := 1) (by omega) (Same.refl H5)).2, ?_⟩
          obtain ⟨w1l, w1n⟩ := hw _ (pgetS_mem (i := 1) (by omega))
          refine ⟨_, rfl, by omega, fun H6 s6 => ?_⟩
          refine ⟨_, rfl, ?_⟩
          cases e : pNum (ws.getD 1 "") with
          | false =>
            exact iteF (no s6 (by rw [e]; simp))
          | true =>
            refine iteT ?_
            obtain ⟨n, en⟩ := Option.isSome_iff_exists.mp (w1n e)
            refine ⟨_, g1, l, _, _, _, rfl, rfl, (ix (i := 0) (by omega) s6).1, (ix (i := 0) (by omega) s6).2, _, g1, l, _, _, _, rfl, rfl, (ix (i := 1) (by omega) s6).1, (ix (i := 1) (by omega) s6).2, _, n, rfl, en, by omega, (by show 2 ≤ sizeLine; omega), fun p hp => ?_⟩
            refine fin _ _ (s6.trans (Same.new hp)) ?_
            unfold pTail
            rw [show pHeads.contains (ws.getD 0 "") = true from c, decide_eq_true l2, e]
            unfold pInt
            rw [en]
            exact .tup (SqT.of upd_same) (.str _ (.int _ .nil))
        · exact no (Same.refl H5) (by
            rw [decide_eq_false (fun z => c3 (decide_eq_true (by rw [z]; rfl)))]
            simp)
      · exact no (Same.refl H5) (by
          rw [show pHeads.contains (ws.getD 0 "") = false from Bool.eq_false_iff.mpr c]
          rfl)
    refine ⟨_, pss_cons (ps_set (i := 1) scPMov.nd rfl (Or.inl rfl) (pe_split (pv 0) pe_str))
      (pss_cons (ps_if (pt_cmpR op_eq (pv 0) pe_str (nomark _)) (pss_one (ps_ret (pe_glob (v := .ref aO) rfl gO rfl))) pss_nil)
      (pss_cons (ps_if (PW.pt (pw_and (pt_cmpR op_eq (pe_ix ix_list (pv 1) pe_int (fun _ _ => rfl)) pe_str (nomark _)) (pw_and (pt_cmpR op_in_seq (pe_callB call_len_seq (by rfl) T.len PySem.boot_len (pa_cons (pv 1) pa_nil)) (pe_tup (pa_cons pe_int (pa_cons pe_int pa_nil))) rfl) (pw_and1 (pt_val (by exact pe_call G1 hr rfl m1 k1 b1 .nil pass0 (pa_cons (pe_ix ix_list (pv 1) pe_int (fun _ _ => rfl)) pa_nil)))))))
          (pss_cons (ps_if (pt_cmpR op_eq (pe_callB call_len_seq (by rfl) T.len PySem.boot_len (pa_cons (pv 1) pa_nil)) pe_int (nomark _)) (pss_one (ps_ret (pe_tup (pa_cons pe_str (pa_cons (pe_ix ix_list (pv 1) pe_int (fun _ _ => rfl)) (pa_cons pe_int pa_nil)))))) pss_nil)
          (pss_one (ps_ret (pe_ifExp (PW.pt (pw_and (pt_val (by exact pe_call G2 hr rfl m2 k2 b2 .nil pass0 (pa_cons (pe_ix ix_list (pv 1) pe_int (fun _ _ => rfl)) pa_nil))) (pw_and1 (pt_cmpR op_ne (pe_ix ix_list (pv 1) pe_int (fun _ _ => rfl)) pe_str (nomark _))))) (pe_tup (pa_cons pe_str (pa_cons (pe_ix ix_list (pv 1) pe_int (fun _ _ => rfl)) (pa_cons (pe_callTy call_int_str (by rfl) T.int (by decide +kernel) (pa_cons (pe_ix ix_list (pv 1) pe_int (fun _ _ => rfl)) pa_nil)) pa_nil)))) pe_non)))) pss_nil)
      hps)), ?_⟩
    have fin : ∀ {v : V} {H' : Hp} {d : PyData}, Same H H' → pMov x = d → PMv K H' v d → Q v H' := fun s1 e h => k _ _ s1 (e ▸ h)
    have hxl := ok.len
    refine ⟨_, rfl, ⟨_, rfl⟩, _, _, rfl, rfl, by decide +kernel, (by omega), fun l hl => ?_⟩
    have s1 := Same.new (o := .lst ((Txt.split x " ").map V.str)) hl
    have e1 : (upd H l (.lst ((Txt.split x " ").map V.str))) l = some (.lst ((Txt.split x " ").map V.str)) := upd_same
    generalize upd H l (.lst ((Txt.split x " ").map V.str)) = H1 at s1 e1
    refine ⟨_, rfl, rfl, _, rfl, ?_⟩
    refine ite2 (fun c1 => ?_) (fun c1 => ?_)
    · refine fin (d := .tuple [.str "over"]) s1 ?_ (.tup (sO _) (.str _ .nil))
      unfold pMov
      rw [decide_eq_true (V.str.inj (of_decide_eq_true c1))]
      rfl
    have h1 : ¬ x = "over" := fun z => c1 (decide_eq_true (by rw [z]))
    have ev : pMov x = if (decide ((Txt.split x " ").getD 0 "" = "deed") && ((decide ((Txt.split x " ").length = 2) || decide ((Txt.split x " ").length = 3)) && pName ((Txt.split x " ").getD 1 ""))) = true then pDeed (Txt.split x " ") else pTail (Txt.split x " ") := by
      unfold pMov
      rw [decide_eq_false h1]
      rfl
    have hfew := ok.few
    have hsome := ok.some
    have hwd := ok.wd
    generalize Txt.split x " " = ws at ev e1 hfew hsome hwd
    have hml : (ws.map V.str).length = ws.length := List.length_map ..
    have ix : ∀ {i : Nat} {H' : Hp}, i < ws.length → Same H1 H' → SqL K H' l (ws.map V.str) ∧ atI (ws.map V.str) ((i : Nat) : Int) = some (.str (ws.getD i "")) := fun hi s2 => ⟨SqL.of (s2 _ _ e1), atI_nat (pgetS hi)⟩
    have dd : ∀ (y z : Str), decide (V.str y = V.str z) = decide (y = z) := fun y z => by
      by_cases e : y = z
      · rw [decide_eq_true e, e]
        exact decide_eq_true rfl
      · rw [decide_eq_false e, decide_eq_false (fun q => e (V.str.inj q))]
    refine ⟨_, rfl, l, _, _, _, rfl, rfl, (ix (i := 0) hsome (Same.refl H1)).1, (ix (i := 0) hsome (Same.refl H1)).2, rfl, _, rfl, ?_⟩
    rw [dd]
    have no : ∀ {H' : Hp} {σ : L2.St}, σ[1]? = some (some (.ref l)) → Same H1 H' → (decide (ws.getD 0 "" = "deed") && ((decide (ws.length = 2) || decide (ws.length = 3)) && pName (ws.getD 1 ""))) = false → tr { nx := fun _ H' => Q .non H', rt := Q } σ H' := fun g s2 cN => last ws l _ _ hsome hwd (s2 _ _ e1) g (fun y H6 s6 e => k _ _ (s1.trans (s2.trans s6)) (by
      rw [ev, cN]
      exact e))
    refine ite2 (fun c => ?_) (fun c => ?_)
    · refine ⟨_, rfl, l, _, rfl, .inl (ix (i := 0) hsome (Same.refl H1)).1, (by show 2 ≤ sizeLine; omega), fun t ht => ?_⟩
      have s2 := Same.new (o := .tup [V.int 2, V.int 3]) ht
      have ht2 : (upd H1 t (.tup [V.int 2, V.int 3])) t = some (.tup [V.int 2, V.int 3]) := upd_same
      generalize upd H1 t (.tup [V.int 2, V.int 3]) = H2 at s2 ht2
      refine ⟨t, _, rfl, .inr (SqT.of ht2), rfl, rfl, _, rfl, ?_⟩
      have ei : inV (V.int ((ws.map V.str).length : Int)) [V.int 2, V.int 3] = (decide (ws.length = 2) || decide (ws.length = 3)) := by
        rw [hml]
        show (((2 : Int) == (ws.length : Int)) || (((3 : Int) == (ws.length : Int)) || false)) = _
        rw [Bool.or_false]
        congr 1
        · rw [Bool.eq_iff_iff, beq_iff_eq, decide_eq_true_iff]
          omega
        · rw [Bool.eq_iff_iff, beq_iff_eq, decide_eq_true_iff]
          omega
      rw [ei]
      refine ite2 (fun c2 => ?_) (fun c2 => ?_)
      · have c2 : (decide (ws.length = 2) || decide (ws.length = 3)) = true := c2
        have l2 : 2 ≤ ws.length := by
          rcases (Bool.or_eq_true _ _).mp c2 with z | z
          · have z := of_decide_eq_true z
            omega
          · have z := of_decide_eq_true z
            omega
        refine ⟨_, rfl, l, _, _, _, rfl, rfl, (ix (i := 1) (by omega) s2).1, (ix (i := 1) (by omega) s2).2, ?_⟩
        obtain ⟨w1l, w1n⟩ := hwd _ (pgetS_mem (i := 1) (by omega))
        refine ⟨_, rfl, by omega, fun H3 s3 => ?_⟩
        refine ⟨_, rfl, ?_⟩
        have s23 := s2.trans s3
        cases e : pName (ws.getD 1 "") with
        | false => exact iteF (no rfl s23 (by rw [e]; simp))
        | true =>
          refine iteT ?_
          have ed : pMov x = pDeed ws := by
            rw [ev, c, c2, e]
            rfl
          refine ⟨_, rfl, l, _, rfl, .inl (SqL.of (s23 _ _ e1)), rfl, _, rfl, ?_⟩
          rw [hml]
          refine ite2 (fun c3 => ?_) (fun c3 => ?_)
          · have l22 : ws.length = 2 := by
              have z := V.int.inj (of_decide_eq_true c3)
              omega
            refine ⟨_, rfl, l, _, _, _, rfl, rfl, (ix (i := 1) (by omega) s23).1, (ix (i := 1) (by omega) s23).2, (by show 3 ≤ sizeLine; omega), fun p hp => ?_⟩
            refine fin (s1.trans (s23.trans (Same.new hp))) (d := .tuple [.str "deed", .str (ws.getD 1 ""), .int 0]) ?_ (.tup (SqT.of upd_same) (.str _ (.str _ (.int _ .nil))))
            rw [ed]
            unfold pDeed
            rw [decide_eq_true l22]
            rfl
          · have l33 : ws.length = 3 := by
              rcases (Bool.or_eq_true _ _).mp c2 with z | z
              · exact absurd (decide_eq_true (by rw [of_decide_eq_true z]; rfl)) c3
              · exact of_decide_eq_true z
            have ed2 : pMov x = if (pNum (ws.getD 2 "") && !decide (ws.getD 2 "" = "0")) = true then .tuple [.str "deed", .str (ws.getD 1 ""), pInt (ws.getD 2 "")] else .none := by
              rw [ed]
              unfold pDeed
              rw [decide_eq_false (show ¬ ws.length = 2 by omega)]
              rfl
            obtain ⟨w2l, w2n⟩ := hwd _ (pgetS_mem (i := 2) (by omega))
            refine ⟨_, rfl, l, _, _, _, rfl, rfl, (ix (i := 2) (by omega) s23).1, (ix (i := 2) (by omega) s23).2, ?_⟩
            refine ⟨_, rfl, by omega, fun H4 s4 => ?_⟩
            refine ⟨_, rfl, ?_⟩
            have s24 := s23.trans s4
            cases e4 : pNum (ws.getD 2 "") with
            | false => exact iteF (fin (s1.trans s24) (by rw [ed2, e4]; rfl) .non)
            | true =>
              refine iteT ?_
              refine ⟨_, rfl, l, _, _, _, rfl, rfl, (ix (i := 2) (by omega) s24).1, (ix (i := 2) (by omega) s24).2, rfl, _, rfl, ?_⟩
              rw [dd]
              cases e5 : decide (ws.getD 2 "" = "0") with
              | true => exact iteF (fin (s1.trans s24) (by rw [ed2, e4, e5]; rfl) .non)
              | false =>
                refine iteT ?_
                obtain ⟨n, en⟩ := Option.isSome_iff_exists.mp (w2n e4)
                refine ⟨_, rfl, l, _, _, _, rfl, rfl, (ix (i := 1) (by omega) s24).1, (ix (i := 1) (by omega) s24).2, _, rfl, l, _, _, _, rfl, rfl, (ix (i := 2) (by omega) s24).1, (ix (i := 2) (by omega) s24).2, _, n, rfl, en, by omega, (by show 3 ≤ sizeLine; omega), fun p hp => ?_⟩
                refine fin (s1.trans (s24.trans (Same.new hp))) (d := .tuple [.str "deed", .str (ws.getD 1 ""), .int n]) ?_ (.tup (SqT.of upd_same) (.str _ (.str _ (.int _ .nil))))
                rw [ed2, e4, e5]
                unfold pInt
                rw [en]
                rfl
      · exact no rfl s2 (by
          rw [show (decide (ws.length = 2) || decide (ws.length = 3)) = false from Bool.eq_false_iff.mpr c2]
          simp)
    · exact no rfl (Same.refl H1) (by
        rw [show decide (ws.getD 0 "" = "deed") = false from Bool.eq_false_iff.mpr c]
        rfl)
end
end K6

/-! text PC -/
set_option Elab.async false
set_option linter.all false
set_option maxRecDepth 100000
set_option maxHeartbeats 1000000
namespace K6
open PySem PySem.Spec PyProof.Rows L2
theorem walk_enumSL {K : PySem.W.Frag} {a : Addr} {xs : List V} {k : Nat} : Walk (IteL K k a) xs.length (fun H => SqL K H a xs) (YPair (fun i => some (.int (i + k : Nat))) (fun i => xs[i]?)) := by
  refine ⟨fun i _ hi q => ⟨xs, xs[i], q, by simp [hi]⟩, fun _ q => ⟨xs, q, rfl⟩, fun i H v H' _ q y => ?_⟩
  obtain ⟨T, x, h1, h2, h3, h4⟩ := y
  exact ⟨T, .int (i + k : Nat), x, h1, h2, h3, rfl, h4 xs q⟩
def pIsNo : PyData → Bool
  | .none => true
  | _ => false
def pRows (x : Str) : List Str := if decide (x = "") = true then [] else Txt.split x "\n"
def pRead (rows : List Str) : Except Int (List PyData) := match rows.findIdx? (fun r => pIsNo (pMov r)) with
  | some i => .error (i + 1)
  | none => .ok (rows.map pMov)
inductive PMvAll (K : PySem.W.Frag) (H : Hp) : List V → List PyData → Prop
  | nil : PMvAll K H [] []
  | cons {v : V} {vs : List V} {d : PyData} {ds : List PyData} : PMv K H v d → PMvAll K H vs ds → PMvAll K H (v :: vs) (d :: ds)
theorem PMvAll.snoc {K : PySem.W.Frag} {H : Hp} : ∀ {vs : List V} {ds : List PyData} {v : V} {d : PyData}, PMvAll K H vs ds → PMv K H v d → PMvAll K H (vs ++ [v]) (ds ++ [d])
  | _, _, _, _, .nil, h => .cons h .nil
  | _, _, _, _, .cons a r, h => .cons a (PMvAll.snoc r h)
theorem PMvAll.len {K : PySem.W.Frag} {H : Hp} : ∀ {vs : List V} {ds : List PyData}, PMvAll K H vs ds → vs.length = ds.length
  | _, _, .nil => rfl
  | _, _, .cons _ r => congrArg (· + 1) r.len
/-- all but the lists that stand at s -/
theorem sqt_but {K : PySem.W.Frag} {H H' : Hp} {a s : Addr} {xs ys : List V} (hs : H s = some (.lst ys)) (k : ∀ b o, b ≠ s → H b = some o → H' b = some o) (h : SqT K H a xs) : SqT K H' a xs := by
  rcases h with h | h
  · exact .inl (by
      rcases h with h | ⟨o, h⟩
      · exact .inl (k _ _ (ne_of h hs (by intro z; cases z)) h)
      · exact .inr ⟨o, k _ _ (ne_of h hs (by intro z; cases z)) h⟩)
  · exact .inr h
theorem PMv.but {K : PySem.W.Frag} {H H' : Hp} {s : Addr} {ys : List V} {v : V} {d : PyData} (hs : H s = some (.lst ys)) (k : ∀ b o, b ≠ s → H b = some o → H' b = some o) (h : PMv K H v d) : PMv K H' v d := by
  cases h with
  | non => exact .non
  | tup a b => exact .tup (sqt_but hs k a) b
theorem PMvAll.but {K : PySem.W.Frag} {H H' : Hp} {s : Addr} {ys : List V} (hs : H s = some (.lst ys)) (k : ∀ b o, b ≠ s → H b = some o → H' b = some o) : ∀ {vs : List V} {ds : List PyData}, PMvAll K H vs ds → PMvAll K H' vs ds
  | _, _, .nil => .nil
  | _, _, .cons a r => .cons (a.but hs k) (r.but hs k)
structure PNr (K : PySem.W.Frag) (mg : Str → Option Value) (CB fB : Addr) : Prop where
  isi : mg "isinstance" = none
  str : mg "str" = none
  enum : mg "enumerate" = none
  tup : mg "tuple" = none
  low : PySem.LowX.LowTxt K mg CB fB
abbrev NPr : List Str := ["text", "rows", "story", "number", "row", "move"]
section
variable {P : Program} {w : World} {K : PySem.W.Frag} {mg : Str → Option Value} {base : Heap} {CB fB : Addr}
theorem scPRead : FnScope NPr ["text"] (defScope sPRead) := ⟨rfl, rfl, rfl, by decide +kernel, rfl, by decide +kernel, by decide +kernel⟩
def spPRead (K : PySem.W.Frag) (CB : Addr) : Sp := fun vs H Q E =>
  (∃ x : Str, vs = [.str x] ∧ x.length ≤ 100000 ∧ (pRows x).length ≤ 1000 ∧ (∀ r ∈ pRows x, PRow r) ∧ match pRead (pRows x) with
    | .ok ds => ∀ a xs H', Same H H' → H' a = some (.tup xs) → PMvAll K H' xs ds → Q (.ref a) H'
    | .error l => ∀ H' d, Same H H' → H' d = some (.xd [(("line" : Str), V.int l)]) → E (.ref CB) (some d) H') ∨
  (∃ (v : V) (t : Value), vs = [v] ∧ TyX K H v t ∧ PySem.W.kitOne K t (.type "str") = some false ∧ ∀ H' d, Same H H' → H' d = some (.xd [(("line" : Str), V.int 0)]) → E (.ref CB) (some d) H')
theorem ok_pread {f : Addr} {fd : FuncData} (F : Fun K "read_story" "read_story" sPRead f fd) (T : PNr K mg CB fB) (R1 : FnAt P w K mg base CX0 2 "move_of_text" ["row"] (spPMov K)) : FnOk P w K mg base (L2.CX P w) 4 f fd ["text"] (spPRead K CB) := by
  refine F.okX scPRead (fun vs H Q E h => ?_) (fun cdv A outer s H vs Q E hr h => ?_)
  · rcases h with ⟨x, rfl, _⟩ | ⟨v, t, rfl, _⟩
    · rfl
    · rfl
  · obtain ⟨f1, d1, m1, k1, b1, G1⟩ := R1
    have hr2 : Room 2 _ := hr.mono (by decide)
    have hsl := sizeLine_eq
    obtain ⟨tr, hps, last⟩ : ∃ tr, PSs (cxOf (L2.CX P w) P w K mg base NPr "read_story" (defScope sPRead) f cdv A outer s H E) ((defBody sPRead).drop 2) tr ∧ ∀ (y : V) (rows : List Str) (l : Addr) (H1 : Hp), H1 l = some (.lst (rows.map V.str)) → rows.length ≤ 1000 → (∀ r ∈ rows, PRow r) →
        (∀ ds, pRead rows = .ok ds → ∀ a xs H', Same H1 H' → H' a = some (.tup xs) → PMvAll K H' xs ds → Q (.ref a) H') → (∀ n, pRead rows = .error n → ∀ H' d, Same H1 H' → H' d = some (.xd [(("line" : Str), V.int n)]) → E (.ref CB) (some d) H') →
        tr { nx := fun _ H' => Q .non H', rt := Q } [some y, some (.ref l), none, none, none, none] H1 := by
      refine ⟨_, pss_cons (ps_set (i := 2) scPRead.nd rfl (Or.inl rfl) (pe_lst pa_nil))
        (pss_cons (ps_for (passes_of rfl) rfl (pi_enumL (k := 1) (by decide) rfl T.enum (pa_cons (pv 1) pa_nil)) (pg_tup (by rfl) (pgs_cons (pg_name (i := 3) scPRead.nd rfl (Or.inl rfl)) (pgs_cons (pg_name (i := 4) scPRead.nd rfl (Or.inl rfl)) pgs_nil)))
          (pss_cons (ps_set (i := 5) scPRead.nd rfl (Or.inl rfl) (by exact pe_call G1 hr2 rfl m1 k1 b1 .nil pass0 (pa_cons (pv 4) pa_nil)))
          (pss_cons (ps_if (pt_cmpR op_isN (pv 5) pe_non (nomark _)) (pss_one (ps_raiseLow rfl T.low hr (takes_of rfl rfl rfl rfl) (pa_cons (pv 3) pa_nil))) pss_nil)
          (pss_one (ps_expr (pe_bm PySem.F.plainAttrs_list PySem.F.slot_list_append PySem.F.type_list_append mt_append (pv 2) (pa_cons (pv 5) pa_nil)))))))
        (pss_one (ps_ret (pe_callTy call_tuple_of (by rfl) T.tup (by decide +kernel) (pa_cons (pv 2) pa_nil))))), ?_⟩
      intro y rows l H1 el hn hrw kOk kErr
      refine ⟨Nat.zero_le _, fun st hst => ?_⟩
      have s2 := Same.new (o := .lst ([] : List V)) hst
      have e2 : (upd H1 st (.lst ([] : List V))) st = some (.lst []) := upd_same
      have lst : l ≠ st := ne_of_none el hst
      generalize upd H1 st (.lst ([] : List V)) = H2 at s2 e2
      have el2 := s2 _ _ el
      refine ⟨_, rfl, l, _, rfl, SqL.of el2, ?_⟩
      refine for_it (walk_enumSL (K := K) (a := l) (xs := rows.map V.str) (k := 1)) (fun i σ H' => ∃ x3 x4 x5, σ = [some y, some (.ref l), some (.ref st), x3, x4, x5] ∧ (∀ b o, b ≠ st → H1 b = some o → H' b = some o) ∧ (∀ r ∈ rows.take i, pIsNo (pMov r) = false) ∧ ∃ xs, H' st = some (.lst xs) ∧ PMvAll K H' xs ((rows.take i).map pMov)) ?_ ?_ ?_ ?_
      · exact ⟨none, none, none, rfl, fun b o _ e => s2 _ _ e, fun r hr => by simp at hr, [], e2, by simpa using PMvAll.nil⟩
      · rintro i σ H' _ ⟨x3, x4, x5, rfl, kp, _⟩
        exact SqL.of (kp _ _ lst el)
      · rintro i v σ H3 H4 hi ⟨x3, x4, x5, rfl, kp, nn, xs, hxs, pm⟩ ⟨T', a, b, rfl, hT, rfl, ha, hb⟩
        cases ha
        rw [List.length_map] at hi
        have hrow : rows[i]? = some rows[i] := List.getElem?_eq_getElem hi
        have hb : (rows.map V.str)[i]? = some b := hb
        rw [List.getElem?_map, hrow] at hb
        cases hb
        have s4 := Same.new (o := .tup [V.int ((i + 1 : Nat) : Int), V.str rows[i]]) hT
        refine ⟨T', _, rfl, SqT.of upd_same, rfl, _, _, rfl, _, _, rfl, rfl, ?_⟩
        generalize upd H3 T' (.tup [V.int ((i + 1 : Nat) : Int), V.str rows[i]]) = H4 at s4
        refine ⟨_, rfl, rows[i], rfl, hrw _ (List.getElem_mem hi), fun v H5 s5 pv => ?_⟩
        have s45 := s4.trans s5
        have hx5 := s45 _ _ hxs
        have tk : rows.take (i + 1) = rows.take i ++ [rows[i]] := by
          rw [List.take_add_one, hrow]
          rfl
        have kp5 : ∀ b o, b ≠ st → H1 b = some o → H5 b = some o := fun b o hb e => s45 _ _ (kp b o hb e)
        refine ⟨_, rfl, rfl, _, rfl, ?_⟩
        generalize ed : pMov rows[i] = d at pv
        cases pv with
        | non =>
          refine iteT ?_
          refine ⟨_, rfl, _, rfl, fun dd hd => ?_⟩
          refine kErr ((i + 1 : Nat) : Int) ?_ _ _ (Same.trans (fun b o e => kp5 b o (ne_of_none e hst) e) (Same.new hd)) upd_same
          unfold pRead
          rw [List.findIdx?_eq_some_iff_getElem.mpr ⟨hi, (by rw [ed]; rfl), fun j hj => by
            rw [nn _ (by rw [List.mem_take_iff_getElem]; exact ⟨j, by omega, rfl⟩)]
            exact Bool.false_ne_true⟩]
          rfl
        | tup sq fl =>
          refine iteF ?_
          refine ⟨_, rfl, .inl ⟨rfl, _, SqL.of hx5⟩, _, rfl, st, _, _, rfl, rfl, hx5, ?_, ?_⟩
          · have z := pm.len
            rw [z, List.length_map, List.length_take]
            omega
          · refine ⟨_, _, _, rfl, fun b o hb e => by rw [upd_ne hb]; exact kp5 b o hb e, fun r hr => ?_, _, upd_same, ?_⟩
            · rw [tk] at hr
              rcases List.mem_append.mp hr with z | z
              · exact nn r z
              · rw [List.mem_singleton.mp z, ed]
                rfl
            · rw [tk, List.map_append]
              exact ((pm.but hxs (fun b o _ e => s45 b o e)).snoc (by rw [ed]; exact .tup sq fl)).but hx5 (fun b o hb e => by rw [upd_ne hb]; exact e)
      · rintro σ H' ⟨x3, x4, x5, rfl, kp, nn, xs, hxs, pm⟩
        rw [List.length_map] at nn pm
        rw [List.take_length] at nn pm
        refine ⟨_, rfl, st, _, rfl, .inl ⟨SqL.of hxs, fun p hp => ?_⟩⟩
        refine kOk (rows.map pMov) ?_ p xs _ (Same.trans (fun b o e => kp b o (ne_of_none e hst) e) (Same.new hp)) upd_same (pm.but hxs (fun b o hb e => Same.new hp b o e))
        unfold pRead
        rw [List.findIdx?_eq_none_iff.mpr nn]
    refine ⟨_, pss_cons (ps_if (pt_not (pt_val (pe_callB call_isi (by rfl) T.isi (by decide +kernel) (pa_cons (pv 0) (pa_cons (pe_bltn (v := .ty "str") (by rfl) T.str (by decide +kernel) rfl) pa_nil))))) (pss_one (ps_raiseLow rfl T.low hr (takes_of rfl rfl rfl rfl) (pa_cons pe_int pa_nil))) pss_nil)
      (pss_cons (ps_set (i := 1) scPRead.nd rfl (Or.inl rfl) (pe_ifExp (pt_cmpR op_eq (pv 0) pe_str (nomark _)) (pe_lst pa_nil) (pe_split (pv 0) pe_str))) hps), ?_⟩
    rcases h with ⟨x, rfl, hx, hn, hrw, k⟩ | ⟨v, t, rfl, ht, hk, k⟩
    · refine ⟨_, rfl, _, _, .type "str", .type "str", true, rfl, .ty "str", .base (.str _), kit_ty (by decide +kernel), _, rfl, ?_⟩
      refine iteF ?_
      have go : ∀ l H1, Same H H1 → H1 l = some (.lst ((pRows x).map V.str)) → tr { nx := fun _ H' => Q .non H', rt := Q } [some (.str x), some (.ref l), none, none, none, none] H1 := fun l H1 s1 el => last (.str x) (pRows x) l H1 el hn hrw (fun ds e a xs H' s2 ha pm => by
        rw [e] at k
        exact k a xs H' (s1.trans s2) ha pm) (fun n e H' d s2 hd => by
        rw [e] at k
        exact k H' d (s1.trans s2) hd)
      refine ⟨_, rfl, rfl, _, rfl, ?_⟩
      refine ite2 (fun c => ?_) (fun c => ?_)
      · refine ⟨Nat.zero_le _, fun l hl => go l _ (Same.new hl) ?_⟩
        unfold pRows
        rw [upd_same, decide_eq_true (V.str.inj (of_decide_eq_true c))]
        rfl
      · refine ⟨_, rfl, ⟨_, rfl⟩, _, _, rfl, rfl, by decide +kernel, (by omega), fun l hl => go l _ (Same.new hl) ?_⟩
        unfold pRows
        rw [upd_same, decide_eq_false (fun z => c (decide_eq_true (by rw [z])))]
        rfl
    · refine ⟨_, rfl, _, _, t, .type "str", false, rfl, .ty "str", ht, hk, _, rfl, ?_⟩
      refine iteT ?_
      exact ⟨_, rfl, fun d hd => k _ _ (Same.new hd) upd_same⟩
end
end K6

/-! text PE -/
set_option Elab.async false
set_option linter.all false
set_option maxRecDepth 100000
set_option maxHeartbeats 1000000
namespace K6
open PySem PySem.Spec PyProof.Rows L2
/-! ### rows that are few -/
def flE : PyData → PyData → Bool
  | .int a, .int b => decide (a = b)
  | .str a, .str b => decide (a = b)
  | _, _ => false
def flEs : List PyData → List PyData → Bool
  | [], [] => true
  | a :: r, b :: q => flE a b && flEs r q
  | _, _ => false
def flT : PyData → PyData → Bool
  | .none, .none => true
  | .tuple a, .tuple b => flEs a b
  | _, _ => false
theorem flE_eq : ∀ {a b : PyData}, flE a b = true → a = b
  | .int a, .int b, h => by rw [of_decide_eq_true h]
  | .str a, .str b, h => by rw [of_decide_eq_true h]
theorem flEs_eq : ∀ {a b : List PyData}, flEs a b = true → a = b
  | [], [], _ => rfl
  | a :: r, b :: q, h => by
    have h' : (flE a b && flEs r q) = true := h
    rw [Bool.and_eq_true] at h'
    rw [flE_eq h'.1, flEs_eq h'.2]
theorem flT_eq : ∀ {a b : PyData}, flT a b = true → a = b
  | .none, .none, _ => rfl
  | .tuple a, .tuple b, h => by rw [flEs_eq h]
def pWdB (w : Str) : Bool := decide (w.length ≤ 100) && (!pNum w || (PySem.intText? w).isSome)
def pRowB (r : Str) : Bool := decide (r.length ≤ 100) && (decide ((Txt.split r " ").length ≤ 100) && (decide (0 < (Txt.split r " ").length) && (Txt.split r " ").all pWdB))
theorem prow_of {r : Str} (h : pRowB r = true) : PRow r := by
  unfold pRowB at h
  simp only [Bool.and_eq_true, decide_eq_true_eq, List.all_eq_true] at h
  refine ⟨h.1, h.2.1, h.2.2.1, fun w hw => ?_⟩
  have z := h.2.2.2 w hw
  unfold pWdB at z
  simp only [Bool.and_eq_true, decide_eq_true_eq, Bool.or_eq_true, Bool.not_eq_true'] at z
  refine ⟨z.1, fun e => ?_⟩
  rcases z.2 with q | q
  · rw [e] at q
    cases q
  · exact q
theorem prows_join {rs : List Str} (hne : rs ≠ []) (hn : ∀ r ∈ rs, (10 : Nat) ∉ TL.tl r) : pRows (Txt.join "\n" rs) = if rs = ([""] : List Str) then [] else rs := by
  have hs : Txt.split (Txt.join "\n" rs) "\n" = rs := TL.split_join (s := 10) (S := []) (by decide +kernel) (by decide +kernel) hne hn
  unfold pRows
  rw [hs]
  by_cases e : rs = ([""] : List Str)
  · rw [if_pos e, e]
    rfl
  · rw [if_neg e, if_neg]
    intro z
    have z := of_decide_eq_true z
    rw [z] at hs
    exact e (hs.symm.trans (by decide +kernel))
theorem FnOk.weak {P : Program} {w : World} {K : PySem.W.Frag} {mg : Str → Option Value} {base : Heap} {CX : CXT} {k : Nat} {f : Addr} {fd : FuncData} {ps : List Str} {sp sp' : Sp} (F : FnOk P w K mg base CX k f fd ps sp) (h : ∀ vs H Q E, sp' vs H Q E → sp vs H Q E) : FnOk P w K mg base CX k f fd ps sp' :=
  ⟨fun vs H Q E z => F.len _ _ _ _ (h _ _ _ _ z), fun A os s H ar us vs Q E a b c d e => F.run A os s H ar us vs Q E a b c d (h _ _ _ _ e)⟩
end K6

/-! text Q3 -/
set_option Elab.async false
set_option linter.all false
set_option maxRecDepth 100000
set_option maxHeartbeats 1000000
namespace K6
open PySem PySem.Spec PyProof.Rows L2
def DIGS : Str := "0123456789"
def allIn (z : Str) (w : Str) : Bool := w.cps.toList.all fun c => decide (c ∈ z.cps.toList)
/-- the number that a word writes -/
def figM (w : Str) : PyData := if (decide (w = "") || (decide (w.length > 3) || !allIn DIGS w)) = true then .none else
  if (decide (w = "0") || !decide (w.cps.getD 0 0 = 48)) = true then (match PySem.intText? w with
    | some n => .int n
    | none => .none) else .none
def figV (w : Str) : V := match figM w with
  | .int n => .int n
  | _ => .non
/-- words of which each that is of figures has a number -/
def FigOk (w : Str) : Prop := w.length ≤ 100 ∧ (w.length ≤ 3 → ¬ w = "" → allIn DIGS w = true → (PySem.intText? w).isSome = true)
abbrev sFig : Stmt := top 19
section
variable {P : Program} {w : World} {K : PySem.W.Frag} {mg : Str → Option Value} {base : Heap}
theorem scFig : FnScope ["_law_word", "_law_sign"] ["_law_word"] (defScope sFig) := ⟨rfl, rfl, rfl, by decide +kernel, rfl, by decide +kernel, by decide +kernel⟩
def spFig : Sp := fun vs H Q _ => ∃ x : Str, vs = [.str x] ∧ FigOk x ∧ ∀ H', Same H H' → Q (figV x) H'
structure FgN (mg : Str → Option Value) : Prop where
  len : mg "len" = none
  all : mg "all" = none
  int : mg "int" = none
theorem ok_fig {f : Addr} {fd : FuncData} (F : Fun K "_law_figures" "_law_figures" sFig f fd) (T : FgN mg) : FnOk P w K mg base CX0 1 f fd ["_law_word"] spFig := by
  refine F.ok scFig (fun vs H Q E h => ?_) (fun cdv A outer s H vs Q E hr h => ?_)
  · obtain ⟨x, rfl, _⟩ := h
    rfl
  · obtain ⟨x, rfl, ⟨hx, hn⟩, k⟩ := h
    refine ⟨_, pss_cons (ps_if (PW.pt (pw_or (pt_cmpR op_eq (pv 0) pe_str (nomark _)) (pw_or (pt_cmpR op_gt (pe_callB call_len_str (by rfl) T.len PySem.boot_len (pa_cons (pv 0) pa_nil)) pe_int (nomark _)) (pw_or1 (pt_not (pt_val (pe_callB (cr_all rfl) (by rfl) T.all (by decide +kernel) (pa_cons (pe_lc (own := [("_law_sign", 1)]) (g := gName 1) (tt := tYes) rfl scFig.nd (pi_str (pv 0)) (blkOk_by (own := [("_law_sign", 1)]) (N := ["_law_word", "_law_sign"]) (sc := defScope sFig) (by decide +kernel)) (fun _ _ _ _ _ => pg_name (i := 1) scFig.nd rfl (Or.inl rfl)) (fun _ _ _ _ _ => pts_nil)
        (fun _ _ _ _ _ => pe_cmpR op_in_sign (pv 1) pe_str rfl)) pa_nil)))))))) (pss_one (ps_ret pe_non)) pss_nil)
      (pss_one (ps_ret (pe_ifExp (PW.pt (pw_or (pt_cmpR op_eq (pv 0) pe_str (nomark _)) (pw_or1 (pt_cmpR op_ne (pe_ix ix_str (pv 0) pe_int (fun _ _ => rfl)) pe_str (nomark _))))) (pe_callTy call_int_str (by rfl) T.int (by decide +kernel) (pa_cons (pv 0) pa_nil)) pe_non))), ?_⟩
    have hsl := sizeLine_eq
    have no : ∀ {H' : Hp}, Same H H' → figM x = .none → Q .non H' := fun s1 e => by
      have z := k _ s1
      unfold figV at z
      rw [e] at z
      exact z
    refine ⟨_, rfl, rfl, _, rfl, ?_⟩
    refine ite2 (fun c1 => ?_) (fun c1 => ?_)
    · refine iteT (no (Same.refl H) ?_)
      unfold figM
      rw [decide_eq_true (V.str.inj (of_decide_eq_true c1))]
      rfl
    have h0 : ¬ x = "" := fun z => c1 (decide_eq_true (by rw [z]))
    refine ⟨_, rfl, _, rfl, (by omega), _, _, rfl, rfl, _, rfl, ?_⟩
    refine ite2 (fun c2 => ?_) (fun c2 => ?_)
    · refine iteT (no (Same.refl H) ?_)
      have z := of_decide_eq_true c2
      unfold figM
      rw [decide_eq_true (show x.length > 3 by omega)]
      simp
    have h3 : x.length ≤ 3 := by
      rcases Nat.lt_or_ge 3 x.length with z | z
      · exact absurd (decide_eq_true (show (x.length : Int) > 3 by omega)) c2
      · exact z
    have ev : figM x = if (!allIn DIGS x) = true then .none else if (decide (x = "0") || !decide (x.cps.getD 0 0 = 48)) = true then (match PySem.intText? x with
        | some n => .int n
        | none => .none) else .none := by
      unfold figM
      rw [decide_eq_false h0, decide_eq_false (show ¬ x.length > 3 by omega), Bool.false_or, Bool.false_or]
    refine ⟨_, rfl, _, rfl, fun D hD => ?_⟩
    refine lc_str (fun i H' => Same H H' ∧ H' D = some (.lst ((x.cps.toList.take i).map fun c => V.bl (decide (c ∈ DIGS.cps.toList))))) ⟨Same.new hD, upd_same⟩ ?_ ?_
    · rintro i c H' hc ⟨s1, h1⟩
      have hlt : i < x.cps.size := (Array.getElem?_eq_some_iff.mp hc).1
      have hxl : x.cps.size ≤ 100 := hx
      refine ⟨rfl, ?_⟩
      refine ⟨_, rfl, c, DIGS, rfl, rfl, _, h1, (by rw [List.length_map, List.length_take, Array.length_toList]; omega), ?_⟩
      refine ⟨fun b o e => ?_, ?_⟩
      · rw [upd_ne (ne_of_none e hD)]
        exact s1 b o e
      · rw [upd_same, List.take_add_one, List.map_append]
        rw [show x.cps.toList[i]? = some c from by rw [Array.getElem?_toList]; exact hc]
        rfl
    rintro H' ⟨s1, h1⟩
    refine ⟨D, x.cps.toList.map fun c => decide (c ∈ DIGS.cps.toList), rfl, SqL.of ?_, ?_⟩
    · rw [h1, List.map_map, ← Array.length_toList, List.take_length]
      rfl
    rw [List.all_map]
    rw [show (x.cps.toList.all (id ∘ fun c => decide (c ∈ DIGS.cps.toList))) = allIn DIGS x from rfl]
    refine ⟨_, rfl, ?_⟩
    cases ha : allIn DIGS x with
    | false =>
      refine iteT (no s1 ?_)
      rw [ev, ha]
      rfl
    | true =>
      refine iteF ?_
      obtain ⟨n, en⟩ := Option.isSome_iff_exists.mp (hn h3 h0 ha)
      have yes : (decide (x = "0") || !decide (x.cps.getD 0 0 = 48)) = true → Q (.int n) H' := fun z => by
        have q := k _ s1
        unfold figV at q
        rw [ev, ha, z, en] at q
        exact q
      have nope : (decide (x = "0") || !decide (x.cps.getD 0 0 = 48)) = false → Q .non H' := fun z => no s1 (by
        rw [ev, ha, z]
        rfl)
      refine ⟨_, rfl, rfl, _, rfl, ?_⟩
      refine ite2 (fun c4 => ?_) (fun c4 => ?_)
      · refine iteT ⟨_, rfl, x, n, rfl, en, by omega, yes ?_⟩
        rw [decide_eq_true (V.str.inj (of_decide_eq_true c4))]
        rfl
      · have hz : ¬ x = "0" := fun z => c4 (decide_eq_true (by rw [z]))
        have hlen : 0 < x.cps.size := by
          rcases Nat.eq_zero_or_pos x.cps.size with z | z
          · refine absurd ?_ h0
            obtain ⟨a⟩ := x
            have z2 : a = #[] := Array.eq_empty_of_size_eq_zero z
            rw [z2]
            rfl
          · exact z
        obtain ⟨c, hc⟩ : ∃ c, x.cps[0]? = some c := ⟨_, Array.getElem?_eq_getElem hlen⟩
        have hd : x.cps.getD 0 0 = c := by
          rw [Array.getD_eq_getD_getElem?, hc]
          rfl
        refine ⟨_, rfl, x, 0, c, rfl, rfl, by show x.cps.size ≤ _; have : x.cps.size ≤ 3 := h3; omega, (atI_nat (j := 0) (by rw [Array.getElem?_toList]; exact hc)), rfl, _, rfl, ?_⟩
        by_cases c5 : c = 48
        · have e : (V.str ⟨#[c]⟩ = V.str "0") := by rw [c5]; rfl
          rw [decide_eq_true e]
          refine iteF (nope ?_)
          rw [decide_eq_false hz, hd, decide_eq_true c5]
          rfl
        · have e : ¬ (V.str ⟨#[c]⟩ = V.str "0") := fun z => by
            have z2 := V.str.inj z
            have z3 : (#[c] : Array Nat) = #[48] := congrArg Str.cps z2
            injection z3 with z3
            injection z3 with z3
            exact c5 z3
          rw [decide_eq_false e]
          refine iteT ⟨_, rfl, x, n, rfl, en, by omega, yes ?_⟩
          rw [hd, decide_eq_false c5]
          simp
end
end K6

/-! text Q4 -/
set_option Elab.async false
set_option linter.all false
set_option maxRecDepth 100000
set_option maxHeartbeats 1000000
namespace K6
open PySem PySem.Spec PyProof.Rows L2
def LETT : Str := "abcdefghijklmnopqrstuvwxyz"
def heads4 : List Str := ["sends", "does", "comes", "gone"]
def badN : List Str := ["it", "asked", ""]
def numM (ws : List Str) : PyData := if ws.length = 3 then figM (ws.getD 2 "") else .int 0
/-- the move that a row writes -/
def movM (x : Str) : PyData := if decide (x = "over") = true then .tuple [.str "over"] else
  let ws := Txt.split x " "
  if (heads4.contains (ws.getD 0 "") && decide (ws.length = 2)) = true then (match figM (ws.getD 1 "") with
    | .int n => .tuple [.str (ws.getD 0 ""), .int n]
    | _ => .none) else
  if (!decide (ws.getD 0 "" = "deed") || (!(decide (2 ≤ ws.length) && decide (ws.length ≤ 3)) || badN.contains (ws.getD 1 ""))) = true then .none else
  match numM ws with
    | .int n => if (!allIn LETT (ws.getD 1 "") || (decide ((ws.getD 1 "").length > 8) || (decide (ws.length = 3) && decide (n = 0)))) = true then .none else .tuple [.str "deed", .str (ws.getD 1 ""), .int n]
    | _ => .none
structure RowOk (x : Str) : Prop where
  len : x.length ≤ 100
  few : (Txt.split x " ").length ≤ 100
  some : 0 < (Txt.split x " ").length
  fig : ∀ w ∈ Txt.split x " ", FigOk w
abbrev sMove : Stmt := top 20
abbrev NM : List Str := ["_law_row_here", "_law_words_now", "_law_number", "_law_letters", "_law_sign"]
theorem getS {ws : List Str} {i : Nat} (h : i < ws.length) : (ws.map V.str)[i]? = some (V.str (ws.getD i "")) := by
  rw [List.getElem?_map, List.getD_eq_getElem?_getD, List.getElem?_eq_getElem h]
  rfl
theorem getS_mem {ws : List Str} {i : Nat} (h : i < ws.length) : ws.getD i "" ∈ ws := by
  rw [List.getD_eq_getElem?_getD, List.getElem?_eq_getElem h]
  exact List.getElem_mem h
theorem fig_cases (x : Str) : (figM x = .none ∧ figV x = .non) ∨ ∃ n, figM x = .int n ∧ figV x = .int n := by
  have key : figM x = .none ∨ ∃ n, figM x = .int n := by
    unfold figM
    split
    · exact .inl rfl
    · split
      · split
        · exact .inr ⟨_, rfl⟩
        · exact .inl rfl
      · exact .inl rfl
  rcases key with e | ⟨n, e⟩
  · refine .inl ⟨e, ?_⟩
    unfold figV
    rw [e]
  · refine .inr ⟨n, e, ?_⟩
    unfold figV
    rw [e]
/-- a test of two parts: what comes otherwise is shown once -/
theorem ite_keep (p : Bool) {b : Bool} {X B : Prop} (hb : b = false → p = false) (rest : p = false → B) (yes : b = true → (p = false → B) → X) : if b = true then X else B := by
  cases b with
  | true => exact yes rfl rest
  | false => exact rest (hb rfl)
section
variable {P : Program} {w : World} {K : PySem.W.Frag} {mg : Str → Option Value} {base : Heap}
theorem scMove : FnScope NM ["_law_row_here"] (defScope sMove) := ⟨rfl, rfl, rfl, by decide +kernel, rfl, by decide +kernel, by decide +kernel⟩
def spMove (K : PySem.W.Frag) : Sp := fun vs H Q _ => ∃ x : Str, vs = [.str x] ∧ RowOk x ∧ ∀ v H', Same H H' → Dp K H' v (movM x) → Q v H'
theorem ok_move {f : Addr} {fd : FuncData} (F : Fun K "_law_move" "_law_move" sMove f fd) (T : FgN mg) (R : FnAt P w K mg base CX0 1 "_law_figures" ["_law_word"] spFig) : FnOk P w K mg base CX0 2 f fd ["_law_row_here"] (spMove K) := by
  refine F.ok scMove (fun vs H Q E h => ?_) (fun cdv A outer s H vs Q E hr h => ?_)
  · obtain ⟨x, rfl, _⟩ := h
    rfl
  · obtain ⟨x, rfl, ok, k⟩ := h
    obtain ⟨f1, d1, m1, k1, b1, G1⟩ := R
    have hsl := sizeLine_eq
    obtain ⟨tr, hps, last⟩ : ∃ tr, PSs (cxOf CX0 P w K mg base NM "_law_move" (defScope sMove) f cdv A outer s H E).nox ((defBody sMove).drop 6) tr ∧ ∀ (ws : List Str) (l D : Addr) (v : V) (σ : L2.St) (H5 : Hp), 2 ≤ ws.length → ws.length ≤ 3 → (ws.getD 1 "").length ≤ 100 → H5 l = some (.lst (ws.map V.str)) → H5 D = some (.lst ((ws.getD 1 "").cps.toList.map fun c => V.bl (decide (c ∈ LETT.cps.toList)))) →
        (v = .non ∧ numM ws = .none ∨ ∃ n, v = .int n ∧ numM ws = .int n) → σ[1]? = some (some (.ref l)) → σ[2]? = some (some v) → σ[3]? = some (some (.ref D)) →
        (∀ y H6, Same H5 H6 → Dp K H6 y (match numM ws with
          | .int n => if (!allIn LETT (ws.getD 1 "") || (decide ((ws.getD 1 "").length > 8) || (decide (ws.length = 3) && decide (n = 0)))) = true then .none else .tuple [.str "deed", .str (ws.getD 1 ""), .int n]
          | _ => .none) → Q y H6) → tr { nx := fun _ H' => Q .non H', rt := Q } σ H5 := by
      refine ⟨_, pss_cons (ps_if (PW.pt (pw_or (pt_not (pt_val (pe_callB (cr_all rfl) (by rfl) T.all (by decide +kernel) (pa_cons (pv 3) pa_nil)))) (pw_or (pt_cmpR op_gt (pe_callB call_len_seq (by rfl) T.len PySem.boot_len (pa_cons (pv 3) pa_nil)) pe_int (nomark _)) (pw_or (pt_cmpR op_isN (pv 2) pe_non (nomark _)) (pw_or1 (PW.pt (pw_and (pt_cmpR op_eq (pe_callB call_len_seq (by rfl) T.len PySem.boot_len (pa_cons (pv 1) pa_nil)) pe_int (nomark _)) (pw_and1 (pt_cmpR op_eq (pv 2) pe_int (nomark _)))))))))) (pss_one (ps_ret pe_non)) pss_nil)
        (pss_one (ps_ret (pe_tup (pa_cons pe_str (pa_cons (pe_ix ix_list (pv 1) pe_int (fun _ _ => rfl)) (pa_cons (pv 2) pa_nil)))))), ?_⟩
      intro ws l D v σ H5 l2 l3 lw el eD hv g1 g2 g3 fin
      have hml : (ws.map V.str).length = ws.length := List.length_map ..
      generalize hw1 : ws.getD 1 "" = w1 at fin eD lw
      have hDl : (w1.cps.toList.map fun c => V.bl (decide (c ∈ LETT.cps.toList))).length = w1.length := by
        rw [List.length_map, Array.length_toList]
        rfl
      refine ⟨_, g3, D, w1.cps.toList.map (fun c => decide (c ∈ LETT.cps.toList)), rfl, SqL.of (by rw [eD, List.map_map]; rfl), ?_⟩
      rw [List.all_map]
      rw [show (w1.cps.toList.all (id ∘ fun c => decide (c ∈ LETT.cps.toList))) = allIn LETT w1 from rfl]
      refine ⟨_, rfl, ?_⟩
      cases ha : allIn LETT w1 with
      | false =>
        refine iteT (fin _ _ (Same.refl H5) ?_)
        rcases hv with ⟨_, e⟩ | ⟨n, _, e⟩
        · rw [e]
          exact .non
        · rw [e, ha]
          exact .non
      | true =>
        refine iteF ?_
        refine ⟨_, g3, D, _, rfl, .inl (SqL.of eD), _, _, rfl, rfl, _, rfl, ?_⟩
        rw [hDl]
        refine ite2 (fun c8 => ?_) (fun c8 => ?_)
        · refine iteT (fin _ _ (Same.refl H5) ?_)
          have z := of_decide_eq_true c8
          rcases hv with ⟨_, e⟩ | ⟨n, _, e⟩
          · rw [e]
            exact .non
          · rw [e, ha, decide_eq_true (show w1.length > 8 by omega)]
            exact .non
        · have l8 : ¬ w1.length > 8 := fun z => c8 (decide_eq_true (show (w1.length : Int) > 8 by omega))
          rcases hv with ⟨e1, e2⟩ | ⟨n, e1, e2⟩
          · refine ⟨_, g2, rfl, _, rfl, ?_⟩
            rw [e1]
            refine iteT (iteT (fin _ _ (Same.refl H5) ?_))
            rw [e2]
            exact .non
          · refine ⟨_, g2, rfl, _, rfl, ?_⟩
            rw [e1] at g2 ⊢
            refine iteF ?_
            have yes : (decide (ws.length = 3) && decide (n = 0)) = true → Q .non H5 := fun z => fin _ _ (Same.refl H5) (by
              rw [e2]
              show Dp K H5 _ (if _ then _ else _)
              rw [ha, decide_eq_false l8, z]
              exact .non)
            have nope : (decide (ws.length = 3) && decide (n = 0)) = false → ∀ p, H5 p = none → Q (.ref p) (upd H5 p (.tup [.str "deed", .str w1, .int n])) := fun z p hp => fin _ _ (Same.new hp) (by
              rw [e2]
              show Dp K _ _ (if _ then _ else _)
              rw [ha, decide_eq_false l8, z]
              exact .tup (SqT.of upd_same) (.cons (.str _) (.cons (.str _) (.cons (.int _) .nil))))
            refine ⟨_, g1, l, _, rfl, .inl (SqL.of el), rfl, _, rfl, ?_⟩
            rw [hml]
            refine ite_keep (decide (ws.length = 3) && decide (n = 0)) (fun c9 => ?_) (fun cN => ?_) (fun c9 rest => ?_)
            · rw [decide_eq_false (fun z => of_decide_eq_false c9 (by rw [z]; rfl))]
              rfl
            · refine iteF ?_
              refine ⟨_, g1, l, _, _, _, rfl, rfl, SqL.of el, atI_nat (j := 1) (getS (by omega)), _, g2, (by show 3 ≤ sizeLine; omega), fun p hp => ?_⟩
              rw [hw1]
              exact nope cN p hp
            · refine ⟨_, g2, rfl, _, rfl, ?_⟩
              refine ite2 (fun c10 => ?_) (fun c10 => ?_)
              · refine yes ?_
                rw [decide_eq_true (V.int.inj (of_decide_eq_true c10)), Bool.and_true]
                have z := V.int.inj (of_decide_eq_true c9)
                exact decide_eq_true (by omega)
              · exact rest (by
                  rw [decide_eq_false (p := n = 0) (fun z => c10 (decide_eq_true (by rw [z])))]
                  exact Bool.and_false _)
    refine ⟨_, pss_cons (ps_if (pt_cmpR op_eq (pv 0) pe_str (nomark _)) (pss_one (ps_ret (pe_tup (pa_cons pe_str pa_nil)))) pss_nil)
      (pss_cons (ps_set (i := 1) scMove.nd rfl (Or.inl rfl) (pe_split (pv 0) pe_str))
      (pss_cons (ps_if (PW.pt (pw_and (pt_cmpR (op_inN (hu_of hr)) (pe_ix ix_list (pv 1) pe_int (fun _ _ => rfl)) (pe_tup (pa_cons pe_str (pa_cons pe_str (pa_cons pe_str (pa_cons pe_str pa_nil))))) rfl) (pw_and1 (pt_cmpR op_eq (pe_callB call_len_seq (by rfl) T.len PySem.boot_len (pa_cons (pv 1) pa_nil)) pe_int (nomark _)))))
          (pss_cons (ps_set (i := 2) scMove.nd rfl (Or.inl rfl) (by exact pe_call G1 hr rfl m1 k1 b1 .nil pass0 (pa_cons (pe_ix ix_list (pv 1) pe_int (fun _ _ => rfl)) pa_nil)))
          (pss_one (ps_ret (pe_ifExp (pt_cmpR op_isN (pv 2) pe_non (nomark _)) pe_non (pe_tup (pa_cons (pe_ix ix_list (pv 1) pe_int (fun _ _ => rfl)) (pa_cons (pv 2) pa_nil))))))) pss_nil)
      (pss_cons (ps_if (PW.pt (pw_or (pt_cmpR op_ne (pe_ix ix_list (pv 1) pe_int (fun _ _ => rfl)) pe_str (nomark _)) (pw_or (pt_not (pt_chain op_le op_le pe_int (pe_callB call_len_seq (by rfl) T.len PySem.boot_len (pa_cons (pv 1) pa_nil)) pe_int)) (pw_or1 (pt_cmpR (op_inN (hu_of hr)) (pe_ix ix_list (pv 1) pe_int (fun _ _ => rfl)) (pe_tup (pa_cons pe_str (pa_cons pe_str (pa_cons pe_str pa_nil)))) rfl))))) (pss_one (ps_ret pe_non)) pss_nil)
      (pss_cons (ps_setLc (i := 3) (own := [("_law_sign", 4)]) (g := gName 4) (tt := tYes) (by rfl) scMove.nd rfl rfl (sw_true rfl rfl rfl (by decide +kernel)) (pi_str (pe_ix ix_list (pv 1) pe_int (fun _ _ => rfl))) (blkOk_by (own := [("_law_sign", 4)]) (N := NM) (sc := defScope sMove) (by decide +kernel)) (fun _ _ _ _ _ => pg_name (i := 4) scMove.nd rfl (Or.inl rfl)) (fun _ _ _ _ _ => pts_nil) (fun _ _ _ _ _ => pe_cmpR op_in_sign (pv 4) pe_str rfl))
      (pss_cons (ps_set (i := 2) scMove.nd rfl (Or.inl rfl) (pe_ifExp (pt_cmpR op_eq (pe_callB call_len_seq (by rfl) T.len PySem.boot_len (pa_cons (pv 1) pa_nil)) pe_int (nomark _)) (by exact pe_call G1 hr rfl m1 k1 b1 .nil pass0 (pa_cons (pe_ix ix_list (pv 1) pe_int (fun _ _ => rfl)) pa_nil)) pe_int))
      hps))))), ?_⟩
    have fin : ∀ {v : V} {H' : Hp} {d : PyData}, Same H H' → movM x = d → Dp K H' v d → Q v H' := fun s1 e h => k _ _ s1 (e ▸ h)
    refine ⟨_, rfl, rfl, _, rfl, ?_⟩
    refine ite2 (fun c1 => ?_) (fun c1 => ?_)
    · refine ⟨(by show 1 ≤ sizeLine; omega), fun p hp => ?_⟩
      refine fin (d := .tuple [.str "over"]) (Same.new hp) ?_ (.tup (SqT.of upd_same) (.cons (.str _) .nil))
      unfold movM
      rw [decide_eq_true (V.str.inj (of_decide_eq_true c1))]
      rfl
    have h1 : ¬ x = "over" := fun z => c1 (decide_eq_true (by rw [z]))
    have hxl := ok.len
    refine ⟨_, rfl, ⟨_, rfl⟩, _, _, rfl, rfl, by decide +kernel, (by omega), fun l hl => ?_⟩
    have s1 := Same.new (o := .lst ((Txt.split x " ").map V.str)) hl
    have e1 : (upd H l (.lst ((Txt.split x " ").map V.str))) l = some (.lst ((Txt.split x " ").map V.str)) := upd_same
    generalize upd H l (.lst ((Txt.split x " ").map V.str)) = H1 at s1 e1
    have ev : movM x = (let ws := Txt.split x " "
      if (heads4.contains (ws.getD 0 "") && decide (ws.length = 2)) = true then (match figM (ws.getD 1 "") with
        | .int n => .tuple [.str (ws.getD 0 ""), .int n]
        | _ => .none) else
      if (!decide (ws.getD 0 "" = "deed") || (!(decide (2 ≤ ws.length) && decide (ws.length ≤ 3)) || badN.contains (ws.getD 1 ""))) = true then .none else
      match numM ws with
        | .int n => if (!allIn LETT (ws.getD 1 "") || (decide ((ws.getD 1 "").length > 8) || (decide (ws.length = 3) && decide (n = 0)))) = true then .none else .tuple [.str "deed", .str (ws.getD 1 ""), .int n]
        | _ => .none) := by
      unfold movM
      rw [decide_eq_false h1]
      rfl
    have hfew := ok.few
    have hsome := ok.some
    have hfig := ok.fig
    generalize Txt.split x " " = ws at ev e1 hfew hsome hfig
    have hml : (ws.map V.str).length = ws.length := List.length_map ..
    have ix : ∀ {i : Nat} {H' : Hp}, i < ws.length → Same H1 H' → SqL K H' l (ws.map V.str) ∧ atI (ws.map V.str) ((i : Nat) : Int) = some (.str (ws.getD i "")) := fun hi s2 => ⟨SqL.of (s2 _ _ e1), atI_nat (getS hi)⟩
    refine ⟨_, rfl, l, _, _, _, rfl, rfl, (ix (i := 0) hsome (Same.refl H1)).1, (ix (i := 0) hsome (Same.refl H1)).2, ?_⟩
    refine ⟨(by show 4 ≤ sizeLine; omega), fun t ht => ⟨ws.getD 0 "", heads4, rfl, ⟨t, rfl, .inr (.inr (SqT.of upd_same))⟩, _, rfl, ?_⟩⟩
    have s2 := Same.new (o := .tup [V.str "sends", V.str "does", V.str "comes", V.str "gone"]) ht
    generalize upd H1 t (.tup [V.str "sends", V.str "does", V.str "comes", V.str "gone"]) = H2 at s2
    refine ite_keep (heads4.contains (ws.getD 0 "") && decide (ws.length = 2)) (fun c2 => ?_) (fun cN => ?_) (fun c2 rest => ?_)
    · show (_ && _) = false
      rw [show heads4.contains (ws.getD 0 "") = false from c2]
      rfl
    · -- a deed, or none
      refine iteF ?_
      refine ⟨_, rfl, l, _, _, _, rfl, rfl, (ix (i := 0) hsome s2).1, (ix (i := 0) hsome s2).2, rfl, _, rfl, ?_⟩
      have none_ : ∀ {H' : Hp}, Same H2 H' → (!decide (ws.getD 0 "" = "deed") || (!(decide (2 ≤ ws.length) && decide (ws.length ≤ 3)) || badN.contains (ws.getD 1 ""))) = true → Q .non H' := fun s3 c => fin (s1.trans (s2.trans s3)) (by
        rw [ev]
        show (if _ then _ else (if _ then _ else _)) = _
        rw [if_neg (by rw [cN]; exact Bool.false_ne_true), if_pos c]) .non
      have dd : decide (V.str (ws.getD 0 "") = V.str "deed") = decide (ws.getD 0 "" = "deed") := by
        by_cases z : ws.getD 0 "" = "deed"
        · rw [decide_eq_true z, z]
          exact decide_eq_true rfl
        · rw [decide_eq_false z, decide_eq_false (fun y => z (V.str.inj y))]
      rw [dd]
      cases c4 : decide (ws.getD 0 "" = "deed") with
      | false =>
        refine iteT (iteT (none_ (Same.refl H2) ?_))
        rw [c4]
        rfl
      | true =>
        refine iteF ?_
        refine ⟨_, rfl, l, _, rfl, .inl (ix (i := 0) hsome s2).1, _, _, rfl, rfl, _, rfl, ?_⟩
        rw [hml]
        refine ite2 (fun c5 => ?_) (fun c5 => ?_)
        · have l2 : 2 ≤ ws.length := by
            have z := of_decide_eq_true c5
            omega
          refine ⟨_, _, rfl, rfl, _, rfl, ?_⟩
          refine ite2 (fun c6 => ?_) (fun c6 => ?_)
          · refine iteT (none_ (Same.refl H2) ?_)
            have z : ¬ ws.length ≤ 3 := fun z => by
              rw [decide_eq_true (show (ws.length : Int) ≤ 3 by omega)] at c6
              cases c6
            rw [decide_eq_false z]
            simp
          · have l3 : ws.length ≤ 3 := by
              rcases Nat.lt_or_ge 3 ws.length with z | z
              · exact absurd (by rw [decide_eq_false (show ¬ (ws.length : Int) ≤ 3 by omega)]; rfl) c6
              · exact z
            refine ⟨_, rfl, l, _, _, _, rfl, rfl, (ix (i := 1) (by omega) s2).1, (ix (i := 1) (by omega) s2).2, (by show 3 ≤ sizeLine; omega), fun t2 ht2 => ⟨ws.getD 1 "", badN, rfl, ⟨t2, rfl, .inr (.inr (SqT.of upd_same))⟩, _, rfl, ?_⟩⟩
            have s3 := Same.new (o := .tup [V.str "it", V.str "asked", V.str ""]) ht2
            generalize upd H2 t2 (.tup [V.str "it", V.str "asked", V.str ""]) = H3 at s3
            refine ite2 (fun c7 => ?_) (fun c7 => ?_)
            · refine none_ s3 ?_
              rw [show badN.contains (ws.getD 1 "") = true from c7]
              simp
            · have c7' : badN.contains (ws.getD 1 "") = false := by
                cases e : badN.contains (ws.getD 1 "") with
                | false => rfl
                | true => exact absurd e c7
              have ee : movM x = (match numM ws with
                  | .int n => if (!allIn LETT (ws.getD 1 "") || (decide ((ws.getD 1 "").length > 8) || (decide (ws.length = 3) && decide (n = 0)))) = true then .none else .tuple [.str "deed", .str (ws.getD 1 ""), .int n]
                  | _ => .none) := by
                rw [ev]
                show (if _ then _ else (if _ then _ else _)) = _
                rw [if_neg (by rw [cN]; exact Bool.false_ne_true), if_neg (by rw [c4, c7', decide_eq_true l2, decide_eq_true l3]; exact Bool.false_ne_true)]
              refine ⟨_, rfl, l, _, _, _, rfl, rfl, (ix (i := 1) (by omega) (s2.trans s3)).1, (ix (i := 1) (by omega) (s2.trans s3)).2, _, rfl, fun D hD => ?_⟩
              have lw := (hfig _ (getS_mem (i := 1) (by omega))).1
              have eL := (s2.trans s3) _ _ e1
              refine lc_str (fun i H' => Same H3 H' ∧ H' D = some (.lst (((ws.getD 1 "").cps.toList.take i).map fun c => V.bl (decide (c ∈ LETT.cps.toList))))) ⟨Same.new hD, upd_same⟩ ?_ ?_
              · rintro i c H' hc ⟨s4, h4⟩
                have hlt : i < (ws.getD 1 "").cps.size := (Array.getElem?_eq_some_iff.mp hc).1
                have hxl : (ws.getD 1 "").cps.size ≤ 100 := lw
                refine ⟨rfl, ?_⟩
                refine ⟨_, rfl, c, LETT, rfl, rfl, _, h4, (by rw [List.length_map, List.length_take, Array.length_toList]; omega), ?_⟩
                refine ⟨fun b o e => ?_, ?_⟩
                · rw [upd_ne (ne_of_none e hD)]
                  exact s4 b o e
                · rw [upd_same, List.take_add_one, List.map_append]
                  rw [show (ws.getD 1 "").cps.toList[i]? = some c from by rw [Array.getElem?_toList]; exact hc]
                  rfl
              rintro H4 ⟨s4, h4⟩
              rw [← Array.length_toList, List.take_length] at h4
              have sA := s1.trans (s2.trans (s3.trans s4))
              have eL4 := s4 _ _ eL
              refine ⟨_, rfl, l, _, rfl, .inl (SqL.of eL4), rfl, _, rfl, ?_⟩
              rw [hml]
              refine ite2 (fun c8 => ?_) (fun c8 => ?_)
              · have l3' : ws.length = 3 := by
                  have z := V.int.inj (of_decide_eq_true c8)
                  omega
                refine ⟨_, rfl, l, _, _, _, rfl, rfl, SqL.of eL4, atI_nat (j := 2) (getS (by omega)), ?_⟩
                refine ⟨_, rfl, hfig _ (getS_mem (by omega)), fun H5 s5 => ?_⟩
                refine last ws l D _ _ H5 l2 l3 lw (s5 _ _ eL4) (s5 _ _ h4) ?_ rfl rfl rfl (fun y H6 s6 d => fin (sA.trans (s5.trans s6)) ee d)
                rcases fig_cases (ws.getD 2 "") with ⟨e4, e5⟩ | ⟨n, e4, e5⟩
                · exact .inl ⟨e5, by unfold numM; rw [if_pos l3', e4]⟩
                · exact .inr ⟨n, e5, by unfold numM; rw [if_pos l3', e4]⟩
              · refine last ws l D _ _ H4 l2 l3 lw eL4 h4 (.inr ⟨0, rfl, ?_⟩) rfl rfl rfl (fun y H6 s6 d => fin (sA.trans s6) ee d)
                unfold numM
                rw [if_neg (fun z => c8 (decide_eq_true (by rw [z]; rfl)))]
        · refine ⟨_, rfl, iteT (iteT (none_ (Same.refl H2) ?_))⟩
          have z : ¬ 2 ≤ ws.length := fun z => by
            rw [decide_eq_true (show (2 : Int) ≤ (ws.length : Int) by omega)] at c5
            exact c5 rfl
          rw [decide_eq_false z]
          simp
    · refine ⟨_, rfl, l, _, rfl, .inl (ix (i := 0) hsome s2).1, rfl, _, rfl, ?_⟩
      rw [hml]
      refine ite2 (fun c3 => ?_) (fun c3 => ?_)
      · have l2 : ws.length = 2 := by
          have z := V.int.inj (of_decide_eq_true c3)
          omega
        refine ⟨_, rfl, l, _, _, _, rfl, rfl, (ix (i := 1) (by omega) s2).1, (ix (i := 1) (by omega) s2).2, ?_⟩
        refine ⟨_, rfl, hfig _ (getS_mem (by omega)), fun H3 s3 => ?_⟩
        refine ⟨_, rfl, rfl, _, rfl, ?_⟩
        have ee : movM x = (match figM (ws.getD 1 "") with
            | .int n => .tuple [.str (ws.getD 0 ""), .int n]
            | _ => .none) := by
          rw [ev]
          show (if _ then _ else _) = _
          rw [if_pos (by rw [show heads4.contains (ws.getD 0 "") = true from c2, decide_eq_true l2]; rfl)]
        rcases fig_cases (ws.getD 1 "") with ⟨e4, e5⟩ | ⟨n, e4, e5⟩
        · rw [e5]
          refine iteT ?_
          exact fin (s1.trans (s2.trans s3)) (by rw [ee, e4]) .non
        · rw [e5]
          refine iteF ?_
          refine ⟨_, rfl, l, _, _, _, rfl, rfl, (ix (i := 0) (by omega) (s2.trans s3)).1, (ix (i := 0) (by omega) (s2.trans s3)).2, _, rfl, (by show 2 ≤ sizeLine; omega), fun p hp => ?_⟩
          exact fin (s1.trans (s2.trans (s3.trans (Same.new hp)))) (by rw [ee, e4]) (.tup (SqT.of upd_same) (.cons (.str _) (.cons (.int _) .nil)))
      · exact rest (by
          rw [decide_eq_false (fun z => c3 (decide_eq_true (by rw [z]; rfl)))]
          exact Bool.and_false _)
end
end K6

/-! text Q5 -/
set_option Elab.async false
set_option linter.all false
set_option maxRecDepth 100000
set_option maxHeartbeats 1000000
namespace K6
open PySem PySem.Spec PyProof.Rows L2
/-- what is read: the moves, or the number of the row that is none -/
def isNo : PyData → Bool
  | .none => true
  | _ => false
def readM (rows : List Str) : Except Int (List PyData) := if rows = ([""] : List Str) then .ok [] else match rows.findIdx? (fun r => isNo (movM r)) with
  | some i => .error (i + 1)
  | none => .ok (rows.map movM)
def heardD : Except Int (List PyData) → PyData
  | .ok ds => .tuple [.str "told", .tuple ds]
  | .error l => .tuple [.str "bad", .int l]
/-- a value that is handed in, and what comes of it -/
inductive InV (K : PySem.W.Frag) (H : Hp) : V → Except Int (List PyData) → Prop
  | rows (rs : List Str) : rs ≠ [] → rs.length ≤ 5 → (∀ r ∈ rs, r ∈ rowsL) → InV K H (.str (Txt.join "\n" rs)) (readM rs)
  | non : InV K H .non (.error 0)
  | int (i : Int) : InV K H (.int i) (.error 0)
  | bl (b : Bool) : InV K H (.bl b) (.error 0)
  | lst {a : Addr} {xs : List V} : H a = some (.lst xs) → InV K H (.ref a) (.error 0)
  | tup {a : Addr} {xs : List V} : H a = some (.tup xs) → InV K H (.ref a) (.error 0)
  | dct {a : Addr} {kvs : List (Key × V)} : H a = some (.dK kvs) → InV K H (.ref a) (.error 0)
theorem inV_same {K : PySem.W.Frag} {H H' : Hp} {v : V} {r : Except Int (List PyData)} (k : Same H H') (h : InV K H v r) : InV K H' v r := by
  cases h with
  | rows rs a b c => exact .rows rs a b c
  | non => exact .non
  | int i => exact .int i
  | bl b => exact .bl b
  | lst e => exact .lst (k _ _ e)
  | tup e => exact .tup (k _ _ e)
  | dct e => exact .dct (k _ _ e)
def spRead (K : PySem.W.Frag) (CB : Addr) : Sp := fun vs H Q E => ∃ (v : V) (r : Except Int (List PyData)), vs = [v] ∧ InV K H v r ∧ match r with
  | .ok ds => ∀ y H', Same H H' → Dp K H' y (.tuple ds) → Q y H'
  | .error l => ∀ H' d, Same H H' → H' d = some (.xd [(("line" : Str), V.int l)]) → E (.ref CB) (some d) H'
structure HdN (K : PySem.W.Frag) (mg : Str → Option Value) (CB CL : Addr) : Prop where
  gL : mg "LateError" = some (.ref CL)
  gB : mg "BadText" = some (.ref CB)
  isi : mg "isinstance" = none
  val : mg "ValueError" = none
  ex : PySem.W.exmOne K (.ref CB) (.ref CL) = some true
  k1 : PySem.W.kitOne K (.ref CB) (.ref CB) = some true
  k2 : PySem.W.kitOne K (.ref CB) (.type "ValueError") = some true
  isD : IsD2 K CB
  xf : XfC K CB
  noL : PySem.W.findIn K (.ref CB) "line" = some none
abbrev sHeard : Stmt := top 21
abbrev NH : List Str := ["_law_value", "_law_missed", "_law_found", "error", "_law_is_bad"]
section
variable {P : Program} {w : World} {K : PySem.W.Frag} {mg : Str → Option Value} {base : Heap} {CB CL : Addr}
theorem scHeard : FnScope NH ["_law_value"] (defScope sHeard) := ⟨rfl, rfl, rfl, by decide +kernel, rfl, by decide +kernel, by decide +kernel⟩
def spHeard (K : PySem.W.Frag) : Sp := fun vs H Q _ => ∃ (v : V) (r : Except Int (List PyData)), vs = [v] ∧ InV K H v r ∧ ∀ y H', Same H H' → Dp K H' y (heardD r) → Q y H'
theorem ok_heard {j : Nat} {f : Addr} {fd : FuncData} (F : Fun K "_law_heard" "_law_heard" sHeard f fd) (T : HdN K mg CB CL) (R : FnAt P w K mg base (L2.CX P w) j "read_story" ["text"] (spRead K CB)) : FnOk P w K mg base CX0 (j + 1) f fd ["_law_value"] (spHeard K) := by
  refine F.ok scHeard (fun vs H Q E h => ?_) (fun cdv A outer s H vs Q E hr h => ?_)
  · obtain ⟨v, r, rfl, _⟩ := h
    rfl
  · obtain ⟨v, r, rfl, hv, k⟩ := h
    obtain ⟨f1, d1, m1, k1, b1, G1⟩ := R
    refine ⟨_, pss_cons (ps_asg (pe_tup (pa_cons pe_non (pa_cons pe_non pa_nil))) (pg_tup (by rfl) (pgs_cons (pg_name (i := 1) scHeard.nd rfl (Or.inl rfl)) (pgs_cons (pg_name (i := 2) scHeard.nd rfl (Or.inl rfl)) pgs_nil))))
      (pss_cons (ps_try_keep (i := 3) (Wo := fun _ _ _ _ => False) rfl rfl scHeard.nd rfl rfl ⟨rfl, by decide, .inl T.gL⟩ takes0 rfl
        (fun W pn xe tk _ => pss_one (ps_set (i := 2) scHeard.nd rfl (Or.inl rfl) (by exact pe_callS G1 hr rfl m1 k1 b1 (fun σ => passAt tk σ) (pa_cons (pv 0) pa_nil))))
        (fun a oe cls d pn hz hf => pss_one (ps_set (i := 1) scHeard.nd rfl (Or.inl rfl) (pv 3))))
      (pss_cons (ps_if (pt_cmpR op_isN (pv 1) pe_non (nomark _)) (pss_one (ps_ret (pe_tup (pa_cons pe_str (pa_cons (pv 2) pa_nil))))) pss_nil)
      (pss_cons (ps_set (i := 4) scHeard.nd rfl (Or.inl rfl) (pe_and (pe_callB call_isV (by rfl) T.isi (by decide +kernel) (pa_cons (pv 1) (pa_cons (pe_glob (v := .ref CB) rfl T.gB rfl) pa_nil))) (pe_one (pe_callB call_isV (by rfl) T.isi (by decide +kernel) (pa_cons (pv 1) (pa_cons (pe_bltn (v := .ty "ValueError") (by rfl) T.val (by decide +kernel) rfl) pa_nil))))))
      (pss_one (ps_ret (pe_ifExp (pt_val (pv 4)) (pe_tup (pa_cons pe_str (pa_cons (pe_fldV (pv 1)) pa_nil))) (pe_tup (pa_cons pe_str (pa_cons pe_non pa_nil))))))))), ?_⟩
    refine ⟨(by show 2 ≤ sizeLine; decide), fun p hp => ?_⟩
    have s1 := Same.new (o := .tup [V.non, V.non]) hp
    have e1 : (upd H p (.tup [V.non, V.non])) p = some (.tup [V.non, V.non]) := upd_same
    generalize upd H p (.tup [V.non, V.non]) = H1 at s1 e1
    refine ⟨p, _, rfl, SqT.of e1, rfl, _, _, rfl, _, _, rfl, rfl, ?_⟩
    refine ⟨_, rfl, v, r, rfl, inV_same s1 hv, ?_⟩
    match r, k with
    | .ok ds, k =>
      intro y H2 s2 dy
      refine ⟨_, rfl, rfl, _, rfl, ?_⟩
      refine iteT ⟨_, rfl, (by show 2 ≤ sizeLine; decide), fun q hq => ?_⟩
      exact k _ _ (s1.trans (s2.trans (Same.new hq))) (.tup (SqT.of upd_same) (.cons (.str _) (.cons (dp_same (Same.new hq) _ _ dy) .nil)))
    | .error l, k =>
      intro H2 d s2 hd
      refine ⟨true, T.ex, fun z => Bool.noConfusion z, fun _ a ha => ?_⟩
      refine ⟨_, rfl, ?_⟩
      have hda : d ≠ a := ne_of_none hd ha
      have s3 := Same.new (o := ExV (.ref CB) (some d) a) ha
      have e3 : (upd H2 a (ExV (.ref CB) (some d) a)) a = some (ExV (.ref CB) (some d) a) := upd_same
      have hd3 := s3 _ _ hd
      refine ⟨_, rfl, rfl, _, rfl, ?_⟩
      refine iteF ?_
      refine ⟨_, rfl, CB, a, d, "line", .int l, .ref CB, .ref CB, true, rfl, T.isD, e3, hd3, (fun y hy => hy), T.k1, ?_⟩
      refine ⟨true, rfl, iteT ?_⟩
      refine ⟨_, rfl, CB, a, d, "line", .int l, .ty "ValueError", .type "ValueError", true, rfl, T.isD, e3, hd3, (fun y hy => hy), T.k2, ?_⟩
      refine ⟨_, rfl, true, rfl, iteT ?_⟩
      refine ⟨_, rfl, CB, a, d, _, _, rfl, T.xf, T.noL, e3, hd3, rfl, (by show 2 ≤ sizeLine; decide), fun q hq => ?_⟩
      exact k _ _ (s1.trans (s2.trans (s3.trans (Same.new hq)))) (.tup (SqT.of upd_same) (.cons (.str _) (.cons (.int _) .nil)))
end
end K6

/-! text Q6 -/
set_option Elab.async false
set_option linter.all false
set_option maxRecDepth 100000
set_option maxHeartbeats 1000000
namespace K6
open PySem PySem.Spec PyProof.Rows L2
theorem dp_all {K : PySem.W.Frag} {H : Hp} (l : List Str) : DpAll K H (l.map V.str) (l.map PyData.str) := by
  induction l with
  | nil => exact .nil
  | cons a r ih => exact .cons (.str a) ih
theorem dp_strs {K : PySem.W.Frag} {H : Hp} {a : Addr} {l : List Str} (h : SqL K H a (l.map V.str)) : Dp K H (.ref a) (.list (l.map PyData.str)) := .lst h (dp_all l)
theorem eqvAll_strs : ∀ (l m : List Str), PyData.eqvAll (l.map PyData.str) (m.map PyData.str) = (l == m)
  | [], [] => rfl
  | [], _ :: _ => rfl
  | _ :: _, [] => rfl
  | a :: l, b :: m => by
    have ih := eqvAll_strs l m
    show ((a == b) && PyData.eqvAll (l.map PyData.str) (m.map PyData.str)) = ((a == b) && (l == m))
    rw [ih]
theorem eqv_strs (l m : List Str) : PyData.eqv (.list (l.map PyData.str)) (.list (m.map PyData.str)) = (l == m) := eqvAll_strs l m
theorem canLay_all (l : List Str) (h : ∀ x ∈ l, PyData.strOk x = true) : PyData.canLayAll0 (l.map PyData.str) = true := by
  induction l with
  | nil => simp only [List.map_nil, PyData.canLayAll0]
  | cons a r ih =>
    simp only [List.map_cons, PyData.canLayAll0, PyData.canLay0]
    rw [h a List.mem_cons_self, ih fun x hx => h x (List.mem_cons_of_mem _ hx)]
    rfl
theorem depth_all (l : List Str) : PyData.depthAll (l.map PyData.str) = 0 := by
  induction l with
  | nil => simp only [List.map_nil, PyData.depthAll]
  | cons a r ih =>
    simp only [List.map_cons, PyData.depthAll, PyData.depth]
    rw [ih]
    rfl
theorem shaped_strs (l : List Str) (h : ∀ x ∈ l, PyData.strOk x = true) : SeqAt.shaped (.list (l.map PyData.str)) = true := by
  have e1 : (PyData.list (l.map PyData.str)).canLay0 = true := by
    simp only [PyData.canLay0]
    exact canLay_all l h
  have e2 : (PyData.list (l.map PyData.str)).depth ≤ 64 := by
    simp only [PyData.depth]
    rw [depth_all]
    decide
  unfold SeqAt.shaped
  rw [e1, decide_eq_true e2]
  rfl

/-! ### facts of the rows -/
def figOkB (w : Str) : Bool := decide (w.length ≤ 100) && (decide (w.length > 3) || (decide (w = "") || (!allIn DIGS w || (PySem.intText? w).isSome)))
def rowOkB (r : Str) : Bool := decide (r.length ≤ 100) && (decide ((Txt.split r " ").length ≤ 100) && (decide (0 < (Txt.split r " ").length) && ((Txt.split r " ").all figOkB && PyData.strOk r)))
theorem rows_ok : rowsL.all rowOkB = true := by decide +kernel
/-- data without lists and dicts, small, flat -/
def noLB : PyData → Bool
  | .tuple ds => ds.all fun d => match d with
    | .str _ => true
    | .int _ => true
    | _ => false
  | .none => true
  | _ => false
def movOkB (d : PyData) : Bool := d.showable && (!d.hasDict && (decide (d.depth ≤ 1) && (d.canLay0 && (decide (d.shown.length ≤ 100) && noLB d))))
theorem movs_ok : rowsL.all (fun r => movOkB (movM r)) = true := by decide +kernel
theorem figOk_of {w : Str} (h : figOkB w = true) : FigOk w := by
  unfold figOkB at h
  simp only [Bool.and_eq_true, Bool.or_eq_true, decide_eq_true_eq, Bool.not_eq_true'] at h
  refine ⟨h.1, fun h3 h0 ha => ?_⟩
  rcases h.2 with z | z | z | z
  · omega
  · exact absurd z h0
  · rw [ha] at z
    cases z
  · exact z
theorem row_ok {r : Str} (h : r ∈ rowsL) : RowOk r ∧ PyData.strOk r = true := by
  have z := List.all_eq_true.mp rows_ok r h
  unfold rowOkB at z
  simp only [Bool.and_eq_true, decide_eq_true_eq] at z
  obtain ⟨z1, z2, z3, z4, z5⟩ := z
  exact ⟨⟨z1, z2, z3, fun w hw => figOk_of (List.all_eq_true.mp z4 w hw)⟩, z5⟩
structure MovOk (d : PyData) : Prop where
  sh : d.showable = true
  nd : d.hasDict = false
  dp : d.depth ≤ 1
  cl : d.canLay0 = true
  ln : d.shown.length ≤ 100
  nl : noLB d = true
theorem mov_ok {r : Str} (h : r ∈ rowsL) : MovOk (movM r) := by
  have z := List.all_eq_true.mp movs_ok r h
  unfold movOkB at z
  simp only [Bool.and_eq_true, decide_eq_true_eq, Bool.not_eq_true'] at z
  obtain ⟨z1, z2, z3, z4, z5, z6⟩ := z
  exact ⟨z1, z2, z3, z4, z5, z6⟩
end K6

/-! text PD9 -/
set_option Elab.async false
set_option linter.all false
set_option maxRecDepth 100000
set_option maxHeartbeats 1000000
namespace K6
open PySem PySem.Spec PyProof.Rows L2
theorem rows_p : rowsL.all (fun r => pRowB r && (flT (movM r) (pMov r) && decide ((10 : Nat) ∉ TL.tl r))) = true := by decide +kernel
theorem row_p {r : Str} (h : r ∈ rowsL) : PRow r ∧ movM r = pMov r ∧ (10 : Nat) ∉ TL.tl r := by
  have z := List.all_eq_true.mp rows_p r h
  simp only [Bool.and_eq_true, decide_eq_true_eq] at z
  exact ⟨prow_of z.1, flT_eq z.2.1, z.2.2⟩
theorem dp_fl {K : PySem.W.Frag} {H : Hp} : ∀ {vs : List V} {ds : List PyData}, FlAll vs ds → DpAll K H vs ds
  | _, _, .nil => .nil
  | _, _, .int i r => .cons (.int i) (dp_fl r)
  | _, _, .str x r => .cons (.str x) (dp_fl r)
theorem dp_mv {K : PySem.W.Frag} {H : Hp} {v : V} {d : PyData} (h : PMv K H v d) : Dp K H v d := by
  cases h with
  | non => exact .non
  | tup a b => exact .tup a (dp_fl b)
theorem dp_mvs {K : PySem.W.Frag} {H : Hp} : ∀ {vs : List V} {ds : List PyData}, PMvAll K H vs ds → DpAll K H vs ds
  | _, _, .nil => .nil
  | _, _, .cons a r => .cons (dp_mv a) (dp_mvs r)
theorem isNo_eq (d : PyData) : isNo d = pIsNo d := by
  cases d <;> rfl
theorem findIdx_congr {α : Type} {p q : α → Bool} : ∀ {l : List α}, (∀ x ∈ l, p x = q x) → l.findIdx? p = l.findIdx? q
  | [], _ => rfl
  | a :: r, h => by
    rw [List.findIdx?_cons, List.findIdx?_cons, h a List.mem_cons_self, findIdx_congr fun x hx => h x (List.mem_cons_of_mem _ hx)]
theorem read_p {rs : List Str} (h : ∀ r ∈ rs, r ∈ rowsL) : readM rs = pRead (if rs = ([""] : List Str) then [] else rs) := by
  unfold readM
  by_cases e : rs = ([""] : List Str)
  · rw [if_pos e, if_pos e]
    rfl
  · rw [if_neg e, if_neg e]
    unfold pRead
    have e1 : rs.findIdx? (fun r => isNo (movM r)) = rs.findIdx? (fun r => pIsNo (pMov r)) := findIdx_congr fun r hr => by rw [isNo_eq, (row_p (h r hr)).2.1]
    rw [e1, show rs.map movM = rs.map pMov from List.map_congr_left fun r hr => (row_p (h r hr)).2.1]
    all_goals (cases rs.findIdx? (fun r => pIsNo (pMov r)) <;> rfl)
theorem sum_le : ∀ {rs : List Str}, (∀ r ∈ rs, r.length ≤ 100) → (rs.map fun x => x.length).sum ≤ 100 * rs.length
  | [], _ => Nat.le_refl _
  | a :: r, h => by
    have z := sum_le (rs := r) fun x hx => h x (List.mem_cons_of_mem _ hx)
    have z2 := h a List.mem_cons_self
    rw [List.map_cons, List.sum_cons, List.length_cons]
    omega
theorem read_k89 {K : PySem.W.Frag} {CB : Addr} {vs : List V} {H : Hp} {Q : VK} {E : XK} (h : spRead K CB vs H Q E) : spPRead K CB vs H Q E := by
  obtain ⟨v, r, rfl, hv, k⟩ := h
  cases hv with
  | rows rs hne hl hr =>
    refine .inl ⟨_, rfl, ?_⟩
    have hp := prows_join hne fun r h => (row_p (hr r h)).2.2
    rw [read_p hr, ← hp] at k
    have sub : ∀ r ∈ pRows (Txt.join "\n" rs), r ∈ rs := fun r h => by
      rw [hp] at h
      split at h
      · cases h
      · exact h
    refine ⟨?_, ?_, fun r h => (row_p (hr r (sub r h))).1, ?_⟩
    · have z := StrLaws.join_length_le "\n" rs
      have z2 : (rs.map fun x => x.length).sum ≤ 100 * rs.length := sum_le fun r h => (row_p (hr r h)).1.len
      have z3 : (("\n" : Str)).length = 1 := by decide +kernel
      rw [TL.join_eq]
      rw [z3] at z
      omega
    · rw [hp]
      split
      · exact Nat.zero_le _
      · omega
    · generalize pRead (pRows (Txt.join "\n" rs)) = o at k
      match o, k with
      | .ok ds, k => exact fun a xs H' s1 ha pm => k _ _ s1 (.tup (SqT.of ha) (dp_mvs pm))
      | .error l, k => exact k
  | non => exact .inr ⟨_, .type "NoneType", rfl, .base .non, kit_ty (by decide +kernel), k⟩
  | int i => exact .inr ⟨_, .type "int", rfl, .base (.int _), kit_ty (by decide +kernel), k⟩
  | bl b => exact .inr ⟨_, .type "bool", rfl, .base (.bl _), kit_ty (by decide +kernel), k⟩
  | lst e => exact .inr ⟨_, .type "list", rfl, .base (.lst e), kit_ty (by decide +kernel), k⟩
  | tup e => exact .inr ⟨_, .type "tuple", rfl, .base (.tup e), kit_ty (by decide +kernel), k⟩
  | dct e => exact .inr ⟨_, .type "dict", rfl, .base (.dK e), kit_ty (by decide +kernel), k⟩
end K6

/-! text Q7 -/
set_option Elab.async false
set_option linter.all false
set_option maxRecDepth 100000
set_option maxHeartbeats 1000000
namespace K6
open PySem PySem.Spec PyProof.Rows L2
theorem len_app (a b : Str) : (a ++ b).length = a.length + b.length := by
  show (a.cps ++ b.cps).size = _
  rw [Array.size_append]
  rfl
theorem tt_len (ts : List Str) : (tupleText ts).length ≤ piled ts + 3 := by
  have key : (Str.join ", " ts).length ≤ piled ts := by
    cases ts with
    | nil => exact Nat.zero_le _
    | cons a r =>
      have z := join_length_add (a :: r) (by intro z; cases z)
      omega
  unfold tupleText
  rw [len_app, len_app]
  have h1 : (("(" : Str)).length = 1 := by decide +kernel
  have h2 : ((if ts.length == 1 then ",)" else ")" : String) : Str).length ≤ 2 := by
    split <;> decide +kernel
  have h3 := key
  omega
structure Showy (d : PyData) : Prop where
  sh : d.showable = true
  nd : d.hasDict = false
  dp : d.depth ≤ 60
  ln : d.shown.length ≤ sizeLine
theorem all_mov : ∀ (ds : List PyData), (∀ d ∈ ds, MovOk d) → PyData.showableAll ds = true ∧ PyData.hasDictAll ds = false ∧ PyData.depthAll ds ≤ 1 ∧ PyData.canLayAll0 ds = true ∧ piled (PyData.shownAll ds) ≤ 102 * ds.length
  | [], _ => ⟨by simp only [PyData.showableAll], by simp only [PyData.hasDictAll], by simp only [PyData.depthAll]; omega, by simp only [PyData.canLayAll0], by simp only [PyData.shownAll]; exact Nat.le_refl _⟩
  | d :: ds, h => by
    obtain ⟨a1, a2, a3, a4, a5⟩ := all_mov ds fun x hx => h x (List.mem_cons_of_mem _ hx)
    obtain ⟨b1, b2, b3, b4, b5, b6⟩ := h d List.mem_cons_self
    refine ⟨?_, ?_, ?_, ?_, ?_⟩
    · simp only [PyData.showableAll]
      rw [a1, b1]
      rfl
    · simp only [PyData.hasDictAll]
      rw [a2, b2]
      rfl
    · simp only [PyData.depthAll]
      omega
    · simp only [PyData.canLayAll0]
      rw [a4, b4]
      rfl
    · simp only [PyData.shownAll]
      rw [piled_cons, List.length_cons]
      omega
theorem showy_told {ds : List PyData} (h : ∀ d ∈ ds, MovOk d) (hl : ds.length ≤ 5) : Showy (heardD (.ok ds)) := by
  obtain ⟨a1, a2, a3, a4, a5⟩ := all_mov ds h
  refine ⟨?_, ?_, ?_, ?_⟩
  · simp only [heardD, PyData.showable, PyData.showableAll]
    rw [a1]
    rfl
  · simp only [heardD, PyData.hasDict, PyData.hasDictAll]
    rw [a2]
    rfl
  · simp only [heardD, PyData.depth, PyData.depthAll]
    omega
  · simp only [heardD, PyData.shown, PyData.shownAll]
    have z1 := tt_len (PyData.shownAll ds)
    have z2 := tt_len [reprText "told", tupleText (PyData.shownAll ds)]
    rw [piled_cons, piled_cons, piled_nil] at z2
    have z3 : (reprText "told").length ≤ 10 := by decide +kernel
    rw [sizeLine_eq]
    omega
theorem showy_bad {i : Int} (h0 : 0 ≤ i) (h5 : i ≤ 5) : Showy (heardD (.error i)) := by
  have key : ∀ n : Nat, n ≤ 5 → Showy (heardD (.error (n : Int))) := fun n hn => by
    have z : (heardD (.error (n : Int))).showable = true ∧ (heardD (.error (n : Int))).hasDict = false ∧ (heardD (.error (n : Int))).depth ≤ 60 ∧ (heardD (.error (n : Int))).shown.length ≤ 100 := by
      match n, hn with
      | 0, _ | 1, _ | 2, _ | 3, _ | 4, _ | 5, _ => decide +kernel
    exact ⟨z.1, z.2.1, z.2.2.1, Nat.le_trans z.2.2.2 (by rw [sizeLine_eq]; decide)⟩
  have z := key i.toNat (by omega)
  rw [Int.toNat_of_nonneg h0] at z
  exact z
theorem showy_read {rows : List Str} (h : ∀ r ∈ rows, r ∈ rowsL) (hl : rows.length ≤ 5) : Showy (heardD (readM rows)) := by
  unfold readM
  split
  · exact showy_told (fun d hd => by cases hd) (Nat.zero_le _)
  · split
    · rename_i i e
      have hi : i < rows.length := by
        have z := List.findIdx?_eq_some_iff_getElem.mp e
        exact z.1
      exact showy_bad (by omega) (by omega)
    · refine showy_told (fun d hd => ?_) (by rw [List.length_map]; exact hl)
      obtain ⟨r, hr, rfl⟩ := List.mem_map.mp hd
      exact mov_ok (h r hr)
/-- a list that grows holds none of it -/
theorem noL_upd {K : PySem.W.Frag} {H : Hp} {D : Addr} {o : HO} {xs : List V} (hD : H D = some (.lst xs)) {d : PyData} {v : V} (n : noLB d = true) (h : Dp K H v d) : Dp K (upd H D o) v d := by
  cases h with
  | non => exact .non
  | bl b => exact .bl b
  | int i => exact .int i
  | str x => exact .str x
  | lst _ _ => cases n
  | tup hs ha =>
    rename_i a ys ds
    have hs2 : SqT K (upd H D o) a ys := by
      rcases hs with (h | ⟨oo, h⟩) | h
      · exact .inl (.inl (by rw [upd_ne (ne_of h hD (by intro z; cases z))]; exact h))
      · exact .inl (.inr ⟨oo, by rw [upd_ne (ne_of h hD (by intro z; cases z))]; exact h⟩)
      · exact .inr h
    refine .tup hs2 ?_
    have flat : ∀ (ds : List PyData) (ys : List V), (ds.all fun d => match d with
      | .str _ => true
      | .int _ => true
      | _ => false) = true → DpAll K H ys ds → DpAll K (upd H D o) ys ds := by
      intro ds
      induction ds with
      | nil => intro ys _ h; cases h; exact .nil
      | cons d ds ih =>
        intro ys n h
        cases h with
        | cons h1 h2 =>
          rw [List.all_cons] at n
          obtain ⟨n1, n2⟩ := Bool.and_eq_true_iff.mp n
          refine .cons ?_ (ih _ n2 h2)
          cases h1 with
          | int i => exact .int i
          | str x => exact .str x
          | non => cases n1
          | bl b => cases n1
          | lst _ _ => cases n1
          | tup _ _ => cases n1
    exact flat _ _ n ha
theorem noLs_upd {K : PySem.W.Frag} {H : Hp} {D : Addr} {o : HO} {xs : List V} (hD : H D = some (.lst xs)) : ∀ {ds : List PyData} {vs : List V}, (∀ d ∈ ds, noLB d = true) → DpAll K H vs ds → DpAll K (upd H D o) vs ds
  | [], _, _, h => by cases h; exact .nil
  | d :: ds, _, n, h => by
    cases h with
    | cons h1 h2 => exact .cons (noL_upd hD (n d List.mem_cons_self) h1) (noLs_upd hD (fun x hx => n x (List.mem_cons_of_mem _ hx)) h2)
theorem shaped_list {ds : List PyData} (h : ∀ d ∈ ds, MovOk d) : SeqAt.shaped (.list ds) = true := by
  obtain ⟨a1, a2, a3, a4, a5⟩ := all_mov ds h
  have e1 : (PyData.list ds).canLay0 = true := by
    simp only [PyData.canLay0]
    exact a4
  have e2 : (PyData.list ds).depth ≤ 64 := by
    simp only [PyData.depth]
    omega
  unfold SeqAt.shaped
  rw [e1, decide_eq_true e2]
  rfl
end K6

/-! text Q8 -/
set_option Elab.async false
set_option linter.all false
set_option maxRecDepth 100000
set_option maxHeartbeats 1000000
namespace K6
open PySem PySem.Spec PyProof.Rows L2
abbrev sRight : Stmt := top 22
abbrev NR : List Str := ["_law_pot_here", "_law_rows", "_law_found", "_law_due", "_law_thing", "_law_turn", "_law_row_here"]
def readN (rows : List Str) : Except Int (List PyData) := match rows.findIdx? (fun r => isNo (movM r)) with
  | some i => .error (i + 1)
  | none => .ok (rows.map movM)
theorem heard_ref {K : PySem.W.Frag} {H : Hp} {y : V} {r : Except Int (List PyData)} (h : Dp K H y (heardD r)) : ∃ a, y = .ref a := by
  cases r with
  | ok ds => cases h with | tup _ _ => exact ⟨_, rfl⟩
  | error l => cases h with | tup _ _ => exact ⟨_, rfl⟩
structure RgN (mg : Str → Option Value) : Prop where
  range : mg "range" = none
  tuple : mg "tuple" = none
  repr : mg "repr" = none
section
variable {P : Program} {w : World} {K : PySem.W.Frag} {mg : Str → Option Value} {base : Heap}
theorem scRight : FnScope NR ["_law_pot_here"] (defScope sRight) := ⟨rfl, rfl, rfl, by decide +kernel, rfl, by decide +kernel, by decide +kernel⟩
def spRight : Sp := fun vs H Q _ => ∃ (a : Addr) (p0 p1 p2 : Int), vs = [.ref a] ∧ Pot a p0 p1 p2 H ∧ p2 ≤ 250 ∧ ∀ q0 q2 H', q2 ≤ p2 + 7 → Fr a H H' → Pot a q0 p1 q2 H' → Q (.bl true) H'
theorem ok_right {j : Nat} (hj : 3 ≤ j) {f : Addr} {fd : FuncData} (F : Fun K "_law_right" "_law_right" sRight f fd) (T : RgN mg) (RO : FnAt P w K mg base CX0 2 "_law_of" ["_law_pot_here", "_law_some"] spOf) (RR : FnAt P w K mg base CX0 3 "_law_row" ["_law_pot_here"] spRow)
    (RM : FnAt P w K mg base CX0 2 "_law_move" ["_law_row_here"] (spMove K)) (RH : FnAt P w K mg base CX0 j "_law_heard" ["_law_value"] (spHeard K)) : FnG P w K mg base CX0 (j + 1) f fd ["_law_pot_here"] spRight := by
  refine okG F scRight (fun h => ?_) (fun {cdv A os st H vs Q E} hG hr h => ?_)
  · obtain ⟨a, p0, p1, p2, rfl, _⟩ := h
    rfl
  · obtain ⟨a, p0, p1, p2, rfl, hp, h2, q⟩ := h
    obtain ⟨f1, d1, m1, k1, b1, G1⟩ := RO
    obtain ⟨f2, d2, m2, k2, b2, G2⟩ := RR
    obtain ⟨f3, d3, m3, k3, b3, G3⟩ := RM
    obtain ⟨f4, d4, m4, k4, b4, G4⟩ := RH
    have hr2 : Room 2 _ := hr.mono (by omega)
    have hr3 : Room 3 _ := hr.mono hj
    have hu := hr.units
    have hu5 := hr.un
    have hu65 := Nat.lt_of_le_of_lt (show _ + 65 ≤ _ from Nat.add_le_add_left (by omega : 65 ≤ 16 * j + 200) _) hr.un
    obtain ⟨tr2, hps2, last2⟩ : ∃ tr, PSs (cxOf CX0 P w K mg base NR "_law_right" (defScope sRight) f cdv A os st H E).nox ((defBody sRight).drop 4) tr ∧ ∀ (rows : List Str) (D1 : Addr) (v3 x2 : V) (r0 r2 : Int) (H5 : Hp), rows ≠ [] → rows.length ≤ 5 → (∀ r ∈ rows, r ∈ rowsL) → H5 D1 = some (.lst (rows.map V.str)) → Dp K H5 v3 (heardD (readM rows)) → Fr a H H5 → Pot a r0 p1 r2 H5 → r2 ≤ p2 + 6 →
        tr { nx := fun _ H' => Q .non H', rt := Q } [some (.ref a), some (.ref D1), some x2, some v3, none, none, none] H5 := by
      refine ⟨_, pss_cons (ps_if (pt_cmpR op_ne (pe_callB (call_repr hG hu) (by rfl) T.repr (by decide +kernel) (pa_cons (by exact pe_call G4 hr rfl m4 k4 b4 .nil pass0 (pa_cons (pe_join pe_str (pv 1)) pa_nil)) pa_nil)) (pe_callB (call_repr hG hu) (by rfl) T.repr (by decide +kernel) (pa_cons (pv 3) pa_nil)) (nomark _)) (pss_one (ps_ret pe_bl)) pss_nil)
      (pss_cons (ps_set (i := 4) scRight.nd rfl (Or.inl rfl) (by exact pe_call G1 hr2 rfl m1 k1 b1 .nil pass0 (pa_cons (pv 0) (pa_cons (pe_lst (pa_cons pe_non (pa_cons (pv 1) (pa_cons (pe_callTy call_tuple_of (by rfl) T.tuple (by decide +kernel) (pa_cons (pv 1) pa_nil)) (pa_cons pe_int (pa_cons pe_bl (pa_cons pe_dnewK (pa_cons (pe_tup (pa_cons pe_str pa_nil)) (pa_cons (pe_op op_pow pe_int pe_int) pa_nil))))))))) pa_nil))))
      (pss_one (ps_ret (pe_cmpR op_eq (pe_callB (call_repr hG hu) (by rfl) T.repr (by decide +kernel) (pa_cons (by exact pe_call G4 hr rfl m4 k4 b4 .nil pass0 (pa_cons (pv 4) pa_nil)) pa_nil)) (pe_callB (call_repr hG hu) (by rfl) T.repr (by decide +kernel) (pa_cons (pe_tup (pa_cons pe_str (pa_cons pe_int pa_nil))) pa_nil)) (nomark _))))), ?_⟩
      intro rows D1 v3 x2 r0 r2 H5 hl1 hl5 hmem hrows d3 fr5 hp5 hr2'
      have hb : (rows.map (fun x => x.length)).sum + rows.length * ("\n" : Str).length ≤ 16777216 := by
        have e1 : ("\n" : Str).length = 1 := by decide +kernel
        have key : ∀ l : List Str, (∀ r ∈ l, r ∈ rowsL) → (l.map (fun x => x.length)).sum ≤ 100 * l.length := by
          intro l
          induction l with
          | nil => intro _; exact Nat.le_refl _
          | cons r l ih =>
            intro h
            have z1 := ih fun x hx => h x (List.mem_cons_of_mem _ hx)
            have z2 := (row_ok (h r List.mem_cons_self)).1.len
            rw [List.map_cons, List.sum_cons, List.length_cons]
            omega
        have z := key rows hmem
        rw [e1]
        omega
      have sw := showy_read hmem hl5
      refine ⟨⟨_, rfl⟩, _, rfl, "\n", D1, rows, rfl, rfl, .inl (SqL.of hrows), hb, ?_⟩
      refine ⟨_, readM rows, rfl, .rows rows hl1 hl5 hmem, fun y H6 s6 dy => ?_⟩
      obtain ⟨ay, rfl⟩ := heard_ref dy
      obtain ⟨a3, rfl⟩ := heard_ref d3
      refine ⟨ay, _, rfl, dy, sw.sh, sw.nd, sw.dp, sw.ln, ?_⟩
      refine ⟨_, rfl, a3, _, rfl, dp_same s6 _ _ d3, sw.sh, sw.nd, sw.dp, sw.ln, rfl, _, rfl, ?_⟩
      rw [decide_eq_true rfl]
      refine iteF ?_
      have hrows6 := s6 _ _ hrows
      refine ⟨_, rfl, _, rfl, _, rfl, D1, _, rfl, .inl ⟨SqL.of hrows6, fun t1 ht1 => ?_⟩⟩
      have s7 := Same.new (o := .tup (rows.map V.str)) ht1
      have e7 : (upd H6 t1 (.tup (rows.map V.str))) t1 = some (.tup (rows.map V.str)) := upd_same
      refine fun dd hdd => ?_
      have s8 := Same.new (o := .dK []) hdd
      refine ⟨(by show 1 ≤ sizeLine; decide), fun t2 ht2 => ?_⟩
      have s9 := Same.new (o := .tup [V.str "over"]) ht2
      refine ⟨_, _, rfl, rfl, ⟨by decide, by decide, by decide⟩, (by show 8 ≤ sizeLine; decide), fun l hl => ?_⟩
      have s10 := Same.new (o := .lst [V.non, V.ref D1, V.ref t1, V.int 0, V.bl true, V.ref dd, V.ref t2, V.int (10 ^ (15 : Int).toNat)]) hl
      have sA := s6.trans (s7.trans (s8.trans (s9.trans s10)))
      have hpA := hp5.same sA
      refine ⟨a, l, r0, p1, r2, _, rfl, hpA, by omega, upd_same, (hp5.same (s6.trans (s7.trans (s8.trans s9)))).ne hl, (by show 0 < 8; decide), (by show 8 ≤ 100; decide), fun x u0 u2 HB hx hu2 frB hpB => ?_⟩
      have toB : ∀ {b : Addr} {o : HO}, b ≠ a → (upd (upd (upd (upd H6 t1 (.tup (rows.map V.str))) dd (.dK [])) t2 (.tup [V.str "over"])) l (.lst [V.non, V.ref D1, V.ref t1, V.int 0, V.bl true, V.ref dd, V.ref t2, V.int (10 ^ (15 : Int).toNat)])) b = some o → HB b = some o := fun hb e => frB _ _ hb e
      have ta : ∀ {b : Addr} {o : HO}, (∀ xs, o ≠ .lst xs) → HB a = some (.lst [.int u0, .int p1, .int u2]) → (upd (upd (upd (upd H6 t1 (.tup (rows.map V.str))) dd (.dK [])) t2 (.tup [V.str "over"])) l (.lst [V.non, V.ref D1, V.ref t1, V.int 0, V.bl true, V.ref dd, V.ref t2, V.int (10 ^ (15 : Int).toNat)])) b = some o → b ≠ a := fun hn _ e z => by
        rw [z, hpA.1] at e
        exact hn _ (Option.some.inj e).symm
      have inv : InV K HB x (.error 0) := by
        simp only [List.mem_cons, List.not_mem_nil, or_false] at hx
        rcases hx with rfl | rfl | rfl | rfl | rfl | rfl | rfl | rfl
        · exact .non
        · have hne : D1 ≠ a := fun z => by
            rw [z, hp5.1] at hrows
            injection hrows with hrows
            injection hrows with hrows
            cases rows with
            | nil => cases hrows
            | cons r l => cases hrows
          exact .lst (toB hne ((s7.trans (s8.trans (s9.trans s10))) _ _ hrows6))
        · have e := (s8.trans (s9.trans s10)) _ _ e7
          exact .tup (toB (ta (fun _ z => by cases z) hpB.1 e) e)
        · exact .int _
        · exact .bl _
        · have e := (s9.trans s10) dd (.dK []) upd_same
          exact .dct (toB (ta (fun _ z => by cases z) hpB.1 e) e)
        · have e := s10 t2 (.tup [V.str "over"]) upd_same
          exact .tup (toB (ta (fun _ z => by cases z) hpB.1 e) e)
        · exact .int _
      refine ⟨_, rfl, x, .error 0, rfl, inv, fun y HC sC dy => ?_⟩
      obtain ⟨ay2, rfl⟩ := heard_ref dy
      have sb := showy_bad (i := 0) (by decide) (by decide)
      refine ⟨ay2, _, rfl, dy, sb.sh, sb.nd, sb.dp, sb.ln, ?_⟩
      refine ⟨(by show 2 ≤ sizeLine; decide), fun t3 ht3 => ?_⟩
      have s11 := Same.new (o := .tup [V.str "bad", V.int 0]) ht3
      refine ⟨t3, _, rfl, (.tup (SqT.of upd_same) (.cons (.str _) (.cons (.int _) .nil)) : Dp K _ _ (heardD (.error 0))), sb.sh, sb.nd, sb.dp, sb.ln, rfl, ?_⟩
      show Q (V.bl (decide (V.str (heardD (.error 0)).shown = V.str (heardD (.error 0)).shown))) _
      rw [decide_eq_true rfl]
      exact q u0 u2 _ (by omega) ((fr5.same sA |>.trans frB).same (sC.trans s11)) (hpB.same (sC.trans s11))
    obtain ⟨tr1, hps1, last1⟩ : ∃ tr, PSs (cxOf CX0 P w K mg base NR "_law_right" (defScope sRight) f cdv A os st H E).nox ((defBody sRight).drop 3) tr ∧ ∀ (rows : List Str) (D1 : Addr) (v3 x2 : V) (r0 r2 : Int) (H4 : Hp), rows ≠ [] → rows.length ≤ 5 → (∀ r ∈ rows, r ∈ rowsL) → H4 D1 = some (.lst (rows.map V.str)) → Dp K H4 v3 (heardD (readN rows)) → Fr a H H4 → Pot a r0 p1 r2 H4 → r2 ≤ p2 + 6 →
        tr { nx := fun _ H' => Q .non H', rt := Q } [some (.ref a), some (.ref D1), some x2, some v3, none, none, none] H4 := by
      refine ⟨_, pss_cons (ps_set (i := 3) scRight.nd rfl (Or.inl rfl) (pe_ifExp (pt_cmpR (op_eqD hu) (pv 1) (pe_lst (pa_cons pe_str pa_nil)) (nomark _)) (pe_tup (pa_cons pe_str (pa_cons (pe_tup pa_nil) pa_nil))) (pv 3))) hps2, ?_⟩
      intro rows D1 v3 x2 r0 r2 H4 hl1 hl5 hmem hrows d3 fr4 hp4 hr2'
      refine ⟨_, rfl, (by show 1 ≤ sizeLine; decide), fun l hl => ?_⟩
      have s1 := Same.new (o := .lst [V.str ""]) hl
      refine ⟨_, _, dp_strs (l := rows) (SqL.of (s1 _ _ hrows)), dp_strs (l := [""]) (SqL.of upd_same), shaped_strs _ (fun y hy => (row_ok (hmem y hy)).2), shaped_strs _ (fun y hy => by rw [List.mem_singleton.mp hy]; decide +kernel), _, rfl, ?_⟩
      rw [eqv_strs]
      refine ite2 (fun c => ?_) (fun c => ?_)
      · have e : rows = ([""] : List Str) := by simpa using c
        refine ⟨(by show 0 ≤ sizeLine; decide), fun t1 ht1 => ?_⟩
        have s2 := s1.trans (Same.new (o := .tup []) ht1)
        refine ⟨(by show 2 ≤ sizeLine; decide), fun q hq => ?_⟩
        have s3 := s2.trans (Same.new (o := .tup [V.str "told", V.ref t1]) hq)
        refine last2 rows D1 _ _ r0 r2 _ hl1 hl5 hmem (s3 _ _ hrows) ?_ (fr4.same s3) (hp4.same s3) hr2'
        have e2 : readM rows = .ok [] := by
          unfold readM
          rw [if_pos e]
        rw [e2]
        exact .tup (SqT.of upd_same) (.cons (.str _) (.cons (.tup (SqT.of (Same.new hq _ _ upd_same)) .nil) .nil))
      · have e : ¬ rows = ([""] : List Str) := fun z => c (by rw [z]; exact beq_self_eq_true _)
        refine ⟨_, rfl, ?_⟩
        refine last2 rows D1 _ _ r0 r2 _ hl1 hl5 hmem (s1 _ _ hrows) ?_ (fr4.same s1) (hp4.same s1) hr2'
        have e2 : readM rows = readN rows := by
          unfold readM readN
          rw [if_neg e]
          all_goals (cases rows.findIdx? (fun r => isNo (movM r)) <;> rfl)
        rw [e2]
        exact dp_same s1 _ _ d3
    refine ⟨_, pss_cons (ps_setLc (i := 1) (own := [("_law_turn", 5)]) (g := gName 5) (tt := tYes) (by rfl) scRight.nd rfl rfl (sw_true rfl rfl rfl (by decide +kernel)) (pi_range1 rfl T.range (pa_cons (by exact pe_call G1 hr2 rfl m1 k1 b1 .nil pass0 (pa_cons (pv 0) (pa_cons (pe_lst (pa_cons pe_int (pa_cons pe_int (pa_cons pe_int (pa_cons pe_int (pa_cons pe_int pa_nil)))))) pa_nil))) pa_nil)) (blkOk_by (own := [("_law_turn", 5)]) (N := NR) (sc := defScope sRight) (by decide +kernel)) (fun _ _ _ _ _ => pg_name (i := 5) scRight.nd rfl (Or.inl rfl)) (fun _ _ _ _ _ => pts_nil)
          (fun _ _ _ _ _ => by exact pe_call G2 hr3 rfl m2 k2 b2 .nil pass0 (pa_cons (pv 0) pa_nil)))
      (pss_cons (ps_setLc (i := 2) (own := [("_law_row_here", 6)]) (g := gName 6) (tt := tYes) (by rfl) scRight.nd rfl rfl (sw_true rfl rfl rfl (by decide +kernel)) (pi_list (pv 1)) (blkOk_by (own := [("_law_row_here", 6)]) (N := NR) (sc := defScope sRight) (by decide +kernel)) (fun _ _ _ _ _ => pg_name (i := 6) scRight.nd rfl (Or.inl rfl)) (fun _ _ _ _ _ => pts_nil)
          (fun _ _ _ _ _ => by exact pe_call G3 hr2 rfl m3 k3 b3 .nil pass0 (pa_cons (pv 6) pa_nil)))
      (pss_cons (ps_set (i := 3) scRight.nd rfl (Or.inl rfl) (pe_ifExp (pt_cmpR (op_inD hu65) pe_non (pv 2) rfl) (pe_tup (pa_cons pe_str (pa_cons (pe_op op_add (pe_bm PySem.F.plainAttrs_list PySem.F.slot_list_index PySem.F.type_list_index (mt_indexD hu65) (pv 2) (pa_cons pe_non pa_nil)) pe_int) pa_nil))) (pe_tup (pa_cons pe_str (pa_cons (pe_callTy call_tuple_of (by rfl) T.tuple (by decide +kernel) (pa_cons (pv 2) pa_nil)) pa_nil)))))
      hps1)), ?_⟩
    refine ⟨_, rfl, (by show 5 ≤ sizeLine; decide), fun l0 hl0 => ?_⟩
    have s0 := Same.new (o := .lst [V.int 1, V.int 1, V.int 2, V.int 3, V.int 5]) hl0
    refine ⟨a, l0, p0, p1, p2, _, rfl, hp.same s0, by omega, upd_same, hp.ne hl0, by decide, by decide, fun x q0 q2 H1 hx hq f1' hp1 => ?_⟩
    obtain ⟨n, rfl, n1, n5⟩ : ∃ n : Nat, x = .int (n : Int) ∧ 1 ≤ n ∧ n ≤ 5 := by
      simp only [List.mem_cons, List.not_mem_nil, or_false] at hx
      rcases hx with rfl | rfl | rfl | rfl | rfl
      · exact ⟨1, rfl, by decide, by decide⟩
      · exact ⟨1, rfl, by decide, by decide⟩
      · exact ⟨2, rfl, by decide, by decide⟩
      · exact ⟨3, rfl, by decide, by decide⟩
      · exact ⟨5, rfl, by decide, by decide⟩
    have fr1 : Fr a H H1 := fun b o hb e => f1' b o hb (s0 b o e)
    refine ⟨(n : Int), rfl, by omega, by omega, fun D1 hD1 => ?_⟩
    have hD1a : D1 ≠ a := hp1.ne hD1
    refine lc_range (lo := 0) (n := _) (fun i H' => ∃ r0 r2 acc, Fr a H1 H' ∧ Pot a r0 p1 r2 H' ∧ r2 ≤ q2 + i ∧ H' D1 = some (.lst (acc.map V.str)) ∧ acc.length = i ∧ ∀ x ∈ acc, x ∈ rowsL)
      ⟨q0, q2, [], fun b o hb e => by rw [upd_ne (ne_of_none e hD1)]; exact e, ⟨by rw [upd_ne hD1a.symm]; exact hp1.1, hp1.2⟩, by omega, upd_same, rfl, fun x hx => by cases hx⟩ ?_ ?_
    · rintro i H2 hi ⟨r0, r2, acc, fr2, hpo, hr2', hacc, hal, hmem⟩
      refine ⟨rfl, ?_⟩
      refine ⟨_, rfl, a, r0, p1, r2, rfl, hpo, by omega, fun x t0 t2 H3 hx ht fr3 hp3 => ?_⟩
      have hacc3 : H3 D1 = some (.lst (acc.map V.str)) := fr3 D1 _ hD1a hacc
      refine ⟨_, hacc3, (by rw [List.length_map, hal, sizeLine_eq]; omega), t0, t2, acc ++ [x], fun b o hb e => ?_, ⟨by rw [upd_ne hD1a.symm]; exact hp3.1, hp3.2⟩, by omega, ?_, by rw [List.length_append, hal]; rfl, fun y hy => ?_⟩
      · rw [upd_ne (ne_of_none e hD1)]
        exact fr3 b o hb (fr2 b o hb e)
      · rw [upd_same, List.map_append]
        rfl
      · rcases List.mem_append.mp hy with hy | hy
        · exact hmem y hy
        · rw [List.mem_singleton.mp hy]
          exact hx
    rintro H2 ⟨r0, r2, rows, fr2, hp2, hr2', hrows, hlen, hmem⟩
    have hl5 : rows.length ≤ 5 := by omega
    have hl1 : rows ≠ [] := fun z => by
      rw [z] at hlen
      simp only [List.length_nil] at hlen
      omega
    have fr2 : Fr a H H2 := fr1.trans fr2
    refine ⟨_, rfl, D1, rfl, ⟨_, SqL.of hrows⟩, fun D2 hD2 => ?_⟩
    refine lc_list (K := K) (a := D1) (xs := rows.map V.str) (fun i H' => Same H2 H' ∧ ∃ acc, H' D2 = some (.lst acc) ∧ DpAll K H' acc ((rows.take i).map movM)) ⟨Same.new hD2, [], upd_same, .nil⟩ (fun i H' _ h => SqL.of (h.1 _ _ hrows)) ?_ ?_
    · rintro i x H3 hx ⟨s3, acc, hacc, hdp⟩
      obtain ⟨r, hr', rfl⟩ : ∃ r, rows[i]? = some r ∧ x = .str r := by
        rw [List.getElem?_map] at hx
        cases e : rows[i]? with
        | none => rw [e] at hx; cases hx
        | some r => rw [e] at hx; exact ⟨r, rfl, (Option.some.inj hx).symm⟩
      have hrm := hmem r (List.mem_of_getElem? hr')
      refine ⟨rfl, ?_⟩
      refine ⟨_, rfl, r, rfl, (row_ok hrm).1, fun v H4 s4 dv => ?_⟩
      have hal : acc.length ≤ 5 := by
        rw [dps_len hdp, List.length_map, List.length_take]
        omega
      have nl : ∀ d ∈ (rows.take i).map movM, noLB d = true := fun d hd => by
        obtain ⟨y, hy, rfl⟩ := List.mem_map.mp hd
        exact (mov_ok (hmem y (List.mem_of_mem_take hy))).nl
      refine ⟨_, s4 _ _ hacc, (by rw [sizeLine_eq]; omega), fun b o e => ?_, acc ++ [v], upd_same, ?_⟩
      · rw [upd_ne (ne_of_none e hD2)]
        exact s4 _ _ (s3 _ _ e)
      · rw [List.take_add_one, hr', List.map_append]
        exact dps_app (noLs_upd (s4 _ _ hacc) nl (dps_same s4 _ _ hdp)) (.cons (noL_upd (s4 _ _ hacc) (mov_ok hrm).nl dv) .nil)
    rintro H3 ⟨s3, acc, hacc, hdp⟩
    rw [List.length_map, List.take_length] at hdp
    have mok : ∀ d ∈ rows.map movM, MovOk d := fun d hd => by
      obtain ⟨y, hy, rfl⟩ := List.mem_map.mp hd
      exact mov_ok (hmem y hy)
    have hp3 := hp2.same s3
    have hrows3 := s3 _ _ hrows
    have dl : ∀ {H' : Hp}, Same H3 H' → Dp K H' (.ref D2) (.list (rows.map movM)) := fun s => .lst (SqL.of (s _ _ hacc)) (dps_same s _ _ hdp)
    refine ⟨_, rfl, .none, rows.map movM, .non, dl (Same.refl H3), rfl, shaped_list mok, _, rfl, ?_⟩
    have any_of : (((rows.map movM).any fun z => PyData.eqv z .none) = true) ↔ ∃ k, rows.findIdx? (fun r => isNo (movM r)) = some k := by
      rw [List.any_map]
      have e : ((fun z => PyData.eqv z .none) ∘ movM) = fun r => isNo (movM r) := by
        funext r
        show PyData.eqv (movM r) .none = isNo (movM r)
        cases movM r <;> rfl
      rw [e]
      constructor
      · intro z
        obtain ⟨r, hr', hn⟩ := List.any_eq_true.mp z
        cases h : rows.findIdx? (fun r => isNo (movM r)) with
        | some k => exact ⟨k, rfl⟩
        | none =>
          have z2 := (List.findIdx?_eq_none_iff.mp h) r hr'
          rw [hn] at z2
          cases z2
      · rintro ⟨k, hk⟩
        obtain ⟨h1, h2, _⟩ := List.findIdx?_eq_some_iff_getElem.mp hk
        exact List.any_eq_true.mpr ⟨_, List.getElem_mem h1, h2⟩
    have fr3 := fr2.same s3
    refine ite2 (fun c => ?_) (fun c => ?_)
    · obtain ⟨k, hk⟩ := any_of.mp c
      obtain ⟨g1, g2, g3⟩ := List.findIdx?_eq_some_iff_getElem.mp hk
      have no_eq : ∀ d : PyData, PyData.eqv d .none = isNo d := fun d => by cases d <;> rfl
      refine ⟨_, rfl, .inl ⟨rfl, _, SqL.of hacc⟩, D2, .non, .none, rows.map movM, k, movM rows[k], rfl, rfl, dl (Same.refl H3), .non, shaped_list mok, rfl, ?_, by rw [no_eq]; exact g2, fun m z' hm hz => ?_, ?_⟩
      · rw [List.getElem?_map, List.getElem?_eq_getElem g1]
        rfl
      · rw [no_eq]
        rw [List.getElem?_map] at hz
        cases e : rows[m]? with
        | none => rw [e] at hz; cases hz
        | some y =>
          rw [e] at hz
          obtain rfl := Option.some.inj hz
          obtain ⟨hm1, hm2⟩ := List.getElem?_eq_some_iff.mp e
          have z := g3 m hm
          rw [hm2] at z
          exact Bool.eq_false_iff.mpr z
      · refine ⟨_, _, rfl, rfl, (by show 2 ≤ sizeLine; decide), fun q hq => ?_⟩
        refine last1 rows D1 _ _ r0 r2 _ hl1 hl5 hmem (Same.new hq _ _ hrows3) ?_ (fr3.same (Same.new hq)) (hp3.same (Same.new hq)) (by omega)
        have e : readN rows = .error ((k : Int) + 1) := by
          unfold readN
          rw [hk]
        rw [e]
        exact .tup (SqT.of upd_same) (.cons (.str _) (.cons (.int _) .nil))
    · have hk : rows.findIdx? (fun r => isNo (movM r)) = none := by
        cases h : rows.findIdx? (fun r => isNo (movM r)) with
        | none => rfl
        | some k => exact absurd (any_of.mpr ⟨k, h⟩) c
      refine ⟨_, rfl, D2, _, rfl, .inl ⟨SqL.of hacc, fun t1 ht1 => ?_⟩⟩
      have st1 := Same.new (o := .tup acc) ht1
      refine ⟨(by show 2 ≤ sizeLine; decide), fun q hq => ?_⟩
      have st2 := st1.trans (Same.new (o := .tup [V.str "told", V.ref t1]) hq)
      refine last1 rows D1 _ _ r0 r2 _ hl1 hl5 hmem (st2 _ _ hrows3) ?_ (fr3.same st2) (hp3.same st2) (by omega)
      have e : readN rows = .ok (rows.map movM) := by
        unfold readN
        rw [hk]
      rw [e]
      exact .tup (SqT.of upd_same) (.cons (.str _) (.cons (.tup (SqT.of (Same.new hq _ _ upd_same)) (dps_same st2 _ _ hdp)) .nil))
end
end K6

/-! text Q9 -/
set_option Elab.async false
set_option linter.all false
set_option maxRecDepth 100000
set_option maxHeartbeats 1000000
namespace K6
open PySem PySem.Spec PyProof.Rows L2
abbrev sLaw : Stmt := top 23
abbrev NL : List Str := ["_law_script", "_law_k", "_law_pot_here", "_law_turn"]
structure LwN (mg : Str → Option Value) : Prop where
  len : mg "len" = none
  max : mg "max" = none
  min : mg "min" = none
  range : mg "range" = none
  all : mg "all" = none
section
variable {P : Program} {w : World} {K : PySem.W.Frag} {mg : Str → Option Value} {base : Heap}
theorem scLaw : FnScope NL ["_law_script"] (defScope sLaw) := ⟨rfl, rfl, rfl, by decide +kernel, rfl, by decide +kernel, by decide +kernel⟩
def spLaw (K : PySem.W.Frag) : Sp := fun vs H Q _ => ∃ (a : Addr) (ns : List Int), vs = [.ref a] ∧ SqL K H a (ns.map V.int) ∧ ns.length ≤ 63 ∧ ∀ H', Q (.bl true) H'
def FnGAt (P : Program) (w : World) (K : PySem.W.Frag) (mg : Str → Option Value) (base : Heap) (k : Nat) (x : Str) (ps : List Str) (sp : Sp) : Prop := ∃ f fd, mg x = some (.ref f) ∧ PySem.W.keepIn K (.ref f) = true ∧ Binds K fd ps [] ∧ FnG P w K mg base CX0 k f fd ps sp
theorem ok_law {j : Nat} {f : Addr} {fd : FuncData} (F : Fun K "law" "law" sLaw f fd) (T : LwN mg) (hj : 1 ≤ j) (RP : FnAt P w K mg base CX0 1 "_law_pot" ["_law_script", "_law_k"] (spPot K)) (RR : FnGAt P w K mg base j "_law_right" ["_law_pot_here"] spRight) : FnG P w K mg base CX0 (j + 1) f fd ["_law_script"] (spLaw K) := by
  refine okG F scLaw (fun h => ?_) (fun {cdv A os st H vs Q E} hG hr h => ?_)
  · obtain ⟨a, ns, rfl, _⟩ := h
    rfl
  · obtain ⟨a, ns, rfl, ha, hn, q⟩ := h
    obtain ⟨f1, d1, m1, k1, b1, G1⟩ := RP
    obtain ⟨f2, d2, m2, k2, b2, G2⟩ := RR
    have hr1 : Room 1 _ := hr.mono hj
    refine ⟨_, pss_cons (ps_for PassesOwn.never rfl (pi_range1 rfl T.range (pa_cons (pe_callB (call_max2 rfl) (by rfl) T.max (by decide +kernel) (pa_cons pe_int (pa_cons (pe_callB (call_min2 rfl) (by rfl) T.min (by decide +kernel) (pa_cons pe_int (pa_cons (pe_callB call_len_seq (by rfl) T.len PySem.boot_len (pa_cons (pv 0) pa_nil)) pa_nil))) pa_nil))) pa_nil)) (pg_name (i := 1) scLaw.nd rfl (Or.inl rfl))
        (pss_cons (ps_set (i := 2) scLaw.nd rfl (Or.inr rfl) (pe_call G1 hr1 rfl m1 k1 b1 .nil pass0 (pa_cons (pv 0) (pa_cons (pv 1) pa_nil))))
        (pss_one (ps_if (pt_not (pt_val (pe_callB (cr_all rfl) (by rfl) T.all (by decide +kernel) (pa_cons (pe_lc (own := [("_law_turn", 3)]) (g := gName 3) (tt := tYes) rfl scLaw.nd (pi_range1 rfl T.range (pa_cons pe_int pa_nil)) (blkOk_by (own := [("_law_turn", 3)]) (N := NL) (sc := defScope sLaw) (by decide +kernel)) (fun _ _ _ _ _ => pg_name (i := 3) scLaw.nd rfl (Or.inl rfl)) (fun _ _ _ _ _ => pts_nil)
            (fun _ _ _ _ _ => by exact pe_callG hG G2 hr rfl m2 k2 b2 .nil pass0 (pa_cons (pv 2) pa_nil))) pa_nil)))) (pss_one (ps_ret pe_bl)) pss_nil))))
      (pss_one (ps_ret pe_bl)), ?_⟩
    refine ⟨_, rfl, a, _, rfl, .inl ha, _, _, rfl, _, _, rfl, ?_⟩
    have bnd : ∀ z : Int, -2 ^ 62 ≤ (if (if z < 3 then z else 3) > 1 then (if z < 3 then z else 3) else 1) ∧ (if (if z < 3 then z else 3) > 1 then (if z < 3 then z else 3) else 1) ≤ 3 := fun z => by
      constructor <;> split <;> split <;> omega
    refine ⟨_, rfl, ?_, ?_, ?_⟩
    · exact (bnd _).1
    · exact Int.lt_of_le_of_lt (bnd _).2 (by decide)
    have b3 := (bnd ((ns.map V.int).length : Int)).2
    refine for_range (lo := 0) (n := _) (fun i σ H' => (∃ x y, σ = [some (.ref a), x, y, none]) ∧ Same H H') ⟨⟨_, _, rfl⟩, Same.refl H⟩ ?_ ?_
    · rintro i σ H' hi ⟨⟨x, y, rfl⟩, s1⟩
      have hi2 : i ≤ 2 := by
        have z : (i : Int) < _ := Int.lt_toNat.mp hi
        omega
      refine ⟨_, rfl, _, rfl, a, i, ns, ?_, s1.seq ha, hi2, fun p p0 p1 H2 hp s2 hpot => ?_⟩
      · rw [Int.zero_add]
        rfl
      refine ⟨20, rfl, by decide, by decide, fun D hD => ?_⟩
      have hDp : D ≠ p := hpot.ne hD
      refine lc_range (lo := 0) (n := _) (fun i H3 => ∃ r0 r2, Fr p H2 H3 ∧ Pot p r0 p1 r2 H3 ∧ r2 ≤ 7 * i ∧ H3 D = some (.lst ((List.replicate i true).map V.bl))) ⟨p0, 0, fun b o hb e => by rw [upd_ne (ne_of_none e hD)]; exact e, ⟨by rw [upd_ne hDp.symm]; exact hpot.1, hpot.2⟩, by omega, upd_same⟩ ?_ ?_
      · rintro i H3 hi3 ⟨r0, r2, fr3, hp3, hr2', hacc⟩
        have hi4 : i < 20 := hi3
        refine ⟨rfl, ?_⟩
        refine ⟨_, rfl, p, r0, p1, r2, rfl, hp3, by omega, fun t0 t2 H4 ht2 fr4 hp4 => ?_⟩
        refine ⟨_, fr4 D _ hDp hacc, (by rw [List.length_map, List.length_replicate, sizeLine_eq]; omega), t0, t2, fun b o hb e => ?_, ⟨by rw [upd_ne hDp.symm]; exact hp4.1, hp4.2⟩, by omega, ?_⟩
        · rw [upd_ne (ne_of_none e hD)]
          exact fr4 b o hb (fr3 b o hb e)
        · rw [upd_same, List.replicate_succ', List.map_append]
          rfl
      rintro H3 ⟨r0, r2, fr3, hp3, _, hacc⟩
      refine ⟨D, List.replicate 20 true, rfl, SqL.of hacc, ?_⟩
      refine ⟨true, rfl, ?_⟩
      exact ⟨⟨_, _, rfl⟩, fun b o e => fr3 b o (ne_of_none (s1 b o e) hp) (s2 b o (s1 b o e))⟩
    · rintro σ H' _
      exact q H'
end
end K6

/-! text Q10 -/
set_option Elab.async false
set_option linter.all false
set_option maxRecDepth 100000
set_option maxHeartbeats 4000000
namespace K6
open PySem PySem.Spec PyProof.Rows L2
/-! ### what the top has written -/
structure FA (K : PySem.W.Frag) (x : Str) (st : Stmt) : Prop where
  ex : ∃ (f : Addr) (fd : FuncData), PySem.W.nsIn K mainGlobals x = some (some (.ref f)) ∧ Fun K x x st f fd
theorem fa_mk {K : PySem.W.Frag} {x : Str} {st : Stmt} {f : Addr} {oc : Value} {od an : Option Addr} {osl : Array (Option Value)} {kV doc pm cdv ct : Value} (a : PySem.W.nsIn K mainGlobals x = some (some (.ref f))) (l : K.lookup f = some ⟨oc, od, .func (PySem.W.fnOf x x (defArgs st) (defBody st) (defScope st) .none kV doc pm an cdv ct), osl⟩)
    (c : PySem.W.codeIn K cdv x = true) (k : PySem.W.keepIn K (.ref f) = true) : FA K x st := ⟨⟨f, _, a, fun_mk l c k⟩⟩
theorem exm_two {K : PySem.W.Frag} {S R : Addr} (h1 : PySem.W.subIn K (.ref R) (.type "BaseException") = some true) (h2 : PySem.W.isClsIn K R = true) (h3 : PySem.W.typeIn K (.ref R) = some (.type "type")) (h4 : PySem.W.subIn K (.ref S) (.ref R) = some true) :
    PySem.W.exmOne K (.ref S) (.ref R) = some true := by
  have e1 : (PySem.W.subIn K (.ref R) (.type "BaseException") == some true) = true := by rw [h1] <;> rfl
  have e2 : ((PySem.W.clsIn K R).isSome && PySem.W.typeIn K (.ref R) == some (.type "type")) = true := by
    have h2' : (PySem.W.clsIn K R).isSome = true := h2
    rw [h2', h3] <;> rfl
  show (if (PySem.W.subIn K (.ref R) (.type "BaseException") == some true) = true then (if ((PySem.W.clsIn K R).isSome && PySem.W.typeIn K (.ref R) == some (.type "type")) = true then PySem.W.subIn K (.ref S) (.ref R) else none) else none) = some true
  rw [if_pos e1, if_pos e2]
  exact h4
theorem kit_self {K : PySem.W.Frag} {S : Addr} : PySem.W.kitOne K (.ref S) (.ref S) = some true := by
  unfold PySem.W.kitOne
  rw [if_pos (beq_iff_eq.mpr rfl)]
theorem low_mk {K : PySem.W.Frag} {CB CL f1 : Addr} {nm q : Str} {N : Addr} {bs : List Value} {sn : List Str} {sub : List Value} {ab : Bool} {col : Option Bool} {dd : Option Addr} {m0 m1 m2 m3 m5 : Option Value} {od1 an1 : Option Addr} {sl1 : Array (Option Value)} {oc1 dc1 pm1 cd1 ct1 : Value} {p1 p2 q1 q2 q3 q4 : Pos}
    (aC : PySem.W.nsIn K mainGlobals "BadText" = some (some (.ref CB)))
    (xL : K.lookup CB = some (excClassObj nm q CB N bs [.ref CL, .type "ValueError", .type "Exception", .type "BaseException", .type "object"] true sn sub ab col dd m0 m1 m2 m3 m5 "ValueError.__new__"))
    (sa : PySem.W.findIn K (.ref CB) "__setattr__" = some (some (.builtin "object.__setattr__"))) (ga : PySem.W.findIn K (.ref CB) "__getattribute__" = some (some (.builtin "BaseException.__getattribute__"))) (gg : PySem.W.findIn K (.ref CB) "__getattr__" = some none) (nb : PySem.W.findIn K (.ref CB) "line" = some none)
    (a1 : PySem.W.findIn K (.ref CB) "__init__" = some (some (.ref f1))) (t1 : PySem.W.typeIn K (.ref f1) = some (.type "function"))
    (l1 : K.lookup f1 = some ⟨oc1, od1, .func (PySem.W.fnOf "__init__" "BadText.__init__" (PySem.LowX.iA p1 p2) (PySem.LowX.iB q1 q2 q3 q4) PySem.LowX.iS .none .none dc1 pm1 an1 cd1 ct1), sl1⟩) (c1 : PySem.W.codeIn K cd1 "BadText.__init__" = true)
    (kC : PySem.W.keepIn K (.ref CB) = true) (eC : PySem.W.subIn K (.ref CB) (.type "BaseException") = some true) (tC : PySem.W.typeIn K (.ref CB) = some (.type "type")) (hC : PySem.W.hasDictIn K CB = true) (iC : PySem.W.isClsIn K CB = true) (sC : PySem.W.subIn K (.ref CB) (.ref CB) = some true) :
    ∀ {h : Heap} {mg : Str → Option Value}, K.In h → h.Ns mainGlobals mg → ∃ fB, PySem.LowX.LowTxt K mg CB fB := fun X G =>
  ⟨f1, { gC := PySem.W.mg_of X G aC, cls := ⟨nm, q, N, bs, _, sn, sub, ab, col, dd, m0, m1, m2, m3, m5, xL, rfl⟩, sa := sa, ga := ga, gg := gg, noN := nb, iC := a1, tC := t1, kC := kC, exC := eC, tyC := tC, hdC := hC, te := exm_two eC iC tC sC, fn := ⟨_, _, _, _, _, _, _, _, _, _, _, _, _, _, l1, c1⟩ }⟩
theorem isD2_mk {K : PySem.W.Frag} {C : Addr} {gt : Option Value} (c1 : PySem.W.isClsIn K C = true) (c2 : PySem.W.findIn K (.ref C) "__getattribute__" = some (some (.builtin "BaseException.__getattribute__"))) (c3 : PySem.W.findIn K (.ref C) "__getattr__" = some gt) (c4 : PySem.W.subIn K (.ref C) (.type "BaseException") = some true)
    (c5 : PySem.W.findIn K (.ref C) "__class__" = some (some (.builtin "object.__class__"))) (c6 : PySem.W.specialIn K (.builtin "object.__class__") "__get__" = some (some (.builtin "getset_descriptor.__get__"))) (c7 : PySem.W.takesIn K (.builtin "object.__class__") = some true) (c8 : PySem.W.mroIn K C (.type "object") = some true) : IsD2 K C := ⟨c1, c2, ⟨_, c3⟩, c4, c5, c6, c7, c8⟩
theorem xf_mk {K : PySem.W.Frag} {C : Addr} (c1 : PySem.W.findIn K (.ref C) "__getattribute__" = some (some (.builtin "BaseException.__getattribute__"))) (c2 : PySem.W.findIn K (.ref C) "__getattr__" = some none) (c3 : PySem.W.subIn K (.ref C) (.type "BaseException") = some true) (c4 : PySem.W.hasDictIn K C = true) : XfC K C := ⟨c1, c2, c3, c4⟩
structure Facts (K : PySem.W.Frag) (CB CL : Addr) : Prop where
  gCB : PySem.W.nsIn K mainGlobals "BadText" = some (some (.ref CB))
  gCL : PySem.W.nsIn K mainGlobals "LateError" = some (some (.ref CL))
  fpot : FA K "_law_pot" sPot
  ftake : FA K "_law_take" sTake
  fof : FA K "_law_of" sOf
  frow : FA K "_law_row" sRow
  ffig : FA K "_law_figures" sFig
  fmove : FA K "_law_move" sMove
  fheard : FA K "_law_heard" sHeard
  fright : FA K "_law_right" sRight
  flaw : FA K "law" sLaw
  zlen : PySem.W.nsIn K mainGlobals "len" = some none
  zall : PySem.W.nsIn K mainGlobals "all" = some none
  zint : PySem.W.nsIn K mainGlobals "int" = some none
  zabs : PySem.W.nsIn K mainGlobals "abs" = some none
  zmax : PySem.W.nsIn K mainGlobals "max" = some none
  zmin : PySem.W.nsIn K mainGlobals "min" = some none
  zrange : PySem.W.nsIn K mainGlobals "range" = some none
  ztuple : PySem.W.nsIn K mainGlobals "tuple" = some none
  zrepr : PySem.W.nsIn K mainGlobals "repr" = some none
  zisi : PySem.W.nsIn K mainGlobals "isinstance" = some none
  zval : PySem.W.nsIn K mainGlobals "ValueError" = some none
  low : ∀ {h : Heap} {mg : Str → Option Value}, K.In h → h.Ns mainGlobals mg → ∃ fB, PySem.LowX.LowTxt K mg CB fB
  isD : IsD2 K CB
  xf : XfC K CB
  noL : PySem.W.findIn K (.ref CB) "line" = some none
  ex : PySem.W.exmOne K (.ref CB) (.ref CL) = some true
  k1 : PySem.W.kitOne K (.ref CB) (.ref CB) = some true
  k2 : PySem.W.kitOne K (.ref CB) (.type "ValueError") = some true
section
variable {P : Program} {w : World} {K : PySem.W.Frag} {mg : Str → Option Value} {base : Heap} {CB CL : Addr}
theorem fnAt {CX : CXT} {k : Nat} {x : Str} {st : Stmt} {ps : List Str} {sp : Sp} {h : Heap} (X : K.In h) (G : h.Ns mainGlobals mg) (A : FA K x st) (hb : ∀ f fd, Fun K x x st f fd → Binds K fd ps []) (ok : ∀ f fd, Fun K x x st f fd → FnOk P w K mg base CX k f fd ps sp) : FnAt P w K mg base CX k x ps sp := by
  obtain ⟨f, fd, a, F⟩ := A.ex
  exact ⟨f, fd, PySem.W.mg_of X G a, F.kp, hb f fd F, ok f fd F⟩
/-- the law, from what the program's reader promises -/
theorem all_of {j : Nat} (hj : 2 ≤ j) {h : Heap} {fa : Addr} (X : K.In h) (G : h.Ns mainGlobals mg) (A : Facts K CB CL) (RS : ∀ base : Heap, K.In base → base.Ns mainGlobals mg → FnAt P w K mg base (L2.CX P w) j "read_story" ["text"] (spRead K CB)) (hfa : mg "law" = some (.ref fa)) :
    ∃ fd : FuncData, (∀ (s : Shared) (v : Value), BindsTo s fd ⟨[v], []⟩ [("_law_script", v)]) ∧ ∀ base : Heap, K.In base → base.Ns mainGlobals mg → FnG P w K mg base CX0 (j + 3) fa fd ["_law_script"] (spLaw K) := by
  obtain ⟨fl, fdl, al, FL⟩ := A.flaw.ex
  have e := hfa.symm.trans (PySem.W.mg_of X G al)
  cases e
  refine ⟨fdl, fun s v => ?_, fun base hk hn => ?_⟩
  · obtain ⟨oc, od, kV, doc, pm, an, cdv, ct, osl, rfl, _⟩ := FL.ex
    exact .of_eq rfl
  have mn : ∀ {x : Str}, PySem.W.nsIn K mainGlobals x = some none → mg x = none := fun z => PySem.W.mg_none_of X G z
  have rTake : FnAt P w K mg base CX0 1 "_law_take" ["_law_pot_here", "_law_upto"] spTake := fnAt X G A.ftake (fun _ _ F => F.binds (ps := ["_law_pot_here", "_law_upto"]) fun _ _ _ _ _ _ us hl => match us, hl with | [_, _], _ => rfl) fun _ _ F => ok_take F (mn A.zint)
  have rOf : FnAt P w K mg base CX0 2 "_law_of" ["_law_pot_here", "_law_some"] spOf := fnAt X G A.fof (fun _ _ F => F.binds (ps := ["_law_pot_here", "_law_some"]) fun _ _ _ _ _ _ us hl => match us, hl with | [_, _], _ => rfl) fun _ _ F => ok_of F (mn A.zlen) rTake
  have rPot : FnAt P w K mg base CX0 1 "_law_pot" ["_law_script", "_law_k"] (spPot K) := fnAt X G A.fpot (fun _ _ F => F.binds (ps := ["_law_script", "_law_k"]) fun _ _ _ _ _ _ us hl => match us, hl with | [_, _], _ => rfl) fun _ _ F => ok_pot F (mn A.zlen) (mn A.zint) (mn A.zabs)
  have rRow : FnAt P w K mg base CX0 3 "_law_row" ["_law_pot_here"] spRow := fnAt X G A.frow (fun _ _ F => F.binds (ps := ["_law_pot_here"]) fun _ _ _ _ _ _ us hl => match us, hl with | [_], _ => rfl) fun _ _ F => ok_row F rOf
  have FN : FgN mg := ⟨mn A.zlen, mn A.zall, mn A.zint⟩
  have rFig : FnAt P w K mg base CX0 1 "_law_figures" ["_law_word"] spFig := fnAt X G A.ffig (fun _ _ F => F.binds (ps := ["_law_word"]) fun _ _ _ _ _ _ us hl => match us, hl with | [_], _ => rfl) fun _ _ F => ok_fig F FN
  have rMove : FnAt P w K mg base CX0 2 "_law_move" ["_law_row_here"] (spMove K) := fnAt X G A.fmove (fun _ _ F => F.binds (ps := ["_law_row_here"]) fun _ _ _ _ _ _ us hl => match us, hl with | [_], _ => rfl) fun _ _ F => ok_move F FN rFig
  have HN : HdN K mg CB CL := ⟨PySem.W.mg_of X G A.gCL, PySem.W.mg_of X G A.gCB, mn A.zisi, mn A.zval, A.ex, A.k1, A.k2, A.isD, A.xf, A.noL⟩
  have rHeard : FnAt P w K mg base CX0 (j + 1) "_law_heard" ["_law_value"] (spHeard K) := fnAt X G A.fheard (fun _ _ F => F.binds (ps := ["_law_value"]) fun _ _ _ _ _ _ us hl => match us, hl with | [_], _ => rfl) fun _ _ F => ok_heard F HN (RS base hk hn)
  have rRight : FnGAt P w K mg base (j + 2) "_law_right" ["_law_pot_here"] spRight := by
    obtain ⟨f, fd, a, F⟩ := A.fright.ex
    exact ⟨f, fd, PySem.W.mg_of X G a, F.kp, F.binds (ps := ["_law_pot_here"]) (fun _ _ _ _ _ _ us hl => match us, hl with | [_], _ => rfl), ok_right (by omega) F ⟨mn A.zrange, mn A.ztuple, mn A.zrepr⟩ rOf rRow rMove rHeard⟩
  exact ok_law FL ⟨mn A.zlen, mn A.zmax, mn A.zmin, mn A.zrange, mn A.zall⟩ (by omega) rPot rRight
end
end K6

/-! text PF -/
set_option Elab.async false
set_option linter.all false
set_option maxRecDepth 100000
set_option maxHeartbeats 4000000
namespace K6
open PySem PySem.Spec PyProof.Rows L2
theorem psqt_mk {K : PySem.W.Frag} {a : Addr} {o : Obj} {its : Array Value} {n : Nat} {xs : List V} (l : K.lookup a = some o) (hc : o.cls = .type "tuple") (hd : o.data = .seq its n) (hz : Nat.ble its.size 100 = true) (r : Vals xs its.toList) : ∀ H, SqT K H a xs := fun H => by
  refine .inr ⟨o, its, n, l, hc, hd, ?_, r⟩
  have z := sizeLine_eq
  have q := Nat.le_of_ble_eq_true hz
  omega
theorem pw1_mk {K : PySem.W.Frag} {a : Addr} {x1 : Str} {o : Option Addr} {u1 : Tok} {n : Nat} {sl : Array (Option Value)} (l : K.lookup a = some ⟨.type "tuple", o, .seq #[.str x1 u1] n, sl⟩) : ∀ H, SqT K H a [.str x1] := psqt_mk l rfl rfl rfl (.cons ⟨_, rfl⟩ .nil)
theorem pw4_mk {K : PySem.W.Frag} {a : Addr} {x1 x2 x3 x4 : Str} {o : Option Addr} {u1 u2 u3 u4 : Tok} {n : Nat} {sl : Array (Option Value)} (l : K.lookup a = some ⟨.type "tuple", o, .seq #[.str x1 u1, .str x2 u2, .str x3 u3, .str x4 u4] n, sl⟩) : ∀ H, SqT K H a [.str x1, .str x2, .str x3, .str x4] := psqt_mk l rfl rfl rfl (.cons ⟨_, rfl⟩ (.cons ⟨_, rfl⟩ (.cons ⟨_, rfl⟩ (.cons ⟨_, rfl⟩ .nil))))
theorem pint_mk {K : PySem.W.Frag} {a : Addr} {x : Str} {n : Int} {t : Tok} (h : PySem.W.nsIn K a x = some (some (.int n t))) : ∃ t, PySem.W.nsIn K a x = some (some (.int n t)) := ⟨t, h⟩
theorem pstr_mk {K : PySem.W.Frag} {a : Addr} {x n : Str} {t : Tok} (h : PySem.W.nsIn K a x = some (some (.str n t))) : ∃ t, PySem.W.nsIn K a x = some (some (.str n t)) := ⟨t, h⟩
theorem ptw_mk {K : PySem.W.Frag} {a : Addr} {x : Str} {xs : List V} (h : PySem.W.nsIn K mainGlobals x = some (some (.ref a))) (g : ∀ H, SqT K H a xs) : ∃ a, PySem.W.nsIn K mainGlobals x = some (some (.ref a)) ∧ ∀ H, SqT K H a xs := ⟨a, h, g⟩
/-- what the top has written of the program's reader -/
structure PFacts (K : PySem.W.Frag) : Prop where
  fname : FA K "is_name" sPIsName
  fnum : FA K "is_number" sPNum
  fmov : FA K "move_of_text" sPMov
  fread : FA K "read_story" sPRead
  zlen : PySem.W.nsIn K mainGlobals "len" = some none
  zall : PySem.W.nsIn K mainGlobals "all" = some none
  zint : PySem.W.nsIn K mainGlobals "int" = some none
  zisi : PySem.W.nsIn K mainGlobals "isinstance" = some none
  zstr : PySem.W.nsIn K mainGlobals "str" = some none
  zenum : PySem.W.nsIn K mainGlobals "enumerate" = some none
  ztup : PySem.W.nsIn K mainGlobals "tuple" = some none
  iL : ∃ t, PySem.W.nsIn K mainGlobals "LETTERS" = some (some (.str pLETT t))
  iD : ∃ t, PySem.W.nsIn K mainGlobals "DIGITS" = some (some (.str pDIGS t))
  iM : ∃ t, PySem.W.nsIn K mainGlobals "MOST_FIGURES" = some (some (.int 3 t))
  iT : ∃ a, PySem.W.nsIn K mainGlobals "TASK_WORDS" = some (some (.ref a)) ∧ ∀ H, SqT K H a [.str "sends", .str "does", .str "comes", .str "gone"]
  iO : ∃ a, PySem.W.nsIn K mainGlobals "OVER" = some (some (.ref a)) ∧ ∀ H, SqT K H a [.str "over"]
section
variable {P : Program} {w : World} {K : PySem.W.Frag} {mg : Str → Option Value} {base : Heap} {CB CL fB : Addr}
theorem pnm_of {h : Heap} (X : K.In h) (G : h.Ns mainGlobals mg) (A : PFacts K) : PNm K mg := by
  have mn : ∀ {x : Str}, PySem.W.nsIn K mainGlobals x = some none → mg x = none := fun z => PySem.W.mg_none_of X G z
  have ms : ∀ {x n : Str}, (∃ t, PySem.W.nsIn K mainGlobals x = some (some (.str n t))) → ∃ t, mg x = some (.str n t) := fun ⟨t, z⟩ => ⟨t, PySem.W.mg_of X G z⟩
  obtain ⟨aT, zT, sT⟩ := A.iT
  obtain ⟨aO, zO, sO⟩ := A.iO
  obtain ⟨tM, zM⟩ := A.iM
  exact ⟨mn A.zlen, mn A.zall, mn A.zint, ms A.iL, ms A.iD, ⟨tM, PySem.W.mg_of X G zM⟩, ⟨aT, PySem.W.mg_of X G zT, sT⟩, ⟨aO, PySem.W.mg_of X G zO, sO⟩⟩
theorem rPName {h : Heap} (X : K.In h) (G : h.Ns mainGlobals mg) (A : PFacts K) : FnAt P w K mg base CX0 1 "is_name" ["word"] spPName := fnAt X G A.fname (fun _ _ F => F.binds (ps := ["word"]) fun _ _ _ _ _ _ us hl => match us, hl with | [_], _ => rfl) fun _ _ F => ok_pname F (pnm_of X G A)
theorem rPNum {h : Heap} (X : K.In h) (G : h.Ns mainGlobals mg) (A : PFacts K) : FnAt P w K mg base CX0 1 "is_number" ["word"] spPNum := fnAt X G A.fnum (fun _ _ F => F.binds (ps := ["word"]) fun _ _ _ _ _ _ us hl => match us, hl with | [_], _ => rfl) fun _ _ F => ok_pnum F (pnm_of X G A)
theorem rPMov {h : Heap} (X : K.In h) (G : h.Ns mainGlobals mg) (A : PFacts K) : FnAt P w K mg base CX0 2 "move_of_text" ["row"] (spPMov K) := fnAt X G A.fmov (fun _ _ F => F.binds (ps := ["row"]) fun _ _ _ _ _ _ us hl => match us, hl with | [_], _ => rfl) fun _ _ F => ok_pmov F (pnm_of X G A) (rPName X G A) (rPNum X G A)
theorem rPRead {h : Heap} (X : K.In h) (G : h.Ns mainGlobals mg) (A : PFacts K) (low : PySem.LowX.LowTxt K mg CB fB) : FnAt P w K mg base (L2.CX P w) 20 "read_story" ["text"] (spRead K CB) := by
  have mn : ∀ {x : Str}, PySem.W.nsIn K mainGlobals x = some none → mg x = none := fun z => PySem.W.mg_none_of X G z
  exact fnAt X G A.fread (fun _ _ F => F.binds (ps := ["text"]) fun _ _ _ _ _ _ us hl => match us, hl with | [_], _ => rfl) fun _ _ F => FnOk.weak ((ok_pread F ⟨mn A.zisi, mn A.zstr, mn A.zenum, mn A.ztup, low⟩ (rPMov X G A)).mono (k := 20) (by decide)) fun _ _ _ _ h => read_k89 h
theorem all_k89 {h : Heap} {fa : Addr} (X : K.In h) (G : h.Ns mainGlobals mg) (A : Facts K CB CL) (B : PFacts K) (hfa : mg "law" = some (.ref fa)) :
    ∃ fd : FuncData, (∀ (s : Shared) (v : Value), BindsTo s fd ⟨[v], []⟩ [("_law_script", v)]) ∧ ∀ base : Heap, K.In base → base.Ns mainGlobals mg → FnG P w K mg base CX0 23 fa fd ["_law_script"] (spLaw K) := by
  obtain ⟨fB, low⟩ := A.low X G
  exact all_of (j := 20) (by decide) X G A (fun base hk hn => rPRead X G B low) hfa
end
end K6

/-! text QT -/
set_option Elab.async false
open PySem PySem.W PyProof.Rows
set_option maxRecDepth 100000 in
set_option maxHeartbeats 0 in
theorem PySem.Challenge.cw_lastasked_k89_texts_that_are_no_stories_holds : PySem.Challenge.rw_lastasked_k89_texts_that_are_no_stories.Holds := by
  w_on; o_law; k_head; (case hw => w_witness2)
  k_fill
  refine K6.walkG (n := 63) (k := 23) (x := "_law_script") (CX := fun _ => L2.CX0) (sp := fun w => K6.spLaw _) (l := PySem.Challenge.rw_lastasked_k89_texts_that_are_no_stories) rfl (by decide) rfl ⟨rfl, by decide, by decide⟩ (fun w h Y => PySem.W.kIn_of Y) ?F (fun _ _ a ns hl _ hS => ⟨a, ns, rfl, hS, hl, fun _ => rfl⟩) (fun _ _ _ _ _ z => z)
  case F =>
    intro w mg fa h KX G hmg
    refine' K6.all_k89 KX G (K6.Facts.mk ?gCB ?gCL ?fpot ?ftake ?fof ?frow ?ffig ?fmove ?fheard ?fright ?flaw ?zlen ?zall ?zint ?zabs ?zmax ?zmin ?zrange ?ztuple ?zrepr ?zisi ?zval ?low ?isD ?xf ?noL ?ex ?k1 ?k2) (K6.PFacts.mk ?pfname ?pfnum ?pfmov ?pfread ?pzlen ?pzall ?pzint ?pzisi ?pzstr ?pzenum ?pztup ?piL ?piD ?piM ?piT ?piO) hmg
    (case gCB => k_is)
    (case gCL => k_is)
    (case fpot => refine' K6.fa_mk ?a ?l ?c ?k; (case a => k_is); (case l => k_is); (case c => k_is); (case k => k_is))
    (case ftake => refine' K6.fa_mk ?a ?l ?c ?k; (case a => k_is); (case l => k_is); (case c => k_is); (case k => k_is))
    (case fof => refine' K6.fa_mk ?a ?l ?c ?k; (case a => k_is); (case l => k_is); (case c => k_is); (case k => k_is))
    (case frow => refine' K6.fa_mk ?a ?l ?c ?k; (case a => k_is); (case l => k_is); (case c => k_is); (case k => k_is))
    (case ffig => refine' K6.fa_mk ?a ?l ?c ?k; (case a => k_is); (case l => k_is); (case c => k_is); (case k => k_is))
    (case fmove => refine' K6.fa_mk ?a ?l ?c ?k; (case a => k_is); (case l => k_is); (case c => k_is); (case k => k_is))
    (case fheard => refine' K6.fa_mk ?a ?l ?c ?k; (case a => k_is); (case l => k_is); (case c => k_is); (case k => k_is))
    (case fright => refine' K6.fa_mk ?a ?l ?c ?k; (case a => k_is); (case l => k_is); (case c => k_is); (case k => k_is))
    (case flaw => refine' K6.fa_mk ?a ?l ?c ?k; (case a => k_is); (case l => k_is); (case c => k_is); (case k => k_is))
    (case zlen => k_is)
    (case zall => k_is)
    (case zint => k_is)
    (case zabs => k_is)
    (case zmax => k_is)
    (case zmin => k_is)
    (case zrange => k_is)
    (case ztuple => k_is)
    (case zrepr => k_is)
    (case zisi => k_is)
    (case zval => k_is)
    (case low => refine' K6.low_mk ?aC ?xL ?sa ?ga ?gg ?nb ?a1 ?t1 ?l1 ?c1 ?kC ?eC ?tC ?hC ?iC ?sC; (case aC => k_is); (case xL => k_is); (case sa => k_is); (case ga => k_is); (case gg => k_is); (case nb => k_is); (case a1 => k_is); (case t1 => k_is); (case l1 => k_is); (case c1 => k_is); (case kC => k_is); (case eC => k_is); (case tC => k_is); (case hC => k_is); (case iC => k_is); (case sC => k_is))
    (case isD => refine' K6.isD2_mk ?c1 ?c2 ?c3 ?c4 ?c5 ?c6 ?c7 ?c8; (case c1 => k_is); (case c2 => k_is); (case c3 => k_is); (case c4 => k_is); (case c5 => k_is); (case c6 => k_is); (case c7 => k_is); (case c8 => k_is))
    (case xf => refine' K6.xf_mk ?c1 ?c2 ?c3 ?c4; (case c1 => k_is); (case c2 => k_is); (case c3 => k_is); (case c4 => k_is))
    (case noL => k_is)
    (case ex => refine' K6.exm_two ?h1 ?h2 ?h3 ?h4; (case h1 => k_is); (case h2 => k_is); (case h3 => k_is); (case h4 => k_is))
    (case k1 => exact K6.kit_self)
    (case k2 => kit_is)
    (case pfname => refine' K6.fa_mk ?a ?l ?c ?k; (case a => k_is); (case l => k_is); (case c => k_is); (case k => k_is))
    (case pfnum => refine' K6.fa_mk ?a ?l ?c ?k; (case a => k_is); (case l => k_is); (case c => k_is); (case k => k_is))
    (case pfmov => refine' K6.fa_mk ?a ?l ?c ?k; (case a => k_is); (case l => k_is); (case c => k_is); (case k => k_is))
    (case pfread => refine' K6.fa_mk ?a ?l ?c ?k; (case a => k_is); (case l => k_is); (case c => k_is); (case k => k_is))
    (case pzlen => k_is)
    (case pzall => k_is)
    (case pzint => k_is)
    (case pzisi => k_is)
    (case pzstr => k_is)
    (case pzenum => k_is)
    (case pztup => k_is)
    (case piL => refine' K6.pstr_mk ?e; (case e => k_is))
    (case piD => refine' K6.pstr_mk ?e; (case e => k_is))
    (case piM => refine' K6.pint_mk ?e; (case e => k_is))
    (case piT => refine' K6.ptw_mk ?z (K6.pw4_mk ?l); (case z => k_is); (case l => k_is))
    (case piO => refine' K6.ptw_mk ?z (K6.pw1_mk ?l); (case z => k_is); (case l => k_is))
