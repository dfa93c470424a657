import PyProof.Rows.All
import Wide.All
import OpenK.AllK
import Wide.FinOn
import PyProof.EqAt
import PyProof.EqKinds
import PyProof.TupleCall
import KE.OsGo
import KE.KxIndex
import HandS.ForMost
import HandS.ForExc
import HandS.More
import HandS.RaiseMore
import PyProof.ReprRoads
import HandS.Ends
import HandS.Exc
import HandS.ExcOwn
import HandS.ExcField
import HandS.IsInst
import KE.KExcIs
import HandS.Text
import HandS.Words
import HandS.WordsList
import HandS.WordsExc
import KE.GoesEnumKw
import HandS.Comp
import HandS.Walk
import HandS.Conv
import HandS.Lambda
import HandS.Zip
import HandS.FStr
import PyProof.StrLawsRepr
import HandS.EndTab
import KE.RegKIsAll
import PySem.Challenge.RW_lastasked_k88_stories_written_and_read
/-! text LB -/
set_option Elab.async false
set_option linter.all false
set_option maxRecDepth 100000
set_option maxHeartbeats 4000000
namespace PySem
namespace LowX
open PySem.W PySem.Calls PyProof.Rows PySem.HandSPX
/-! ### the text of __init__ -/
def iA (p1 p2 : Pos) : Arguments := { posonlyargs := [], args := [{ arg := "self", annotation := none, pos := p1 }, { arg := "line", annotation := none, pos := p2 }], vararg := none, kwonlyargs := [], kw_defaults := [], kwarg := none, defaults := [] }
def iB (q1 q2 q3 q4 : Pos) : List Stmt := [.Assign [.Attribute (.Name "self" q1) "line" q2] (.Name "line" q3) q4]
def iS : Scope := { kind := .function, names := [(PySem.Str.ofString "self", .local), (PySem.Str.ofString "line", .local)], isGenerator := false, isCoroutine := false, more := [] }
/-- what the written part says of Low, at C, and of its __init__, at fI -/
structure LowTxt (K : Frag) (mg : Str → Option Value) (C fI : Addr) : Prop where
  gC : mg "BadText" = some (.ref C)
  cls : ∃ nm q N bs bm sn sub ab col dd k0 k1 k2 k3 k5, K.lookup C = some (excClassObj nm q C N bs bm true sn sub ab col dd k0 k1 k2 k3 k5 "ValueError.__new__") ∧ refsVE bm = true
  sa : findIn K (.ref C) "__setattr__" = some (some (.builtin "object.__setattr__"))
  ga : findIn K (.ref C) "__getattribute__" = some (some (.builtin "BaseException.__getattribute__"))
  gg : findIn K (.ref C) "__getattr__" = some none
  noN : findIn K (.ref C) "line" = some none
  iC : findIn K (.ref C) "__init__" = some (some (.ref fI))
  tC : typeIn K (.ref fI) = some (.type "function")
  kC : keepIn K (.ref C) = true
  exC : subIn K (.ref C) (.type "BaseException") = some true
  tyC : typeIn K (.ref C) = some (.type "type")
  hdC : hasDictIn K C = true
  te : exmOne K (.ref C) (.ref C) = some true
  fn : ∃ (oc : Value) (od : Option Addr) (doc pm : Value) (an : Option Addr) (cdv ct : Value) (osl : Array (Option Value)) (p1 p2 q1 q2 q3 q4 : Pos),
    K.lookup fI = some ⟨oc, od, .func (fnOf "__init__" "BadText.__init__" (iA p1 p2) (iB q1 q2 q3 q4) iS .none .none doc pm an cdv ct), osl⟩ ∧ codeIn K cdv "BadText.__init__" = true
theorem one_size (v : Value) : [v].length ≤ sizeLine := by
  rw [sizeLine_eq]
  exact (by decide : 1 ≤ 16777216)
theorem kept_but {K : Frag} {h h' : Heap} {x : Addr} (X : K.In h) (hx : K.lookup x = none) (k : ∀ b o, b ≠ x → h.get? b = some o → h'.get? b = some o) : K.In h' := fun a o e =>
  k a o (fun z => by rw [z, hx] at e; cases e) (X a o e)
theorem ldC {M : Model} {s : Shared} {name : Str} {scope : Scope} {L a : Addr} {cd : Value} {m : Str → Option Value} {x : Str} {pos : Pos} {v : Value} {Q : Value → Shared → Prop} {A : Around} {E : Value → Shared → Prop} (hn : s.heap.Ns L m) (hv : m x = some v) (h : Q v s)
    (hk : scope.kind = .function := by rfl) (hl : (envOfC name scope L a cd).kindOf x = some .local := by rfl) (hd : (x == ("__debug__" : Str)) = false := by decide) :
    wpAny M A (eval (.Name x pos) (envOfC name scope L a cd)) Q E s := wpAny_Name (wpAny_loadName_local hk hl hn hv h) hd
/-- what __init__ leaves of a fresh exception at x -/
structure InitEnd (h h' : Heap) (x C dx t1 : Addr) (v : Value) : Prop where
  keep : ∀ b o, b ≠ x → h.get? b = some o → h'.get? b = some o
  obj : h'.get? x = some { cls := .ref C, dict := some dx, data := .fields #[.ref t1, .none, .none, .none, .bool false, .none] }
  dbig : h.objs.size ≤ dx
  dne : dx ≠ x
  ns : h'.Ns1 dx (fun y => if y = "line" then some v else none)
/-- a made Low -/
structure OwnMade (h h' : Heap) (e C d : Addr) (v : Value) : Prop where
  keep : ∀ b o, h.get? b = some o → h'.get? b = some o
  new : h.objs.size ≤ e
  obj : ∃ oe vs, h'.get? e = some oe ∧ oe.cls = .ref C ∧ oe.dict = some d ∧ oe.data = .fields vs ∧ vs[1]? = some .none
  dbig : h.objs.size ≤ d
  dne : d ≠ e
  ns : h'.Ns1 d (fun y => if y = "line" then some v else none)
section
variable {prog : Program} {w : World} {A : Around} {E : Value → Shared → Prop} {R : Result → Shared → Prop} {s : Shared} {K : Frag} {mg : Str → Option Value} {C fI : Addr}
theorem low_init (T : LowTxt K mg C fI) {x t0 : Addr} {v : Value} (X : K.In s.heap) (hlim : s.heap.NoLimit) (hx : s.heap.get? x = some (excO C t0)) (hnx : K.lookup x = none) (hroom : A.depth < recursionLimit)
    (hq : ∀ h' tk dx, InitEnd s.heap h' x C dx t0 v → R (.ok (.ret .none)) { s with heap := h', toks := tk }) :
    codeAny (model prog w) A (.call (.ref fI) ⟨[.ref x, v], []⟩) R s := by
  obtain ⟨oc, od, doc, pm, an, cdv, ct, osl, p1, p2, q1, q2, q3, q4, ho, hcd⟩ := T.fn
  obtain ⟨nm, q, N, bs, bm, sn, sub, ab, col, dd, k0, k1, k2, k3, k5, hC, hbm⟩ := T.cls
  have hcl : clsIn K C = some { name := nm, bases := bs, mro := .ref C :: bm, ns := N, qualname := q, hasDict := true, slotNames := sn, subclasses := sub, abstract := ab, collection := col, hasDel := false } := by unfold clsIn; rw [hC] <;> rfl
  refine Att.call_fn (binds := [("self", .ref x), ("line", v)]) X hlim ho hcd hroom (BindsTo.of_eq (by first | rfl | with_unfolding_all rfl)) (by first | rfl | decide | with_unfolding_all rfl) (fun s₁ IC => ?_) rfl rfl rfl
  obtain ⟨h₁, tk₁, rfl⟩ := IC.toInCall.same
  have k : ∀ b o, s.heap.get? b = some o → h₁.get? b = some o := IC.toInCall.keep
  have hn := IC.toInCall.ns
  have hxL : s.heap.objs.size ≠ x := Nat.ne_of_gt (Heap.lt_size hx)
  have X₁ : K.In h₁ := X.keeps k
  have hx₁ := k _ _ hx
  -- self.by = by
  show wpAny _ _ (execs _ _) _ _ _
  refine wpAny_execs_cons (plainObj_wpAny_Assign_Attribute ?_)
  refine ldC (v := v) hn (by first | rfl | with_unfolding_all rfl | kernel_rfl) (ldC (v := .ref x) hn (by first | rfl | with_unfolding_all rfl | kernel_rfl) ?_)
  refine set_plain X₁ (ox := excO C t0) (od := none) ⟨hx₁, rfl, rfl, trivial⟩ T.sa ?_
  refine exc_osa X₁ hx₁ hcl (show refsVE (.ref C :: bm) = true from hbm) rfl T.noN (fun h₃ tk₃ dx k₃ dn dne hx₃ hn₃ => ?_)
  show wpAny _ _ (execs _ _) _ _ _
  have z : s.heap.objs.size < h₁.objs.size := hn.lt
  exact wpAny_execs_nil (hq h₃ tk₃ dx ⟨fun b o hb e => k₃ b o hb (k b o e), hx₃, Nat.le_of_lt (Nat.lt_of_lt_of_le z dn), dne, hn₃⟩)
theorem low_made (T : LowTxt K mg C fI) {v : Value} (X : K.In s.heap) (hlim : s.heap.NoLimit) (hroom : A.depth + 1 < recursionLimit)
    (hq : ∀ h' tk e d, OwnMade s.heap h' e C d v → R (.ok (.ret (.ref e))) { s with heap := h', toks := tk }) :
    codeAny (model prog w) A (.call (.ref C) ⟨[v], []⟩) R s := by
  obtain ⟨nm, q, N, bs, bm, sn, sub, ab, col, dd, k0, k1, k2, k3, k5, hC, hbm⟩ := T.cls
  obtain ⟨hp, g, dr, tk, os⟩ := s
  have k : ∀ b o, hp.get? b = some o → ((hp.push (kdv_tup [v])).push (excO C hp.objs.size)).get? b = some o := fun b o e => Heap.get?_push_of_some _ (Heap.get?_push_of_some _ e)
  have hget : ((hp.push (kdv_tup [v])).push (excO C hp.objs.size)).get? (hp.objs.size + 1) = some (excO C hp.objs.size) := by heap_get
  have hnx : K.lookup (hp.objs.size + 1) = none := by
    cases e : K.lookup (hp.objs.size + 1) with
    | none => rfl
    | some o =>
      have z : hp.get? (hp.objs.size + 1) = some o := X _ _ e
      exact absurd (Nat.lt_of_succ_lt (Heap.lt_size z)) (Nat.lt_irrefl _)
  refine call_own F.excBase_ValueError (fun X => refsVE_contains X bm hbm) (X _ _ hC) (looks_findIn X T.iC) (fun self => bind_fn X self T.tC) (one_size v) ?_
  refine low_init (s := ⟨(hp.push (kdv_tup [v])).push (excO C hp.objs.size), g, dr, tk, os⟩) T (X.keeps k) (hlim.keeps k) hget hnx ?_ fun h' tk' dx ⟨k', hx, dn, dne, hns⟩ => ?_
  · show A.depth + 1 < recursionLimit
    exact hroom
  · have old : ∀ b o, hp.get? b = some o → h'.get? b = some o := fun b o e => k' b o (Nat.ne_of_lt (Nat.lt_succ_of_lt (Heap.lt_size e))) (k b o e)
    have z : hp.objs.size + 1 + 1 ≤ dx := by
      first
        | (simpa only [Heap.size_push] using dn)
        | exact dn
        | (have q := dn; rw [Heap.size_push, Heap.size_push] at q; exact q)
    exact ⟨rfl, hq h' tk' (hp.objs.size + 1) dx ⟨old, Nat.le_succ _, ⟨_, _, hx, rfl, rfl, rfl, rfl⟩, Nat.le_trans (Nat.le_trans (Nat.le_succ _) (Nat.le_succ _)) z, dne, hns⟩⟩
end
end LowX
end PySem
namespace L2
open PySem PySem.Spec PyProof.Rows
theorem relO_bad {v : V} {v' : Value} (r : RelV v v') (f : Str) : RelO (List.lookup f [(("line" : Str), v)]) (if f = "line" then some v' else none) := by
  by_cases hw : f = "line"
  · subst hw
    rw [if_pos rfl]
    have q : List.lookup ("line" : Str) [(("line" : Str), v)] = some v := by simp [List.lookup]
    rw [q]
    exact r
  · rw [if_neg hw]
    have qw : (f == ("line" : Str)) = false := by simpa using hw
    have q2 : List.lookup f [(("line" : Str), v)] = none := by simp [List.lookup, qw]
    rw [q2]
    trivial
section
variable {X : Cx} {C fI : Addr}
/-- Low(e) -/
def tMkLow (C : Addr) (ta : TA) : St → Hp → XK → Prop := fun σ H Q => ta σ H fun vs H1 => ∃ v, vs = [v] ∧ ∀ d, H1 d = none → Q (.ref C) (some d) (upd H1 d (.xd [(("line" : Str), v)]))
theorem pmk_low {a : Expr} {ta : TA} {p pos : Pos} {k : Nat} (T : PySem.LowX.LowTxt X.K X.mg C fI) (hr : Room k X.A) (ha : PA X [a] ta) (hg : Gl X "BadText" := by rfl)
    (he : starEach (a :: []) X.env = (false, eval a X.env) :: starEach [] X.env := by rfl) (hpl : (backTo pos (starEach [] X.env)).any (·.1) = false := by rfl) :
    PMk X (.Call (.Name "BadText" p) [a] [] pos) (tMkLow C ta) := by
  intro pins s σ H Q I h
  refine wpAny_Call_Name_kw (ld_glob I hg T.gC ?_)
  refine PySem.W.callWith_K (h₀ := X.base) I.ok.mod.kin T.kC (thn (ha.run pos pins s σ H _ I h) fun us s1 hh => ?_) he hpl
  obtain ⟨vs, H1, I1, r1, v, ev, q1⟩ := hh
  subst ev
  refine ⟨I1.kIn, ?_⟩
  cases r1 with
  | cons rv rn =>
    rename_i v' us'
    cases rn
    show wpAny _ _ (call (.ref C) [v']) _ _ _
    have hlim := I1.nolimit
    obtain ⟨hp, g, dr, tk, os⟩ := s1
    refine wpAny_call (PySem.LowX.low_made T I1.kIn hlim (by have := hr.dp; omega) fun h' tk' e d M => ?_)
    show MkP X pins σ Q (.ref e) ⟨h', g, dr, tk', os⟩
    obtain ⟨oe, fv, hoe, hc, hd, hdat, h1⟩ := M.obj
    have hns := M.ns
    obtain ⟨G', g1, g2⟩ := restrict h' fun b => decide (b ≠ e)
    have gk : ∀ b, b ≠ e → G'.get? b = h'.get? b := fun b hb => g1 b (decide_eq_true hb)
    have ge : G'.get? e = none := g2 e (by simp)
    have old : ∀ b o, hp.get? b = some o → G'.get? b = some o := fun b o q => (gk b (Nat.ne_of_lt (Nat.lt_of_lt_of_le (Heap.lt_size q) M.new))).trans (M.keep b o q)
    have ob : ObjOk X.prog X.w (upd H1 d (.xd [(("line" : Str), v)])) G' d (.xd [(("line" : Str), v)]) :=
      ⟨_, hns.at (fun o q => (gk d M.dne).trans q), fun f => relO_bad rv f⟩
    have J : Inv X pins σ (upd H1 d (.xd [(("line" : Str), v)])) ⟨G', g, dr, tk', os⟩ := I1.laid (t' := tk') old M.dbig ob
    refine ⟨e, oe, fv, ⟨G', g, dr, tk', os⟩, _, .ref C, some d, rfl, J, fun b o q => ?_, ge, hoe, ⟨hc, hd⟩, hdat, h1, ?_, rfl, I1.bare, raises_own T.exC T.tyC, q1 d (I1.hok.fresh M.dbig)⟩
    · by_cases hb : b = e
      · have q' : G'.get? b = some o := q
        rw [hb, ge] at q'; cases q'
      · exact (gk b hb).symm.trans q
    · rw [upd_ne (Ne.symm M.dne)]
      exact I1.hok.fresh M.new
/-- raise Low(e) -/
def tRaiseLow (C : Addr) (W : WX) (ta : TA) : TS := fun _ σ H => tMkLow C ta σ H fun cls d H' => W cls d σ H'
theorem ps_raiseLow {a : Expr} {ta : TA} {W : WX} {p pos pos2 : Pos} {k : Nat} (hc : X.calm = true) (T : PySem.LowX.LowTxt X.K X.mg C fI) (hr : Room k X.A) (tk : Takes X W) (ha : PA X [a] ta) (hg : Gl X "BadText" := by rfl)
    (he : starEach (a :: []) X.env = (false, eval a X.env) :: starEach [] X.env := by rfl) (hpl : (backTo pos (starEach [] X.env)).any (·.1) = false := by rfl) :
    PS X (.Raise (some (.Call (.Name "BadText" p) [a] [] pos)) none pos2) (tRaiseLow C W ta) := ps_raise hc tk (pmk_low T hr ha hg he hpl)
/-- low.by, low the exception that the suite holds (at a; its class cls, its dict d) -/
def tByLow (C : Addr) (a : Addr) (cls : Value) (d : Option Addr) (te : TE) : TE := fun σ H Q => te σ H fun x H1 => x = .ref a ∧ cls = .ref C ∧ ∃ (dd : Addr) (v : V), d = some dd ∧ H1 dd = some (.xd [(("line" : Str), v)]) ∧ Q v H1
theorem pe_byLow {a : Addr} {oe : Obj} {cls : Value} {d : Option Addr} {pn : List (Addr × Obj)} {e : Expr} {te : TE} {pos : Pos} (T : PySem.LowX.LowTxt X.K X.mg C fI) (hz : Zc cls d oe) (hf : ∃ vs, oe.data = .fields vs) (he : PE (X.suite a ((a, oe) :: pn)) e te)
    (hb : attributeBase e "line" X.env (eval e X.env) = eval e X.env := by rfl) :
    PE (X.suite a ((a, oe) :: pn)) (.Attribute e "line" pos) (tByLow C a cls d te) := by
  refine ⟨fun pins s σ H Q I h => ?_⟩
  refine attr_of hb (thn (he.run pins s σ H _ I h) fun u s1 hh => ?_)
  obtain ⟨x, H1, I1, rx, ex, ec, dd, v, ed, ea, q⟩ := hh
  subst ex
  obtain rfl : u = Value.ref a := rx
  subst ec
  subst ed
  obtain ⟨ha, _⟩ := I1.pin (a, oe) (List.mem_append_left _ List.mem_cons_self)
  obtain ⟨vs, hd⟩ := hf
  have hx : ObjOk X.prog X.w H1 s1.heap dd (.xd [(("line" : Str), v)]) := I1.hok dd _ ea
  obtain ⟨mA, hns, hr⟩ := hx
  obtain ⟨od, ho, hl⟩ := lookIn_ns hns
  have l : List.lookup ("line" : Str) [(("line" : Str), v)] = some v := by simp [List.lookup]
  obtain ⟨u, hu, ru⟩ := RelO.some_of (v := v) (o := mA "line") (by rw [← l]; exact hr "line")
  have J : PySem.W.InstAt s1.heap a oe C (some od) := ⟨ha, hz.1, by unfold PySem.W.notCls; rw [hd] <;> rfl, by rw [hz.2]; exact ho⟩
  exact HandSPX.exc_get I1.kIn J T.ga T.gg T.exC (PySem.W.findObj_own T.hdC T.noN rfl (by rw [hl, hu])) (handed_of ru) ⟨v, H1, I1.tok _, ru, q⟩
end
end L2

namespace L2
open PySem PySem.Spec PyProof.Rows
/-- an if whose test is known -/
theorem if_true_of {c : Bool} {A B : Prop} (hc : c = true) (h : A) : if c = true then A else B := by
  rw [if_pos hc]
  exact h
theorem if_false_of {c : Bool} {A B : Prop} (hc : c = false) (h : B) : if c = true then A else B := by
  rw [hc, if_neg Bool.false_ne_true]
  exact h
end L2

namespace L2
open PySem PySem.Spec PyProof.Rows
/-- "..." * n, a short text and a small number -/
theorem op_mul_str {X : Cx} : OpR X (binaryOp .Mult) (fun x y H Q => ∃ (i : Str) (j : Int), x = .str i ∧ y = .int j ∧ i.length ≤ 16 ∧ 0 ≤ j ∧ j ≤ 1000 ∧ Q (.str (Txt.mul i j)) H) := by
  intro pins s σ H x y v u Q I rx ry h
  obtain ⟨i, j, rfl, rfl, hi, h0, h1, q⟩ := h
  obtain ⟨t, rfl⟩ := rx
  obtain ⟨t', rfl⟩ := ry
  refine PySem.W.KXi.mul rfl hi (by omega) (by omega) fun t' k _ _ => ⟨.str (Txt.mul i j), H, I.tok _, ⟨_, rfl⟩, q⟩
end L2

/-! text RG -/
set_option Elab.async false
set_option linter.all false
set_option maxRecDepth 100000
set_option maxHeartbeats 4000000
namespace K6
open PySem PySem.Spec PyProof.Rows L2
/-! ### a def's promise where no repr is under way -/
section
variable {P : Program} {w : World} {K : PySem.W.Frag} {mg : Str → Option Value} {base : Heap} {CX : CXT} {k j : Nat} {f : Addr} {fd : FuncData} {ps : List Str} {sp : Sp}
structure FnG (P : Program) (w : World) (K : PySem.W.Frag) (mg : Str → Option Value) (base : Heap) (CX : CXT) (k : Nat) (f : Addr) (fd : FuncData) (ps : List Str) (sp : Sp) : Prop where
  ln : ∀ {vs : List V} {H : Hp} {Q : VK} {E : XK}, sp vs H Q E → vs.length = ps.length
  go : ∀ {A : Around} {os : List Env} {st : Shared} {H : Hp} {ar : Args} {us : List Value} {vs : List V} {Q : VK} {E : XK}, A.guards = some [] → Room k A → Env0 P w K mg base A os st H → BindsTo st fd ar (ps.zip us) → Vals vs us → sp vs H Q E →
    codeAny (model P w) A (.call (.ref f) ar) (CR CX os P w H st Q E) st
theorem toG (F : FnOk P w K mg base CX k f fd ps sp) : FnG P w K mg base CX k f fd ps sp := ⟨fun h => F.len _ _ _ _ h, fun _ a b c d e g => F.run _ _ _ _ _ _ _ _ _ a b c d e g⟩
theorem FnG.mono (F : FnG P w K mg base CX j f fd ps sp) (h : j ≤ k) : FnG P w K mg base CX k f fd ps sp := ⟨F.ln, fun g r => F.go g (r.mono h)⟩
theorem fnG_of {name qual : Str} {params : Arguments} {body : List Stmt} {scope : Scope} {dV kV doc pm cdv ct oc : Value} {an od : Option Addr} {osl : Array (Option Value)} {N : List Str}
    (lk : K.lookup f = some ⟨oc, od, .func (PySem.W.fnOf name qual params body scope dV kV doc pm an cdv ct), osl⟩) (cd : PySem.W.codeIn K cdv qual = true) (S : FnScope N ps scope) (ln : ∀ {vs : List V} {H : Hp} {Q : VK} {E : XK}, sp vs H Q E → vs.length = ps.length)
    (bd : ∀ {A : Around} {os : List Env} {st : Shared} {H : Hp} {vs : List V} {Q : VK} {E : XK}, (A.deeper (envOfC qual scope st.heap.objs.size f cdv)).guards = some [] → Room k (A.deeper (envOfC qual scope st.heap.objs.size f cdv)) → sp vs H Q E →
      ∃ t, PSs (cxOf CX P w K mg base N qual scope f cdv A os st H E) body t ∧ t { nx := fun _ H' => Q .non H', rt := Q } (L2.start N vs) H) :
    FnG P w K mg base CX (k + 1) f (PySem.W.fnOf name qual params body scope dV kV doc pm an cdv ct) ps sp := by
  refine ⟨ln, fun {A os st H ar us vs Q E} hg hr e0 hb rl hs => ?_⟩
  have KI : K.In st.heap := e0.mod.kin.keeps (fun b o z => (e0.bs b o z).1)
  have nl : st.heap.NoLimit := e0.mod.nolimit.keeps (fun b o z => (e0.bs b o z).1)
  have kd : ∀ y ∈ ps.zip us, scope.names.lookup y.1 = some .local ∨ (scope.names.lookup y.1 = some .cell ∧ ((cellsFrom (st.heap.objs.size + 1) scope.names []).lookup y.1).isSome = true) := by
    rintro ⟨x, v⟩ hy
    cases S.par x (List.of_mem_zip hy).1 with
    | inl z => exact Or.inl z
    | inr z => exact Or.inr ⟨z, PySem.W.cellsFrom_some _ _ _ (Or.inl z)⟩
  refine codeAny_call_function hr.depth (KI _ _ lk) rfl S.co S.gen rfl (PySem.W.codeRec_of KI cd) (hb _ _ _ _ ?_)
  refine wpAny_newFunctionEnv_cells S.kind kd (fun ev ee s2 x => ?_)
  cases ee
  refine ⟨nl.keeps x.toInCall.keep, codeAny_func ?_⟩
  obtain ⟨t, h1, h2⟩ := bd (A := A) (os := os) (st := st) (by rw [← hg]; rfl) (hr.deeper _) hs
  refine wpAny_mono (h1.run [] s2 (L2.start N vs) H _ (inv_start S hr.hd e0 (ln hs) rl x) h2) (fun fl s3 z => ?_) (fun e s3 z => z)
  match fl, z with
  | .ret u, ⟨v, _, H2, J, rv, q⟩ => exact ⟨v, H2, J.os, J.bare, J.base, J.hok, rv, q⟩
  | .next, ⟨_, H2, J, q⟩ => exact ⟨V.non, H2, J.os, J.bare, J.base, J.hok, rfl, q⟩
  | .brk, ⟨_, _, _, q⟩ => exact q.elim
  | .cont, ⟨_, _, _, q⟩ => exact q.elim
theorem okG {x qual : Str} {s : Stmt} {N : List Str} (F : Fun K x qual s f fd) (S : FnScope N ps (defScope s)) (ln : ∀ {vs : List V} {H : Hp} {Q : VK} {E : XK}, sp vs H Q E → vs.length = ps.length)
    (bd : ∀ {cdv : Value} {A : Around} {os : List Env} {st : Shared} {H : Hp} {vs : List V} {Q : VK} {E : XK}, (A.deeper (envOfC qual (defScope s) st.heap.objs.size f cdv)).guards = some [] → Room k (A.deeper (envOfC qual (defScope s) st.heap.objs.size f cdv)) → sp vs H Q E →
      ∃ t, PSs (cxOf CX0 P w K mg base N qual (defScope s) f cdv A os st H E).nox (defBody s) t ∧ t { nx := fun _ H' => Q .non H', rt := Q } (L2.start N vs) H) : FnG P w K mg base CX0 (k + 1) f fd ps sp := by
  obtain ⟨oc, od, kV, doc, pm, an, cdv, ct, osl, e, lk, cd⟩ := F.ex
  subst e
  refine fnG_of lk cd S ln (fun hg hr hs => ?_)
  obtain ⟨t, h, q⟩ := bd hg hr hs
  exact ⟨t, h.nox, q⟩
end
section
variable {X : Cx} {CX : CXT} {k : Nat} {f : Addr} {fd : FuncData} {ps : List Str} {sp : Sp} {dv : List V} {ds : List Value} {E : XK} {x : Str} {p pos : Pos} {e : Expr} {es : List Expr} {t : TA}
theorem run_G {pins : List (Addr × Obj)} {σ : L2.St} {H : Hp} {s : Shared} {Q : VK} {us : List Value} {vs : List V} (hG : X.A.guards = some []) (F : FnG X.prog X.w X.K X.mg X.base CX k f fd ps sp) (hr : Room k X.A) (hb : Binds X.K fd ps ds) (hd : Vals dv ds) (hx : Passes CX X E)
    (I : Inv X pins σ H s) (rl : Vals vs us) (h : sp (vs ++ dv) H Q E) : wpAny (model X.prog X.w) X.A (call (.ref f) us) (EP X pins σ Q) X.xe s := by
  have ra : Vals (vs ++ dv) (us ++ ds) := rl.append hd
  refine wpAny_call (codeAny_mono (F.go (os := X.stack) (ar := ⟨us, []⟩) (us := us ++ ds) hG hr I.env0 (hb s us I.kIn (by rw [← ra.length]; exact F.ln h)) ra h) fun r s2 z => ?_)
  match r, z with
  | .error y, z => exact hx pins σ H s y s2 I z
  | .ok (.ret u), z => exact I.after z
theorem pe_callG (hG : X.A.guards = some []) (F : FnG X.prog X.w X.K X.mg X.base CX k f fd ps sp) (hr : Room k X.A) (hg : Gl X x) (hm : X.mg x = some (.ref f)) (hk : PySem.W.keepIn X.K (.ref f) = true) (hb : Binds X.K fd ps ds) (hd : Vals dv ds) (hx : Passes CX X E)
    (ha : PA X (e :: es) t) (hdb : (x == ("__debug__" : Str)) = false := by decide) (he : starEach (e :: es) X.env = (false, eval e X.env) :: starEach es X.env := by rfl) (hpl : (backTo pos (starEach es X.env)).any (·.1) = false := by rfl) :
    PE X (.Call (.Name x p) (e :: es) [] pos) (tCall sp dv E t) := ⟨fun pins s σ H Q I h => wpAny_Call_Name_kw (ld_glob I hg hm (PySem.W.callWith_K (h₀ := X.base) I.ok.mod.kin hk (thn (ha.run pos pins s σ H _ I h) fun us s1 ⟨vs, H1, I1, rl, q⟩ => ⟨I1.kIn, run_G hG F hr hb hd hx I1 rl q⟩) he hpl) hdb)⟩
/-! ### repr of what is told by data -/
def rRepr (X : Cx) : List V → Hp → VK → Prop := fun xs H Q => ∃ (a : Addr) (d : PyData), xs = [V.ref a] ∧ Dp X.K H (.ref a) d ∧ d.showable = true ∧ d.hasDict = false ∧ d.depth ≤ 60 ∧ d.shown.length ≤ sizeLine ∧ Q (.str d.shown) H
theorem call_repr (hG : X.A.guards = some []) (hu : X.A.units + 64 < cLine) : CallR X (.builtin "repr") (rRepr X) := by
  intro pins s σ H xs us Q I r h
  obtain ⟨a, d, rfl, hd, hs, hh, hl, hz, q⟩ := h
  rw [Vals.ref1 r]
  obtain ⟨as, rd⟩ := Dp.reads I d _ _ hd rfl
  refine repr_of_reads' rd hs (fun z => by rw [hh] at z; cases z) hG (by omega) (fun b o z => z) (fun h' u tk hk => ?_) hz
  exact ⟨.str d.shown, H, I.kept hk, ⟨u, rfl⟩, q⟩
end
end K6

/-! text RW -/
set_option Elab.async false
set_option linter.all false
set_option maxRecDepth 100000
set_option maxHeartbeats 4000000
namespace K6
open PySem PySem.Spec PyProof.Rows L2
theorem headG {P : Program} {w : World} {K : PySem.W.Frag} {mg mb : Str → Option Value} {CX : CXT} {k : Nat} {fa a : Addr} {fd : FuncData} {x : Str} {sp : Sp} {st : Shared} {us : List Value} {ns : List Int}
    (hK : K.In st.heap) (hm : st.heap.Ns mainGlobals mg) (hB : st.heap.Ns builtinsNs mb) (hbb : ∀ y : Str, y ≠ "__name__" → mb y = bootBuiltins y) (nl : st.heap.NoLimit) (hgen : st.gens = #[])
    (ho : st.heap.get? a = some { cls := .type "list", data := .seq us.toArray }) (hi : IntsAre us ns) (hz : ns.length ≤ sizeLine) (hr : Room k callerA)
    (F : ∀ b : Heap, K.In b → b.Ns mainGlobals mg → FnG P w K mg b CX k fa fd [x] sp) (bind : ∀ (s : Shared) (u : Value), BindsTo s fd ⟨[u], []⟩ [(x, u)])
    (hs : ∀ H : Hp, Only H → SqL K H a (ns.map V.int) → sp [.ref a] H (fun v _ => v = .bl true) fun _ _ _ => False)
    (hC : ∀ H e s2, CX [] H st (fun _ _ _ => False) e s2 → False) :
    codeAny (model P w) callerA (.call (.ref fa) ⟨[.ref a], []⟩) (fun r s2 => r = .ok (.ret (.bool true)) ∧ OldK st.heap s2.heap ∧ s2.os = st.os ∧ AllBare s2.gens) st := by
  have rv := vals_ints hi
  have hL := hi.length
  have main : ∀ H : Hp, Only H → SqL K H a (ns.map V.int) → HOk P w H st.heap → (∀ b, H b ≠ none → b = a) → (H a ≠ none → K.lookup a = none) →
      codeAny (model P w) callerA (.call (.ref fa) ⟨[.ref a], []⟩) (fun r s2 => r = .ok (.ret (.bool true)) ∧ OldK st.heap s2.heap ∧ s2.os = st.os ∧ AllBare s2.gens) st := fun H hO hS hok hA hKa => by
    have at_a : ∀ {b : Addr}, H b ≠ none → b = a := fun {b} => hA b
    have free : ∀ {b : Addr} {o : Obj}, st.heap.get? b = some o → (∀ n, o.data ≠ .seq us.toArray n) → H b = none := fun {b o} e d => Classical.byContradiction fun n => by
      have eb := at_a n
      rw [eb, ho] at e
      injection e with e
      exact d _ (by rw [← e])
    have keepN : ∀ {b : Addr} {m : Str → Option Value}, st.heap.Ns b m → (hidT st.heap H).Ns b m := fun {b m} ⟨o, es, ep, e, d, r⟩ => ⟨o, es, ep, hidT_get e (free e fun n z => by rw [d] at z; cases z), d, r⟩
    have kin : K.In (hidT st.heap H) := fun b o e => hidT_get (hK b o e) (Classical.byContradiction fun n => by
      have eb := at_a n
      rw [eb] at e n
      rw [hKa n] at e
      cases e)
    have nl2 : (hidT st.heap H).NoLimit := by
      obtain ⟨mc, h1, h2⟩ := nl
      exact ⟨mc, keepN h1, h2⟩
    have e0 : Env0 P w K mg (hidT st.heap H) callerA [] st H := { frames := rfl, mod := ⟨kin, keepN hm, ⟨mb, keepN hB, hbb⟩, nl2⟩, bs := fun b o e => of_hidT e, bsz := Nat.le_of_eq (hidT_size _ _), funs := trivial, frf := (fun b hb => by cases hb), hok := hok, bare := .of_eq hgen }
    refine codeAny_mono ((F _ kin (keepN hm)).go (ar := ⟨[.ref a], []⟩) (us := [.ref a]) (vs := [.ref a]) rfl hr e0 (bind st (.ref a)) (.cons rfl .nil) (hs H hO hS)) fun r s2 h => ?_
    match r, h with
    | .error e, h => exact (hC H e s2 h).elim
    | .ok (.ret u), ⟨v, H2, os, bare, un, hok2, rl, q⟩ =>
      have q : v = .bl true := q
      subst q
      have eu : u = Value.bool true := rl
      subst eu
      refine ⟨rfl, OldK.of_keep fun b o e => ?_, os, bare⟩
      rcases hO b with hn | ⟨ob, xs, hf⟩
      · exact un.keep b o e hn (by intro z; cases z) (by simp)
      · obtain ⟨z1, _⟩ := hok b _ hf
        obtain ⟨z2, _⟩ := hok2 b _ (un.frzs b ob _ hf)
        rw [e] at z1
        cases z1
        exact z2
  by_cases hk : ∃ o, K.lookup a = some o
  · obtain ⟨o, hk⟩ := hk
    have e := hK a o hk
    rw [ho] at e
    cases e
    exact main (fun _ => none) (fun _ => Or.inl rfl) (Or.inr ⟨_, us.toArray, _, hk, rfl, rfl, rfl, by rw [List.size_toArray, hL]; exact hz, by simpa using rv⟩) (fun _ _ z => nomatch z) (fun _ z => absurd rfl z) (fun z => absurd rfl z)
  · have hk : K.lookup a = none := by
      cases z : K.lookup a with
      | none => rfl
      | some o => exact absurd ⟨o, z⟩ hk
    refine main (fun b => if b = a then some (.frz { cls := .type "list", data := .seq us.toArray } (.lst (ns.map V.int))) else none) (fun b => ?_) (Or.inl (Or.inr ⟨{ cls := .type "list", data := .seq us.toArray }, if_pos rfl⟩)) (fun b u z => ?_) (fun b z => ?_) (fun _ => hk)
    · rcases Decidable.em (b = a) with e | e
      · exact Or.inr ⟨_, _, if_pos e⟩
      · exact Or.inl (if_neg e)
    · rcases Decidable.em (b = a) with e | e
      · cases (if_pos e).symm.trans z
        cases e
        exact ⟨ho, by rw [List.length_map]; exact hz, us, _, rv, ho⟩
      · cases (if_neg e).symm.trans z
    · rcases Decidable.em (b = a) with e | e
      · exact e
      · exact absurd (if_neg e) z
theorem walkG {l : PySem.W.OpenLaw} {n k : Nat} {q : Program} {loose : List Str} {XP : (Str → Option Value) → Heap → Prop} {YP : World → Heap → Prop} {d : DefRec} {K : Params → PySem.W.Frag} {CX : World → CXT} {sp : World → Sp} {x : Str}
    (hn : l.most = some n) (h2 : n ≤ sizeLine) (hd : d.params.defaults = []) (hr : Room k callerA) (hY : ∀ (w : World) (h : Heap), YP w h → (K w.params).In h)
    (F : ∀ (w : World) (mg : Str → Option Value) (fa : Addr) (h : Heap), (K w.params).In h → h.Ns mainGlobals mg → mg d.name = some (.ref fa) →
      ∃ fd : FuncData, (∀ (s : Shared) (u : Value), BindsTo s fd ⟨[u], []⟩ [(x, u)]) ∧ ∀ b : Heap, (K w.params).In b → b.Ns mainGlobals mg → FnG l.prog w (K w.params) mg b (CX w) k fa fd [x] (sp w))
    (hs : ∀ (w : World) (H : Hp) (a : Addr) (ns : List Int), ns.length ≤ n → Only H → SqL (K w.params) H a (ns.map V.int) → sp w [.ref a] H (fun v _ => v = .bl true) fun _ _ _ => False)
    (hC : ∀ (w : World) (H : Hp) (s : Shared) (e : Value) (s2 : Shared), CX w [] H s (fun _ _ _ => False) e s2 → False) : PySem.W.WalkO q loose XP YP l.row.toRowW d [] (fun f vs => PySem.call f vs) := by
  refine Att.attach_call hn hd fun w s0 s1 mg mb fa o pm cd doc a vs ns G Y h1 h3 h4 hm hobj hints hlen hg => ?_
  obtain ⟨fd, hb, hF⟩ := F w mg fa _ (hY w _ Y) G.T.g hm
  exact headG (hY w _ Y) G.T.g G.T.b G.T.builtins G.T.nolimit hg hobj hints (Nat.le_trans hlen h2) hr hF hb (fun H hO hS => hs w H a ns hlen hO hS) (fun H e s2 => hC w H s1 e s2)
end K6

/-! text EV -/
set_option Elab.async false
set_option linter.all false
set_option maxRecDepth 100000
set_option maxHeartbeats 4000000
namespace K6
open PySem PySem.Spec PyProof.Rows L2
/-! ### an exception that was caught and is kept in a name behind its suite -/
def ExV (cls : Value) (d : Option Addr) (a : Addr) : HO := .ext fun h => ∃ (oe : Obj) (vs : Array Value), h.get? a = some oe ∧ Zc cls d oe ∧ oe.data = .fields vs
theorem exV_ok {P : Program} {w : World} {H : Hp} {h : Heap} {a : Addr} {cls : Value} {d : Option Addr} {oe : Obj} {vs : Array Value} (e : h.get? a = some oe) (z : Zc cls d oe) (f : oe.data = .fields vs) : ObjOk P w H h a (ExV cls d a) := ⟨⟨oe, vs, e, z, f⟩, ⟨oe, e⟩, fun _ _ ⟨o, v, q, r⟩ k => ⟨o, v, k o q, r⟩⟩
section
variable {X : Cx} {pins : List (Addr × Obj)} {σ : L2.St} {H : Hp} {s : Shared} {a : Addr} {oe : Obj} {vs : Array Value} {cls : Value} {d : Option Addr}
theorem track (I : Inv X ((a, oe) :: pins) σ H s) (n0 : X.s_0.heap.get? a = none) (z : Zc cls d oe) (f : oe.data = .fields vs) (ap : ∀ p ∈ X.pn ++ pins, p.1 ≠ a) : Inv X pins σ (upd H a (ExV cls d a)) s := by
  obtain ⟨ga, na, nl, nf, nc⟩ := I.pin (a, oe) (List.mem_append_right _ List.mem_cons_self)
  have ne0 : ∀ {b o}, X.s_0.heap.get? b = some o → b ≠ a := fun {b o} e q => by
    subst q
    rw [n0] at e
    cases e
  have neS : ∀ {b u}, H b = some u → b ≠ a := fun {b u} e q => by
    subst q
    rw [na] at e
    cases e
  refine { ok := I.ok, os := I.os, bare := I.bare, base := ⟨I.base.keep, I.base.slot, fun b o e n x => ?_, I.base.there, fun b xs e => ?_, fun b o u e => ?_, fun b ps e => ?_⟩, loc := I.loc, cell := I.cell, free := ?_, freeC := fun x c e => ?_, pin := fun p hp => ?_, hok := fun b u e => ?_, len := I.len }
  · rw [upd_ne (ne0 e)]
    exact I.base.free b o e n x
  · have q := I.base.tups b xs e
    rw [upd_ne (neS q)]
    exact q
  · have q := I.base.frzs b o u e
    rw [upd_ne (neS q)]
    exact q
  · obtain ⟨m, q⟩ := I.base.tbls b ps e
    exact ⟨m, by rw [upd_ne (neS q)]; exact q⟩
  · rw [upd_ne (Ne.symm nl)]
    exact I.free
  · obtain ⟨v, oc, hc, hv⟩ := I.cell x c e
    have q : c ≠ a := fun q => by
      subst q
      rw [ga] at hc
      cases hc
      exact nc _ hv
    rw [upd_ne q]
    exact I.freeC x c e
  · have hp2 : p ∈ X.pn ++ ((a, oe) :: pins) := by
      rcases List.mem_append.mp hp with q | q
      · exact List.mem_append_left _ q
      · exact List.mem_append_right _ (List.mem_cons_of_mem _ q)
    obtain ⟨g1, g2, g3⟩ := I.pin p hp2
    exact ⟨g1, by rw [upd_ne (ap p hp)]; exact g2, g3⟩
  · by_cases q : b = a
    · subst q
      rw [upd_same] at e
      cases e
      exact exV_ok ga z f
    · rw [upd_ne q] at e
      exact (I.hok b u e).stay (fun _ _ _ r => r) (fun c r => by rw [upd_ne (neS r)]; exact r) (fun c xs r => by rw [upd_ne (neS r)]; exact r)
end
/-! ### try: .. except x as n: .., the exception kept -/
/-- what the clause wishes of an exception of the body: behind the suite its object is told of -/
def wKeep (K : PySem.W.Frag) (c : Value) (i : Nat) (ts : Addr → Value → Option Addr → TS) (Wo : WX) (D : Ends) : WX := fun cls d σ H => ∃ b, PySem.W.exmOne K cls c = some b ∧ (b = false → Wo cls d σ H) ∧
  (b = true → ∀ a, H a = none → ts a cls d { nx := fun τ G => D.nx (τ.set i none) (upd G a (ExV cls d a)), rt := fun _ _ => False, bk := fun _ _ => False, ct := fun _ _ => False } (σ.set i (some (.ref a))) H)
section
variable {X : Cx} {x n : Str} {c : Value} {i : Nat} {body suite : List Stmt} {b0 : Stmt} {np pos pos2 : Pos} {tb : WX → TS} {ts : Addr → Value → Option Addr → TS} {Wo : WX}
theorem ps_try_keep (hs : X.stack = X.env :: X.outer) (hf : X.env.frame = some X.env.locals) (nd : X.N.Nodup) (hi : X.N[i]? = some n) (hl : X.env.kindOf n = some .local) (hc : Names X x c) (tk : Takes X Wo) (hx : X.ex = [])
    (hb : ∀ (W : WX) (pn : List (Addr × Obj)) (xe : Value → Shared → Prop), Takes (X.tr pn xe) W → PassesOwn (model X.prog X.w) X.A X.env xe → PSs (X.tr pn xe) body (tb W))
    (hu : ∀ (a : Addr) (oe : Obj) (cls : Value) (d : Option Addr) (pn : List (Addr × Obj)), Zc cls d oe → (∃ vs, oe.data = .fields vs) → PSs (X.suite a ((a, oe) :: pn)) (b0 :: suite) (ts a cls d)) :
    PS X (.Try body [.ExceptHandler (some (.Name x np)) (some n) (b0 :: suite) pos2] [] [] pos) (fun D σ H => tb (wKeep X.K c i ts Wo D) D σ H) := by
  constructor
  intro pins s σ H D I h
  have ok := I.ok
  have fr : X.A.frames = some (X.env :: X.outer) := by
    rw [ok.frames, hs]
  refine wpAny_Try_except (wpAny_mono ((hb (wKeep X.K c i ts Wo D) (X.pn ++ pins) (fun e s1 => wpAny (model X.prog X.w) X.A (noteFrame e X.env) (fun _ s2 => wpAny (model X.prog X.w) X.A (setFlight e none) (fun _ s3 => wpAny (model X.prog X.w) X.A (handleBy e X.env [.ExceptHandler (some (.Name x np)) (some n) (b0 :: suite) pos2]) (SP X pins D) X.xe s3) X.xe s2) X.xe s1) (fun u s1 xx => ?_) PassesOwn.looking).run [] s σ H D (I.toTry _) h) (fun fl s1 sp => ?_) (fun _ _ z => z))
  · obtain ⟨a, B, sI, pn2, τ, G, cls, d, eu, J0, nb, up, sky, na, os, ag, b, hb1, no, yes⟩ := xx
    subst eu
    have J : Inv X pins τ G sI := J0.ofTry ok
    rw [hs] at sky
    show wpAny (model X.prog X.w) X.A (noteFrame (.ref a) X.env) _ _ _
    refine Sky.land Zc.steady fr hf sky (fun h3 f3 up3 => ?_)
    have J3 : Inv X pins τ G { s1 with heap := h3 } := J.landed nb f3.1 (up.trans up3) os ag
    obtain ⟨o3, v3, e3, z3, d3⟩ := f3.there
    have off : a ∉ frs (X.env :: X.outer) := fun hm => by
      obtain ⟨_, o2, e2, h2⟩ := f3.2.2.1.mem hm
      rw [e3] at e2
      cases e2
      exact h2 _ d3
    have nL : a ≠ X.env.locals := fun z => off (List.mem_filterMap.mpr ⟨X.env, List.mem_cons_self, by rw [hf, z]⟩)
    have nF : a ∉ X.fs := fun hm => by
      obtain ⟨en, he, q⟩ := List.mem_filterMap.mp hm
      exact off (List.mem_filterMap.mpr ⟨en, List.mem_cons_of_mem _ he, q⟩)
    -- the exception is new
    have gB : ∀ {b2 : Addr} {o : Obj}, sI.heap.get? b2 = some o → b2 ∉ frs (X.env :: X.outer) → b2 ≠ a := fun {b2 o} e hm q => by
      subst q
      have z := nb _ _ e (by rw [hs]; exact hm)
      rw [f3.2.1] at z
      cases z
    have n0 : X.s_0.heap.get? a = none := by
      cases q : X.s_0.heap.get? a with
      | none => rfl
      | some o =>
        obtain ⟨o2, q2⟩ := J.base.there a o q (by rw [hx]; exact fun z => nomatch z)
        exact absurd rfl (gB q2 off)
    have ap : ∀ p ∈ X.pn ++ pins, p.1 ≠ a := fun p hp => by
      obtain ⟨g1, _, g3, g4, _⟩ := J.pin p hp
      refine gB g1 fun hm => ?_
      obtain ⟨en, he, q⟩ := List.mem_filterMap.mp hm
      rcases List.mem_cons.mp he with r | r
      · subst r
        rw [hf] at q
        injection q with q
        exact g3 q.symm
      · exact g4 (List.mem_filterMap.mpr ⟨en, r, q⟩)
    have S3 := J3.suite e3 d3 na nL nF
    refine wpAny_handleBy_cons (codeAny_handlers_test ?_) (by intro q; cases q)
    have lt : PySem.W.Looks (model X.prog X.w) h3 (typeOf (.ref a)) cls := fun A Q E s k q => wpAny_typeOf_ref (k _ _ e3) (by rw [z3.1]; exact q)
    have lm := PySem.W.exm_one (M := model X.prog X.w) J3.kIn lt hb1
    have ask : ∀ {Q : Value → Shared → Prop} {E : Value → Shared → Prop}, Q c { s1 with heap := h3 } → wpAny (model X.prog X.w) (X.A.mark (some (.ref a))) (eval (.Name x np) X.env) Q E { s1 with heap := h3 } := fun {Q E} q => by
      obtain ⟨hg, hdb, hm | ⟨hm, hv, hn⟩⟩ := hc
      · exact ld_glob (X := X.suite a ((a, o3) :: (X.pn ++ pins))) S3 hg hm q hdb
      · exact ld_blt (X := X.suite a ((a, o3) :: (X.pn ++ pins))) S3 hg hm hv q hn hdb
    refine ask (lm.here ?_)
    match b, no, yes with
    | true, _, yes =>
      refine codeAny_handlers_suite_as (HandSPX.lands_againZ f3 (fun h4 f4 up4 => ?_))
      have J4 : Inv X pins τ G { s1 with heap := h4 } := J.landed nb f4.1 ((up.trans up3).trans up4) os ag
      obtain ⟨o4, v4, e4, z4, d4⟩ := f4.there
      refine store_ok (X := X.suite a ((a, o4) :: (X.pn ++ pins))) (v := .ref a) (J4.suite e4 d4 na nL nF) nd hi (.inl hl) rfl (fun s5 S5 => ?_) (.inr hl)
      refine wpAny_mono ((hu a o4 cls d (X.pn ++ pins) z4 ⟨_, d4⟩).run [] s5 _ G _ S5 (yes rfl a na)) (fun fl s6 sp => ?_) (fun _ _ z => z.elim)
      match fl, sp with
      | .next, ⟨τ6, G6, S6, q6⟩ =>
        have J6 : Inv X ((a, o4) :: pins) τ6 G6 s6 := ⟨ok, S6.os, S6.bare, S6.base, S6.loc, S6.cell, S6.free, S6.freeC, fun p hp => S6.pin p (by
          refine List.mem_append_left _ ?_
          rcases List.mem_append.mp hp with q | q
          · exact List.mem_cons_of_mem _ (List.mem_append_left _ q)
          · rcases List.mem_cons.mp q with q | q
            · rw [q]
              exact List.mem_cons_self
            · exact List.mem_cons_of_mem _ (List.mem_append_right _ q)), S6.hok, S6.len⟩
        exact gone_ok J6 nd hi hl fun s7 J7 => ⟨_, _, track J7 n0 z4 d4 ap, q6⟩
      | .brk, ⟨_, _, _, q6⟩ => exact q6.elim
      | .cont, ⟨_, _, _, q6⟩ => exact q6.elim
      | .ret _, ⟨_, _, _, _, _, q6⟩ => exact q6.elim
    | false, no, _ =>
      show wpAny _ X.A (handleBy (.ref a) X.env []) _ _ _
      refine wpAny_handleBy_nil ?_
      obtain ⟨_, _, _, oe, vs, T, oT, tv, he, hz, hd, h1, hr⟩ := id f3
      unfold PySem.passOn
      refine wpAny_bind (wpAny_field he hd h1 ?_)
      have ht : ¬ ((Value.ref T == Value.none) = true) := by simp
      rw [if_neg ht]
      have last : wpAny (model X.prog X.w) X.A (setFlight (.ref a) X.env.frame) (fun _ s4 => wpAny (model X.prog X.w) X.A (throw (.ref a) : Sem Flow) (SP X pins D) X.xe s4) X.xe { s1 with heap := h3 } := by
        rw [hf]
        refine HandSPX.setFlight_upZ f3 (fun h4 g4 up4 => wpAny_throw (tk _ _ ⟨a, B, sI, pins, τ, G, cls, d, rfl, J, nb, (up.trans up3).trans up4, ?_, na, os, ag, no rfl⟩))
        rw [hs]
        exact .inr (.inr g4)
      first
        | exact wpAny_bind (wpAny_pure (wpAny_bind last))
        | exact wpAny_bind last
  · match fl, sp with
    | .next, ⟨τ, G, J, q⟩ => exact wpAny_execs_nil ⟨τ, G, J.ofTry ok, q⟩
    | .brk, ⟨τ, G, J, q⟩ => exact ⟨τ, G, J.ofTry ok, q⟩
    | .cont, ⟨τ, G, J, q⟩ => exact ⟨τ, G, J.ofTry ok, q⟩
    | .ret u, ⟨v, τ, G, J, r, q⟩ => exact ⟨v, τ, G, J.ofTry ok, r, q⟩
/-! ### isinstance and a field of a kept exception -/
structure IsD2 (K : PySem.W.Frag) (C : Addr) : Prop where
  cl : (PySem.W.clsIn K C).isSome = true
  hg : PySem.W.findIn K (.ref C) "__getattribute__" = some (some (.builtin "BaseException.__getattribute__"))
  gt : ∃ gt, PySem.W.findIn K (.ref C) "__getattr__" = some gt
  sb : PySem.W.subIn K (.ref C) (.type "BaseException") = some true
  ac : PySem.W.findIn K (.ref C) "__class__" = some (some (.builtin "object.__class__"))
  sg : PySem.W.specialIn K (.builtin "object.__class__") "__get__" = some (some (.builtin "getset_descriptor.__get__"))
  tk : PySem.W.takesIn K (.builtin "object.__class__") = some true
  mo : PySem.W.mroIn K C (.type "object") = some true
def rIsV (K : PySem.W.Frag) : List V → Hp → VK → Prop := fun xs H Q => ∃ (C a dd : Addr) (f : Str) (v c : V) (u : Value) (b : Bool), xs = [.ref a, c] ∧ IsD2 K C ∧ H a = some (ExV (.ref C) (some dd) a) ∧ H dd = some (.xd [(f, v)]) ∧ (∀ y, RelV c y → y = u) ∧ PySem.W.kitOne K (.ref C) u = some b ∧ Q (.bl b) H
theorem call_isV : CallR X (.builtin "isinstance") (rIsV X.K) := by
  intro pins s σ H xs us Q I r h
  obtain ⟨C, a, dd, f, v, c, u, b, rfl, D, ha, hd, hu, ek, q⟩ := h
  obtain ⟨u1, u2, rfl, rx, ry⟩ := vals2 r
  cases (show u1 = Value.ref a from rx)
  cases hu _ ry
  obtain ⟨⟨oe, vs, ga, hz, hv⟩, _⟩ := (show ObjOk X.prog X.w H s.heap a (ExV (.ref C) (some dd) a) from I.hok a _ ha)
  obtain ⟨mA, hns, _⟩ := (show ObjOk X.prog X.w H s.heap dd (.xd [(f, v)]) from I.hok dd _ hd)
  obtain ⟨od, ho, _⟩ := lookIn_ns hns
  have J : PySem.W.InstAt s.heap a oe C (some od) := ⟨ga, hz.1, by unfold PySem.W.notCls; rw [hv] <;> rfl, by rw [hz.2]; exact ho⟩
  obtain ⟨gt, hgt⟩ := D.gt
  exact PySem.W.kia_one (PySem.W.kitx_exc (od := some od) D.cl D.hg hgt D.sb D.ac D.sg D.tk D.mo) I.kIn J ek (fun z => nomatch z) fun tk => ⟨.bl b, H, I.tok tk, rfl, q⟩
/-- e.f, e a kept exception -/
def tFldV (K : PySem.W.Frag) (n : Str) (te : TE) : TE := fun σ H Q => te σ H fun y G => ∃ (C a dd : Addr) (fs : List (Str × V)) (v : V), y = .ref a ∧ XfC K C ∧ PySem.W.findIn K (.ref C) n = some none ∧ G a = some (ExV (.ref C) (some dd) a) ∧ G dd = some (.xd fs) ∧ fs.lookup n = some v ∧ Q v G
theorem pe_fldV {e : Expr} {te : TE} {fp : Pos} {f : Str} (he : PE X e te) (hb : attributeBase e f X.env (eval e X.env) = eval e X.env := by rfl) : PE X (.Attribute e f fp) (tFldV X.K f te) := by
  constructor
  intro pins s σ H Q I h
  refine attr_of hb (thn (he.run pins s σ H _ I h) fun u s1 hh => ?_)
  obtain ⟨y, G, I1, ry, C, a, dd, fs, v, ey, T, no, ga, gd, gl, q⟩ := hh
  subst ey
  cases (show u = Value.ref a from ry)
  obtain ⟨⟨oe, vs, ge, hz, hv⟩, _⟩ := (show ObjOk X.prog X.w G s1.heap a (ExV (.ref C) (some dd) a) from I1.hok a _ ga)
  obtain ⟨mA, hns, hr⟩ := (show ObjOk X.prog X.w G s1.heap dd (.xd fs) from I1.hok dd _ gd)
  obtain ⟨od, ho, ol⟩ := lookIn_ns hns
  obtain ⟨u2, hu, ru⟩ := RelO.some_of (v := v) (o := mA f) (by rw [← gl]; exact hr f)
  have J : PySem.W.InstAt s1.heap a oe C (some od) := ⟨ge, hz.1, by unfold PySem.W.notCls; rw [hv] <;> rfl, by rw [hz.2]; exact ho⟩
  exact HandSPX.exc_get I1.kIn J T.ga T.gg T.exC (PySem.W.findObj_own T.hdC no rfl (by rw [ol, hu])) (handed_of ru) ⟨v, G, I1.tok _, ru, q⟩
end
end K6

/-! text EN -/
set_option Elab.async false
set_option linter.all false
set_option maxRecDepth 100000
set_option maxHeartbeats 1000000
namespace K6
open PySem PySem.Spec PyProof.Rows L2
/-! ### enumerate(.., start=n) of a list, a tuple -/
theorem callWith_typeKw {M : Model} {A : Around} {E : Value → Shared → Prop} {s : Shared} {env : Env} {pos : Pos} {T : String} {e : Expr} {rest : List Expr} {kws : List Keyword} {Q : Value → Shared → Prop}
    (h : wpAny M A (spliced (backTo pos (starEach (e :: rest) env))) (fun vs s₁ => wpAny M A (evalAll ((backToKw pos (keywordEach kws env)).map (·.2)))
      (fun kvs s₂ => wpAny M A (call (.type T) vs (((backToKw pos (keywordEach kws env)).filterMap (·.1)).zip kvs)) Q E s₂) E s₁) E s)
    (he : backTo pos (starEach (e :: rest) env) = (false, eval e env) :: backTo pos (starEach rest env) := by rfl)
    (hplain : (backTo pos (starEach (e :: rest) env)).any (·.1) = false := by rfl)
    (hall : (backToKw pos (keywordEach kws env)).all (·.1.isSome) = true := by rfl)
    (hkw : (backToKw pos (keywordEach kws env)).any (·.1.isNone) = false := by rfl) :
    wpAny M A (callWith pos (.type T) [] (backTo pos (starEach (e :: rest) env)) (backToKw pos (keywordEach kws env))) Q E s := by
  have h2 : wpAny M A (evalArgs (.type T) true (backTo pos (starEach (e :: rest) env)) (backToKw pos (keywordEach kws env))) (fun a s₁ => wpAny M A (call (.type T) a.pos a.kw) Q E s₁) E s := by
    rw [he] at h ⊢
    exact evalArgs_kwB hall h
  unfold callWith
  refine wpAny_bind (wpAny_holding (wpAny_mono h2 (fun a s₁ h₁ => wpAny_bind (wpAny_standAt ?_)) fun _ _ x => x))
  simp only [hplain, hkw, Bool.or_false]
  refine wpAny_bind (wpAny_pure ?_)
  exact wpAny_bind (wpAny_mono h₁ (fun r s₂ hr => wpAny_bind (wpAny_holding (wpAny_point (wpAny_pure hr)))) fun _ _ x => x)

/-- the list at a, each item in a new pair with its number from k on -/
def IteL (K : PySem.W.Frag) (k : Nat) (a : Addr) : It :=
  ⟨fun i H => ∃ (xs : List V) (x : V), SqL K H a xs ∧ xs[i]? = some x, fun i H v H' => ∃ T x, v = .ref T ∧ H T = none ∧ H' = upd H T (.tup [.int ((i + k : Nat)), x]) ∧ ∀ xs, SqL K H a xs → xs[i]? = some x, fun i H => ∃ xs : List V, SqL K H a xs ∧ xs.length = i⟩
theorem turn_enumL {P : Program} {w : World} {K : PySem.W.Frag} {elts : List Expr} {kk : Nat} {tpos : Pos} (k : Nat) (a e it : Addr) :
    Turn P w K (.Tuple elts kk tpos) (IteL K k a) [e, it] e (fun i h => (∃ old, IsEnum h e it ((i + k : Nat) : Int) old) ∧ h.IsListIter it a i ∧ e ≠ it) where
  mem := by simp
  obj := fun i h st b hb => by
    obtain ⟨⟨old, he⟩, ⟨o, ho, hc, hd⟩, _⟩ := st
    have e' : b = e ∨ b = it := by simpa using hb
    rcases e' with z | z
    · rw [z]; exact ⟨_, he, fun v q => nomatch q⟩
    · rw [z]; exact ⟨o, ho, fun v q => by rw [hd] at q; cases q⟩
  keep := fun i h h' st k => let ⟨⟨old, he⟩, hi, hne⟩ := st; ⟨⟨old, k e (by simp) _ he⟩, hi.at fun o q => k it (by simp) o q, hne⟩
  item := by
    intro X hP hw hK hc i pins s σ H E I hf st hg
    subst hP hw hK
    obtain ⟨⟨old, he⟩, hit, hne⟩ := st
    obtain ⟨xs, x, hq, hx⟩ := hg
    obtain ⟨its, rv, p, hz⟩ := I.list hq
    obtain ⟨u, hu, ru⟩ := rv.get hx
    have hel : e < s.heap.objs.size := Heap.lt_size he
    have hil : it < s.heap.objs.size := by obtain ⟨_, q, _⟩ := hit; exact Heap.lt_size q
    have hli : a ≠ it := fun z => by
      obtain ⟨o2, g2, _, d2⟩ := hit
      obtain ⟨o3, n3, e2, _, _, dd⟩ := p
      rw [z, g2] at e2
      cases e2
      rw [d2] at dd
      cases dd
    have hae : e ≠ a := fun z => by
      obtain ⟨o3, n3, e2, _, _, dd⟩ := p
      rw [← z, he] at e2
      cases e2
      cases dd
    have D := Draws.list (prog := X.prog) (w := X.w) (A := X.A.in1) (I.ok.hd hc) it a hli its.toArray
    have hlt : i < its.toArray.size := by
      have z := rv.length
      have z2 := (List.getElem?_eq_some_iff.mp hx).1
      simp only [List.size_toArray]
      omega
    refine wpAny_pyNext_enum_itemC D he ⟨hit, p.isList⟩ hlt hne (by simp [hne, hae]) fun x2 h' tk hx2 ho hst' hT hsz hk => ?_
    have ex2 : x2 = u := by
      have z : its[i]? = some x2 := by simpa using hx2
      rw [hu] at z
      exact (Option.some.inj z).symm
    subst ex2
    refine ⟨_, rfl, wpAny_letOwnedTupleGo_enum (s := { s with heap := h', toks := tk + 1 }) ho fun h'' he' sb => ?_⟩
    have hT2 : h''.get? s.heap.objs.size = some { cls := .type "tuple", data := .seq #[.int ((i + k : Nat) : Int) tk, x2] } := (sb.2 _ (Nat.ne_of_gt hel)).trans hT
    have new : ObjOk X.prog X.w (upd H s.heap.objs.size (.tup [.int (i + k : Nat), x])) h'' s.heap.objs.size (.tup [.int (i + k : Nat), x]) :=
      ⟨by show 2 ≤ sizeLine; decide, [.int ((i + k : Nat) : Int) tk, x2], .cons ⟨_, rfl⟩ (.cons ru .nil), ⟨_, hT2, rfl, _, rfl⟩⟩
    have I1 : Inv X pins σ (upd H s.heap.objs.size (.tup [.int (i + k : Nat), x])) { s with heap := h'', toks := tk + 1 } :=
      I.turnedNew (ch := [e, it]) (fun b ob hb q => (sb.2 b (fun z => hb (by simp [z]))).trans (hk b ob (fun z => hb (by simp [z])) (fun z => hb (by simp [z])) q)) hf (Nat.le_refl _) new
    refine ⟨.ref s.heap.objs.size, _, I1, rfl, ⟨_, x, rfl, I.hok.fresh (Nat.le_refl _), rfl, fun ys hy => by rw [I.list_inj hy hq]; exact hx⟩, ⟨⟨x2, ?_⟩, hst'.1.at fun o q => (sb.2 it (Ne.symm hne)).trans q, hne⟩, fun b hb => ?_⟩
    · have e1 : ((i + 1 + k : Nat) : Int) = ((i + k : Nat) : Int) + 1 := by omega
      rw [e1]; exact he'
    · have hb' : b < s.heap.objs.size := by
        have e' : b = e ∨ b = it := by simpa using hb
        rcases e' with z | z
        · rw [z]; exact hel
        · rw [z]; exact hil
      rw [upd_ne (Nat.ne_of_lt hb')]
      exact (hf b hb).1
  done := by
    intro X hP hw hK hc i pins s σ H E I hf st hg
    subst hP hw hK
    obtain ⟨⟨old, he⟩, hit, hne⟩ := st
    obtain ⟨xs, hq, hx⟩ := hg
    obtain ⟨its, rv, p, hz⟩ := I.list hq
    obtain ⟨f0, f1, f2, f3, f4, f5⟩ := hf it (by simp)
    have hl := rv.length
    have hli : a ≠ it := fun z => by
      obtain ⟨o2, g2, _, d2⟩ := hit
      obtain ⟨o3, n3, e2, _, _, dd⟩ := p
      rw [z, g2] at e2
      cases e2
      rw [d2] at dd
      cases dd
    exact wpAny_pyNext_enum_endD (Draws.list (prog := X.prog) (w := X.w) (A := X.A.in1) (I.ok.hd hc) it a hli its.toArray) he ⟨(by rw [show its.toArray.size = i from by rw [List.size_toArray]; omega]; exact hit), p.isList⟩ fun h' eb => ⟨rfl, I.turned (t' := s.toks) (fun b o hb q => eb b o hb q) f0 f1 f3 f4 f5⟩
  self := fun A i s Q E st h => let ⟨⟨_, he⟩, _⟩ := st; wpAny_pyIter_enum he h
def iEnumL (K : PySem.W.Frag) (k : Nat) (ta : TA) : TI := fun σ H R => ta σ H fun vs H1 => ∃ a xs, vs = [.ref a] ∧ SqL K H1 a xs ∧ R (IteL K k a) H1
theorem pi_enumL {X : Cx} {e : Expr} {ta : TA} {p pos tpos cpos kpos : Pos} {elts : List Expr} {kk j : Nat} {k : Nat} (hk : k < 1000) (hg : Gl X "enumerate") (hm : X.mg "enumerate" = none) (ha : PA X [e] ta) (hs : backTo pos (starEach [e] X.env) = (false, eval e X.env) :: backTo pos (starEach [] X.env) := by rfl)
    (hp : (backTo pos (starEach [e] X.env)).any (·.1) = false := by rfl) :
    PI X (.Tuple elts kk tpos) (.Call (.Name "enumerate" p) [e] [⟨some "start", .Constant (.int (k : Int)) j cpos, kpos⟩] pos) (iEnumL X.K k ta) := by
  refine ⟨fun pins s σ H R I h => ?_⟩
  refine wpAny_Call_Name_kw (ld_blt I hg hm boot_enumerate ?_)
  refine callWith_typeKw (thn (ha.run pos pins s σ H _ I h) fun us s1 ⟨vs, H1, I1, r1, q1⟩ => ?_) hs hp
  obtain ⟨a, xs, ex, hq, q⟩ := q1
  subst ex
  cases r1 with
  | cons r rr =>
    cases rr
    cases r
    have pk : PK X [⟨some "start", .Constant (.int (k : Int)) j cpos, kpos⟩] (tCons (tC (.int (k : Int))) tNil) := pk_cons pe_int pk_nil
    refine thn (pk.run pos pins s1 σ H1 (fun vs H2 => vs = [V.int (k : Int)] ∧ H1 = H2) I1 ⟨rfl, rfl⟩) fun ws s2 ⟨zs, H2, I2, rz, ez, eH⟩ => ?_
    subst ez eH
    cases rz with
    | cons rz rn =>
      cases rn
      obtain ⟨t, et⟩ := rz
      subst et
      obtain ⟨its, rv, p', hz⟩ := I2.list hq
      refine enum_begins_start (begins_list a its.toArray) p'.isList (by omega) (by omega) fun h' he hit hsz hk => wpAny_pyIter_enum he ?_
      have I3 : Inv X pins σ H1 { s2 with heap := h' } := I2.kept (t' := s2.toks) hk
      refine ⟨s2.heap.objs.size + 1, [s2.heap.objs.size + 1, s2.heap.objs.size], _, _, H1, rfl, I3, turn_enumL k a (s2.heap.objs.size + 1) s2.heap.objs.size, ⟨⟨.none, (by rw [Nat.zero_add]; exact he)⟩, ⟨_, hit, rfl, rfl⟩, Nat.succ_ne_self _⟩, fun b hb => ?_, q⟩
      have e' : b = s2.heap.objs.size + 1 ∨ b = s2.heap.objs.size := by simpa using hb
      have hle : s2.heap.objs.size ≤ b := by
        rcases e' with z | z
        · rw [z]; exact Nat.le_add_right _ _
        · rw [z]; exact Nat.le_refl _
      exact I2.fpOk hle (I2.hok.fresh hle)

/-- the tuple at a, each item in a new pair with its number from k on -/
def IteT (K : PySem.W.Frag) (k : Nat) (a : Addr) : It :=
  ⟨fun i H => ∃ (xs : List V) (x : V), SqT K H a xs ∧ xs[i]? = some x, fun i H v H' => ∃ T x, v = .ref T ∧ H T = none ∧ H' = upd H T (.tup [.int ((i + k : Nat)), x]) ∧ ∀ xs, SqT K H a xs → xs[i]? = some x, fun i H => ∃ xs : List V, SqT K H a xs ∧ xs.length = i⟩
theorem turn_enumT {P : Program} {w : World} {K : PySem.W.Frag} {elts : List Expr} {kk : Nat} {tpos : Pos} (k : Nat) (a e it : Addr) :
    Turn P w K (.Tuple elts kk tpos) (IteT K k a) [e, it] e (fun i h => (∃ old, IsEnum h e it ((i + k : Nat) : Int) old) ∧ h.IsTupleIter it a i ∧ e ≠ it) where
  mem := by simp
  obj := fun i h st b hb => by
    obtain ⟨⟨old, he⟩, ⟨o, ho, hc, hd⟩, _⟩ := st
    have e' : b = e ∨ b = it := by simpa using hb
    rcases e' with z | z
    · rw [z]; exact ⟨_, he, fun v q => nomatch q⟩
    · rw [z]; exact ⟨o, ho, fun v q => by rw [hd] at q; cases q⟩
  keep := fun i h h' st k => let ⟨⟨old, he⟩, hi, hne⟩ := st; ⟨⟨old, k e (by simp) _ he⟩, hi.at fun o q => k it (by simp) o q, hne⟩
  item := by
    intro X hP hw hK hc i pins s σ H E I hf st hg
    subst hP hw hK
    obtain ⟨⟨old, he⟩, hit, hne⟩ := st
    obtain ⟨xs, x, hq, hx⟩ := hg
    obtain ⟨its, rv, p, hz⟩ := I.tuple hq
    obtain ⟨u, hu, ru⟩ := rv.get hx
    have hel : e < s.heap.objs.size := Heap.lt_size he
    have hil : it < s.heap.objs.size := by obtain ⟨_, q, _⟩ := hit; exact Heap.lt_size q
    have hli : a ≠ it := fun z => by
      obtain ⟨o2, g2, _, d2⟩ := hit
      obtain ⟨o3, e2, _, n3, dd⟩ := p
      rw [z, g2] at e2
      cases e2
      rw [d2] at dd
      cases dd
    have hae : e ≠ a := fun z => by
      obtain ⟨o3, e2, _, n3, dd⟩ := p
      rw [← z, he] at e2
      cases e2
      cases dd
    have D := Draws.tuple (prog := X.prog) (w := X.w) (A := X.A.in1) (I.ok.hd hc) it a hli its.toArray
    have hlt : i < its.toArray.size := by
      have z := rv.length
      have z2 := (List.getElem?_eq_some_iff.mp hx).1
      simp only [List.size_toArray]
      omega
    refine wpAny_pyNext_enum_itemC D he ⟨hit, p⟩ hlt hne (by simp [hne, hae]) fun x2 h' tk hx2 ho hst' hT hsz hk => ?_
    have ex2 : x2 = u := by
      have z : its[i]? = some x2 := by simpa using hx2
      rw [hu] at z
      exact (Option.some.inj z).symm
    subst ex2
    refine ⟨_, rfl, wpAny_letOwnedTupleGo_enum (s := { s with heap := h', toks := tk + 1 }) ho fun h'' he' sb => ?_⟩
    have hT2 : h''.get? s.heap.objs.size = some { cls := .type "tuple", data := .seq #[.int ((i + k : Nat) : Int) tk, x2] } := (sb.2 _ (Nat.ne_of_gt hel)).trans hT
    have new : ObjOk X.prog X.w (upd H s.heap.objs.size (.tup [.int (i + k : Nat), x])) h'' s.heap.objs.size (.tup [.int (i + k : Nat), x]) :=
      ⟨by show 2 ≤ sizeLine; decide, [.int ((i + k : Nat) : Int) tk, x2], .cons ⟨_, rfl⟩ (.cons ru .nil), ⟨_, hT2, rfl, _, rfl⟩⟩
    have I1 : Inv X pins σ (upd H s.heap.objs.size (.tup [.int (i + k : Nat), x])) { s with heap := h'', toks := tk + 1 } :=
      I.turnedNew (ch := [e, it]) (fun b ob hb q => (sb.2 b (fun z => hb (by simp [z]))).trans (hk b ob (fun z => hb (by simp [z])) (fun z => hb (by simp [z])) q)) hf (Nat.le_refl _) new
    refine ⟨.ref s.heap.objs.size, _, I1, rfl, ⟨_, x, rfl, I.hok.fresh (Nat.le_refl _), rfl, fun ys hy => by rw [I.tuple_inj hy hq]; exact hx⟩, ⟨⟨x2, ?_⟩, hst'.1.at fun o q => (sb.2 it (Ne.symm hne)).trans q, hne⟩, fun b hb => ?_⟩
    · have e1 : ((i + 1 + k : Nat) : Int) = ((i + k : Nat) : Int) + 1 := by omega
      rw [e1]; exact he'
    · have hb' : b < s.heap.objs.size := by
        have e' : b = e ∨ b = it := by simpa using hb
        rcases e' with z | z
        · rw [z]; exact hel
        · rw [z]; exact hil
      rw [upd_ne (Nat.ne_of_lt hb')]
      exact (hf b hb).1
  done := by
    intro X hP hw hK hc i pins s σ H E I hf st hg
    subst hP hw hK
    obtain ⟨⟨old, he⟩, hit, hne⟩ := st
    obtain ⟨xs, hq, hx⟩ := hg
    obtain ⟨its, rv, p, hz⟩ := I.tuple hq
    obtain ⟨f0, f1, f2, f3, f4, f5⟩ := hf it (by simp)
    have hl := rv.length
    have hli : a ≠ it := fun z => by
      obtain ⟨o2, g2, _, d2⟩ := hit
      obtain ⟨o3, e2, _, n3, dd⟩ := p
      rw [z, g2] at e2
      cases e2
      rw [d2] at dd
      cases dd
    exact wpAny_pyNext_enum_endD (Draws.tuple (prog := X.prog) (w := X.w) (A := X.A.in1) (I.ok.hd hc) it a hli its.toArray) he ⟨(by rw [show its.toArray.size = i from by rw [List.size_toArray]; omega]; exact hit), p⟩ fun h' eb => ⟨rfl, I.turned (t' := s.toks) (fun b o hb q => eb b o hb q) f0 f1 f3 f4 f5⟩
  self := fun A i s Q E st h => let ⟨⟨_, he⟩, _⟩ := st; wpAny_pyIter_enum he h
def iEnumT (K : PySem.W.Frag) (k : Nat) (ta : TA) : TI := fun σ H R => ta σ H fun vs H1 => ∃ a xs, vs = [.ref a] ∧ SqT K H1 a xs ∧ R (IteT K k a) H1
theorem pi_enumT {X : Cx} {e : Expr} {ta : TA} {p pos tpos cpos kpos : Pos} {elts : List Expr} {kk j : Nat} {k : Nat} (hk : k < 1000) (hg : Gl X "enumerate") (hm : X.mg "enumerate" = none) (ha : PA X [e] ta) (hs : backTo pos (starEach [e] X.env) = (false, eval e X.env) :: backTo pos (starEach [] X.env) := by rfl)
    (hp : (backTo pos (starEach [e] X.env)).any (·.1) = false := by rfl) :
    PI X (.Tuple elts kk tpos) (.Call (.Name "enumerate" p) [e] [⟨some "start", .Constant (.int (k : Int)) j cpos, kpos⟩] pos) (iEnumT X.K k ta) := by
  refine ⟨fun pins s σ H R I h => ?_⟩
  refine wpAny_Call_Name_kw (ld_blt I hg hm boot_enumerate ?_)
  refine callWith_typeKw (thn (ha.run pos pins s σ H _ I h) fun us s1 ⟨vs, H1, I1, r1, q1⟩ => ?_) hs hp
  obtain ⟨a, xs, ex, hq, q⟩ := q1
  subst ex
  cases r1 with
  | cons r rr =>
    cases rr
    cases r
    have pk : PK X [⟨some "start", .Constant (.int (k : Int)) j cpos, kpos⟩] (tCons (tC (.int (k : Int))) tNil) := pk_cons pe_int pk_nil
    refine thn (pk.run pos pins s1 σ H1 (fun vs H2 => vs = [V.int (k : Int)] ∧ H1 = H2) I1 ⟨rfl, rfl⟩) fun ws s2 ⟨zs, H2, I2, rz, ez, eH⟩ => ?_
    subst ez eH
    cases rz with
    | cons rz rn =>
      cases rn
      obtain ⟨t, et⟩ := rz
      subst et
      obtain ⟨its, rv, p', hz⟩ := I2.tuple hq
      refine enum_begins_start (begins_tuple a its.toArray) p' (by omega) (by omega) fun h' he hit hsz hk => wpAny_pyIter_enum he ?_
      have I3 : Inv X pins σ H1 { s2 with heap := h' } := I2.kept (t' := s2.toks) hk
      refine ⟨s2.heap.objs.size + 1, [s2.heap.objs.size + 1, s2.heap.objs.size], _, _, H1, rfl, I3, turn_enumT k a (s2.heap.objs.size + 1) s2.heap.objs.size, ⟨⟨.none, (by rw [Nat.zero_add]; exact he)⟩, ⟨_, hit, rfl, rfl⟩, Nat.succ_ne_self _⟩, fun b hb => ?_, q⟩
      have e' : b = s2.heap.objs.size + 1 ∨ b = s2.heap.objs.size := by simpa using hb
      have hle : s2.heap.objs.size ≤ b := by
        rcases e' with z | z
        · rw [z]; exact Nat.le_add_right _ _
        · rw [z]; exact Nat.le_refl _
      exact I2.fpOk hle (I2.hok.fresh hle)
end K6

/-! text QG -/
set_option Elab.async false
set_option linter.all false
set_option maxRecDepth 100000
set_option maxHeartbeats 4000000
namespace K6
open PySem PySem.Spec PyProof.Rows L2
theorem Same.new {H : Hp} {q : Addr} {o : HO} (h : H q = none) : Same H (upd H q o) := fun b o' e => by
  rw [upd_ne (ne_of_none e h)]
  exact e
/-- all but what stands at a stays -/
def Fr (s : Addr) (H H' : Hp) : Prop := ∀ b o, b ≠ s → H b = some o → H' b = some o
theorem Fr.refl (s : Addr) (H : Hp) : Fr s H H := fun _ _ _ h => h
theorem Fr.same {s : Addr} {H H1 H2 : Hp} (a : Fr s H H1) (k : Same H1 H2) : Fr s H H2 := fun b o h e => k b o (a b o h e)
theorem Fr.trans {s : Addr} {H H1 H2 : Hp} (a : Fr s H H1) (k : Fr s H1 H2) : Fr s H H2 := fun b o h e => k b o h (a b o h e)
theorem Fr.of {s : Addr} {H H1 : Hp} (k : Same H H1) : Fr s H H1 := fun b o _ e => k b o e
section
variable (P : Program) (w : World) (K : PySem.W.Frag) (mg : Str → Option Value) (base : Heap)
def FnAt (CX : CXT) (k : Nat) (x : Str) (ps : List Str) (sp : Sp) : Prop := ∃ f fd, mg x = some (.ref f) ∧ PySem.W.keepIn K (.ref f) = true ∧ Binds K fd ps [] ∧ FnOk P w K mg base CX k f fd ps sp
def FnAtG (CX : CXT) (k : Nat) (x : Str) (ps : List Str) (sp : Sp) : Prop := ∃ f fd, mg x = some (.ref f) ∧ PySem.W.keepIn K (.ref f) = true ∧ Binds K fd ps [] ∧ FnG P w K mg base CX k f fd ps sp
end
/-! ### data -/
theorem sqt_same {K : PySem.W.Frag} {H H' : Hp} {a : Addr} {xs : List V} (k : Same H H') (h : SqT K H a xs) : SqT K H' a xs := by
  rcases h with h | h
  · exact .inl (by
      rcases h with h | ⟨o, h⟩
      · exact .inl (k _ _ h)
      · exact .inr ⟨o, k _ _ h⟩)
  · exact .inr h
mutual
theorem dp_same {K : PySem.W.Frag} {H H' : Hp} (k : Same H H') : ∀ (d : PyData) (v : V), Dp K H v d → Dp K H' v d
  | .none, _, h => by cases h; exact .non
  | .bool b, _, h => by cases h; exact .bl b
  | .int i, _, h => by cases h; exact .int i
  | .str x, _, h => by cases h; exact .str x
  | .list ds, _, h => by
    cases h with
    | lst hs ha => exact .lst (k.seq hs) (dps_same k ds _ ha)
  | .tuple ds, _, h => by
    cases h with
    | tup hs ha => exact .tup (sqt_same k hs) (dps_same k ds _ ha)
  | .dict _, _, h => by cases h
theorem dps_same {K : PySem.W.Frag} {H H' : Hp} (k : Same H H') : ∀ (ds : List PyData) (vs : List V), DpAll K H vs ds → DpAll K H' vs ds
  | [], _, h => by cases h; exact .nil
  | d :: ds, _, h => by
    cases h with
    | cons h1 h2 => exact .cons (dp_same k d _ h1) (dps_same k ds _ h2)
end
theorem dps_app {K : PySem.W.Frag} {H : Hp} : ∀ {ds es : List PyData} {vs ws : List V}, DpAll K H vs ds → DpAll K H ws es → DpAll K H (vs ++ ws) (ds ++ es)
  | _, _, _, _, .nil, h => h
  | _, _, _, _, .cons a b, h => .cons a (dps_app b h)
theorem dps_len {K : PySem.W.Frag} {H : Hp} : ∀ {ds : List PyData} {vs : List V}, DpAll K H vs ds → vs.length = ds.length
  | _, _, .nil => rfl
  | _, _, .cons _ b => by rw [List.length_cons, List.length_cons, dps_len b]
end K6

/-! text Q1 -/
set_option Elab.async false
set_option linter.all false
set_option maxRecDepth 100000
set_option maxHeartbeats 1000000
namespace K6
open PySem PySem.Spec PyProof.Rows L2
def top (i : Nat) : Stmt := PySem.Challenge.pw_lastasked_k88_stories_written_and_read.main.body.getD i (.Pass ⟨0, 0, 0, 0⟩)
abbrev sTake : Stmt := top 27
section
variable {P : Program} {w : World} {K : PySem.W.Frag} {mg : Str → Option Value} {base : Heap}
theorem scTake : FnScope ["_law_pot_here", "_law_upto", "_law_digit", "_law_prime", "_law_mixed"] ["_law_pot_here", "_law_upto"] (defScope sTake) := ⟨rfl, rfl, rfl, by decide +kernel, rfl, by decide +kernel, by decide +kernel⟩
def Pot (a : Addr) (p0 p1 p2 : Int) (H : Hp) : Prop := H a = some (.lst [.int p0, .int p1, .int p2]) ∧ 0 ≤ p1 ∧ p1 < 2305843009213693951 ∧ 0 ≤ p2
def spTake : Sp := fun vs H Q _ => ∃ (a : Addr) (p0 p1 p2 n : Int), vs = [.ref a, .int n] ∧ Pot a p0 p1 p2 H ∧ p2 ≤ 600 ∧ 0 < n ∧ n ≤ 100 ∧
  ∀ d q0 q2 H', 0 ≤ d → d < n → q2 ≤ p2 + 1 → Fr a H H' → Pot a q0 p1 q2 H' → Q (.int d) H'
theorem ok_take {f : Addr} {fd : FuncData} (F : Fun K "_law_take" "_law_take" sTake f fd) (hI : mg "int" = none) : FnOk P w K mg base CX0 1 f fd ["_law_pot_here", "_law_upto"] spTake := by
  refine F.ok scTake (fun vs H Q E h => ?_) (fun cdv A outer s0 H vs Q E hr h => ?_)
  · obtain ⟨a, p0, p1, p2, n, rfl, _⟩ := h
    rfl
  · obtain ⟨a, p0, p1, p2, n, rfl, ⟨hp, h10, h1, h20⟩, h2, hn0, hn, q⟩ := h
    refine ⟨_, pss_cons (ps_if (pt_cmpR op_gt (pe_ix ix_list (pv 0) pe_int (fun _ _ => rfl)) pe_int (nomark _))
        (pss_cons (ps_set (i := 2) scTake.nd rfl (Or.inl rfl) (pe_op op_mod (pe_callTy call_int1 (by rfl) hI (by decide +kernel) (pa_cons (pe_ix ix_list (pv 0) pe_int (fun _ _ => rfl)) pa_nil)) (pv 1)))
        (pss_cons (ps_asg (pe_op op_fdiv (pe_ix ix_list (pv 0) pe_int (fun _ _ => rfl)) (pv 1)) (pg_sub (pv 0) pe_int set_list))
        (pss_one (ps_ret (pv 2))))) pss_nil)
      (pss_cons (ps_asg (pe_op op_add (pe_ix ix_list (pv 0) pe_int (fun _ _ => rfl)) pe_int) (pg_sub (pv 0) pe_int set_list))
      (pss_cons (ps_set (i := 3) scTake.nd rfl (Or.inl rfl) (pe_ix ix_list (pe_lst (pa_cons pe_int (pa_cons pe_int (pa_cons pe_int (pa_cons pe_int (pa_cons pe_int pa_nil)))))) (pe_op op_mod (pe_callTy call_int1 (by rfl) hI (by decide +kernel) (pa_cons (pe_ix ix_list (pv 0) pe_int (fun _ _ => rfl)) pa_nil)) pe_int) (fun _ _ => rfl)))
      (pss_cons (ps_set (i := 4) scTake.nd rfl (Or.inl rfl) (pe_op op_mod (pe_callTy call_int1 (by rfl) hI (by decide +kernel) (pa_cons (pe_op op_pow (pe_callTy call_int1 (by rfl) hI (by decide +kernel) (pa_cons (pe_op op_add (pe_op op_add (pe_ix ix_list (pv 0) pe_int (fun _ _ => rfl)) (pe_op op_mul (pe_op op_mul pe_int (pe_ix ix_list (pv 0) pe_int (fun _ _ => rfl))) (pe_ix ix_list (pv 0) pe_int (fun _ _ => rfl)))) pe_int) pa_nil)) pe_int) pa_nil)) (pv 3)))
      (pss_cons (ps_set (i := 4) scTake.nd rfl (Or.inl rfl) (pe_op op_mod (pe_callTy call_int1 (by rfl) hI (by decide +kernel) (pa_cons (pe_op op_mul (pv 4) (pe_op op_add (pe_op op_mod (pe_callTy call_int1 (by rfl) hI (by decide +kernel) (pa_cons (pv 4) pa_nil)) pe_int) (pe_op op_mul pe_int (pe_ix ix_list (pv 0) pe_int (fun _ _ => rfl))))) pa_nil)) pe_int))
      (pss_one (ps_ret (pe_op op_mod (pe_callTy call_int1 (by rfl) hI (by decide +kernel) (pa_cons (pe_op op_fdiv (pv 4) pe_int) pa_nil)) (pv 1)))))))), ?_⟩
    refine ⟨_, rfl, a, _, _, _, rfl, rfl, SqL.of hp, atI_nat (j := 0) rfl, _, _, rfl, rfl, _, rfl, ?_⟩
    refine ite2 (fun c1 => ?_) (fun c1 => ?_)
    · refine ⟨_, rfl, a, _, _, _, rfl, rfl, SqL.of hp, atI_nat (j := 0) rfl, .inl ⟨_, rfl, _, rfl, _, _, rfl, rfl, hn0, ?_⟩⟩
      refine ⟨_, rfl, a, _, _, _, rfl, rfl, SqL.of hp, atI_nat (j := 0) rfl, _, rfl, _, _, rfl, rfl, ⟨hn0, by omega⟩, _, rfl, a, _, _, 0, rfl, rfl, hp, rfl, _, rfl, ?_⟩
      exact q _ _ p2 _ (Int.emod_nonneg _ (by omega)) (Int.emod_lt_of_pos _ hn0) (by omega) (fun b o h e => by rw [upd_ne h]; exact e) ⟨upd_same, h10, h1, h20⟩
    · refine ⟨_, rfl, a, _, _, _, rfl, rfl, SqL.of hp, atI_nat (j := 2) rfl, _, _, rfl, rfl, _, rfl, a, _, _, 2, rfl, rfl, hp, rfl, ?_⟩
      have hfr : Fr a H (upd H a (.lst (([.int p0, .int p1, .int p2] : List V).set 2 (.int (p2 + 1))))) := fun b o h e => by rw [upd_ne h]; exact e
      have hp2 : (upd H a (.lst (([.int p0, .int p1, .int p2] : List V).set 2 (.int (p2 + 1))))) a = some (.lst [.int p0, .int p1, .int (p2 + 1)]) := upd_same
      generalize upd H a (.lst (([.int p0, .int p1, .int p2] : List V).set 2 (.int (p2 + 1)))) = H2 at hfr hp2
      refine ⟨(by show 5 ≤ sizeLine; decide), fun pl hpl => ?_⟩
      have s3 := Same.new (o := .lst [V.int 2147483647, V.int 2147483629, V.int 2147483587, V.int 2147483579, V.int 2147483563]) hpl
      have hpl3 : (upd H2 pl (.lst [V.int 2147483647, V.int 2147483629, V.int 2147483587, V.int 2147483579, V.int 2147483563])) pl = some (.lst [V.int 2147483647, V.int 2147483629, V.int 2147483587, V.int 2147483579, V.int 2147483563]) := upd_same
      generalize upd H2 pl (.lst [V.int 2147483647, V.int 2147483629, V.int 2147483587, V.int 2147483579, V.int 2147483563]) = H3 at s3 hpl3
      have hp3 := s3 _ _ hp2
      have e5 : ((p2 + 1) % 5) = (((p2 + 1) % 5).toNat : Int) := by omega
      have l5 : ((p2 + 1) % 5).toNat < 5 := by omega
      generalize ((p2 + 1) % 5).toNat = j at e5 l5
      obtain ⟨pr, hpr, hpr1⟩ : ∃ pr : Int, ([V.int 2147483647, V.int 2147483629, V.int 2147483587, V.int 2147483579, V.int 2147483563] : List V)[j]? = some (V.int pr) ∧ 0 < pr := by
        match j, l5 with
        | 0, _ => exact ⟨_, rfl, by decide⟩
        | 1, _ => exact ⟨_, rfl, by decide⟩
        | 2, _ => exact ⟨_, rfl, by decide⟩
        | 3, _ => exact ⟨_, rfl, by decide⟩
        | 4, _ => exact ⟨_, rfl, by decide⟩
      have hpr2 : pr ≤ 2147483647 := by
        match j, l5, hpr with
        | 0, _, h | 1, _, h | 2, _, h | 3, _, h | 4, _, h =>
          injection h with h
          injection h with h
          omega
      refine ⟨_, rfl, a, _, _, _, rfl, rfl, SqL.of hp3, atI_nat (j := 2) rfl, .inl ⟨_, rfl, _, _, rfl, rfl, (by show (0 : Int) < 5; decide), pl, _, _, _, rfl, rfl, SqL.of hpl3, (by rw [e5]; exact atI_nat hpr), ?_⟩⟩
      have sq : 0 ≤ (p2 + 1) * (p2 + 1) ∧ (p2 + 1) * (p2 + 1) ≤ 601 * 601 := ⟨Int.mul_nonneg (by omega) (by omega), Int.mul_le_mul (by omega) (by omega) (by omega) (by omega)⟩
      have sq2 : 98999 * (p2 + 1) * (p2 + 1) = 98999 * ((p2 + 1) * (p2 + 1)) := Int.mul_assoc ..
      refine ⟨_, rfl, a, _, _, _, rfl, rfl, SqL.of hp3, atI_nat (j := 1) rfl, _, rfl, a, _, _, _, rfl, rfl, SqL.of hp3, atI_nat (j := 2) rfl, _, _, rfl, rfl, .inl (by omega), _, rfl, a, _, _, _, rfl, rfl, SqL.of hp3, atI_nat (j := 2) rfl, _, _, rfl, rfl, .inr (by omega), _, _, rfl, rfl, _, _, rfl, rfl, .inl ⟨_, rfl, _, _, rfl, rfl, ⟨by omega, by omega, by omega⟩, .inl ⟨_, rfl, _, rfl, _, _, rfl, rfl, hpr1, ?_⟩⟩⟩
      generalize (p1 + 98999 * (p2 + 1) * (p2 + 1) + 43) ^ _ = big
      have b1 := Int.emod_nonneg big (show pr ≠ 0 by omega)
      have b2 := Int.emod_lt_of_pos big hpr1
      refine ⟨_, rfl, _, rfl, .inl ⟨_, rfl, _, _, rfl, rfl, (by show (0 : Int) < 10007; decide), _, rfl, a, _, _, _, rfl, rfl, SqL.of hp3, atI_nat (j := 2) rfl, _, _, rfl, rfl, .inl (by omega), _, _, rfl, rfl, _, _, rfl, rfl, .inl ⟨by omega, by omega⟩, .inl ⟨_, rfl, _, _, rfl, rfl, (by show (0 : Int) < 2305843009213693907; decide), ?_⟩⟩⟩
      refine ⟨_, rfl, _, _, rfl, rfl, ⟨by decide, by decide⟩, .inl ⟨_, rfl, _, rfl, _, _, rfl, rfl, hn0, ?_⟩⟩
      exact q _ p0 (p2 + 1) _ (Int.emod_nonneg _ (by omega)) (Int.emod_lt_of_pos _ hn0) (by omega) (hfr.same s3) ⟨hp3, h10, h1, by omega⟩
end
abbrev sOf : Stmt := top 28
section
variable {P : Program} {w : World} {K : PySem.W.Frag} {mg : Str → Option Value} {base : Heap}
theorem scOf : FnScope ["_law_pot_here", "_law_some"] ["_law_pot_here", "_law_some"] (defScope sOf) := ⟨rfl, rfl, rfl, by decide +kernel, rfl, by decide +kernel, by decide +kernel⟩
def spOf : Sp := fun vs H Q _ => ∃ (a b : Addr) (p0 p1 p2 : Int) (xs : List V), vs = [.ref a, .ref b] ∧ Pot a p0 p1 p2 H ∧ p2 ≤ 600 ∧ H b = some (.lst xs) ∧ b ≠ a ∧ 0 < xs.length ∧ xs.length ≤ 100 ∧
  ∀ x q0 q2 H', x ∈ xs → q2 ≤ p2 + 1 → Fr a H H' → Pot a q0 p1 q2 H' → Q x H'
theorem ok_of {f : Addr} {fd : FuncData} (F : Fun K "_law_of" "_law_of" sOf f fd) (hL : mg "len" = none) (R : FnAt P w K mg base CX0 1 "_law_take" ["_law_pot_here", "_law_upto"] spTake) : FnOk P w K mg base CX0 2 f fd ["_law_pot_here", "_law_some"] spOf := by
  refine F.ok scOf (fun vs H Q E h => ?_) (fun cdv A outer s0 H vs Q E hr h => ?_)
  · obtain ⟨a, b, p0, p1, p2, xs, rfl, _⟩ := h
    rfl
  · obtain ⟨a, b, p0, p1, p2, xs, rfl, hp, h2, hb, hne, hx0, hx, q⟩ := h
    obtain ⟨f1, d1, m1, k1, b1, G1⟩ := R
    refine ⟨_, pss_one (ps_ret (pe_ix ix_list (pv 1) (pe_call G1 hr rfl m1 k1 b1 .nil pass0 (pa_cons (pv 0) (pa_cons (pe_callB call_len_seq (by rfl) hL PySem.boot_len (pa_cons (pv 1) pa_nil)) pa_nil))) (fun _ _ => rfl))), ?_⟩
    refine ⟨_, rfl, _, rfl, _, rfl, b, _, rfl, .inl (SqL.of hb), ?_⟩
    have hl : (xs.length : Int) = (xs.length : Int) := rfl
    refine ⟨a, p0, p1, p2, _, rfl, hp, h2, by omega, by omega, fun d q0 q2 H' hd0 hd hq hf hp' => ?_⟩
    have hdl : d.toNat < xs.length := by omega
    refine ⟨b, _, d, _, rfl, rfl, SqL.of (hf b _ hne hb), (?_ : _ = some xs[d.toNat]), q _ q0 q2 H' (List.getElem_mem hdl) hq hf hp'⟩
    have z : atI xs ((d.toNat : Nat) : Int) = some xs[d.toNat] := atI_nat (List.getElem?_eq_getElem hdl)
    rw [show ((d.toNat : Nat) : Int) = d by omega] at z
    exact z
end
abbrev sPot : Stmt := top 26
theorem op_pow5 {X : Cx} : OpR X (binaryOp .Pow) (rI (fun i j => i = 10 ^ 60 ∧ j = 5) fun i j => .int (i ^ j.toNat)) := opI fun i j _ _ _ _ _ hc q => PyProof.Rows.pow_int (by rw [hc.2]; decide) (by rw [hc.1, hc.2]; decide +kernel) q
section
variable {P : Program} {w : World} {K : PySem.W.Frag} {mg : Str → Option Value} {base : Heap}
theorem scPot : FnScope ["_law_script", "_law_k", "_law_cell", "_law_own", "_law_mixed"] ["_law_script", "_law_k"] (defScope sPot) := ⟨rfl, rfl, rfl, by decide +kernel, rfl, by decide +kernel, by decide +kernel⟩
def spPot (K : PySem.W.Frag) : Sp := fun vs H Q _ => ∃ (a : Addr) (k : Nat) (ns : List Int), vs = [.ref a, .int k] ∧ SqL K H a (ns.map V.int) ∧ k ≤ 2 ∧ ∀ p p0 p1 H', H p = none → Same H H' → Pot p p0 p1 0 H' → Q (.ref p) H'
theorem ok_pot {f : Addr} {fd : FuncData} (F : Fun K "_law_pot" "_law_pot" sPot f fd) (hL : mg "len" = none) (hI : mg "int" = none) (hA : mg "abs" = none) : FnOk P w K mg base CX0 1 f fd ["_law_script", "_law_k"] (spPot K) := by
  refine F.ok scPot (fun vs H Q E h => ?_) (fun cdv A outer s0 H vs Q E hr h => ?_)
  · obtain ⟨a, k, ns, rfl, _⟩ := h
    rfl
  · obtain ⟨a, k, ns, rfl, ha, hk, q⟩ := h
    refine ⟨_, pss_cons (ps_set (i := 2) scPot.nd rfl (Or.inl rfl) (pe_ifExp (pt_cmpR op_lt (pv 1) (pe_callB call_len_seq (by rfl) hL PySem.boot_len (pa_cons (pv 0) pa_nil)) (nomark _)) (pe_ix ix_list (pv 0) (pv 1) (fun _ _ => rfl)) (pe_op op_add (pe_op op_mul pe_int (pv 1)) pe_int)))
      (pss_cons (ps_set (i := 3) scPot.nd rfl (Or.inl rfl) (pe_op op_mul (pe_op op_mod (pe_callTy call_int1 (by rfl) hI (by decide +kernel) (pa_cons (pe_callB call_abs (by rfl) hA (by decide +kernel) (pa_cons (pv 2) pa_nil)) pa_nil)) (pe_op op_pow5 (pe_op op_pow pe_int pe_int) pe_int)) (pe_callTy call_int1 (by rfl) hI (by decide +kernel) (pa_cons (pe_cmpR op_ge (pe_callB call_abs (by rfl) hA (by decide +kernel) (pa_cons (pv 2) pa_nil)) (pe_op op_pow pe_int pe_int) (nomark _)) pa_nil))))
      (pss_cons (ps_set (i := 4) scPot.nd rfl (Or.inl rfl) (pe_op op_add (pe_op op_add (pe_op op_mul (pe_op op_mod (pe_callTy call_int1 (by rfl) hI (by decide +kernel) (pa_cons (pv 2) pa_nil)) pe_int) pe_int) (pe_op op_mul (pe_op op_mul pe_int (pv 1)) (pv 1))) pe_int))
      (pss_one (ps_ret (pe_lst (pa_cons (pv 3) (pa_cons (pe_op op_mod (pe_callTy call_int1 (by rfl) hI (by decide +kernel) (pa_cons (pv 4) pa_nil)) pe_int) (pa_cons pe_int pa_nil)))))))), ?_⟩
    refine ⟨_, rfl, _, rfl, a, _, rfl, .inl (ha), _, _, rfl, rfl, _, rfl, ?_⟩
    have big : (0 : Int) < (10 ^ 60) ^ (5 : Int).toNat := by decide +kernel
    refine ite2 (fun c1 => ?_) (fun c1 => ?_)
    · have hlt : k < (ns.map V.int).length := by
        have z := of_decide_eq_true c1
        omega
      have hg : (ns.map V.int)[k]? = some (V.int (ns.getD k 0)) := by
        rw [List.length_map] at hlt
        rw [List.getElem?_map, List.getElem?_eq_getElem hlt]
        simp [List.getD, hlt]
      refine ⟨_, rfl, _, rfl, a, _, _, _, rfl, rfl, ha, atI_nat hg, ?_⟩
      generalize ns.getD k 0 = x
      refine ⟨_, rfl, _, rfl, .inl ⟨_, rfl, _, _, rfl, rfl, ⟨by decide, by decide, by decide⟩, _, _, rfl, rfl, ⟨by decide +kernel, rfl⟩, _, _, rfl, rfl, big, ?_⟩⟩
      refine ⟨_, rfl, _, rfl, _, _, rfl, rfl, ⟨by decide, by decide, by decide⟩, _, _, rfl, rfl, .inr ⟨_, rfl, _, _, rfl, rfl, .inr (by split <;> omega), ?_⟩⟩
      refine ⟨_, rfl, .inl ⟨_, rfl, _, _, rfl, rfl, (by show (0 : Int) < 2305843009213693951; decide), _, _, rfl, rfl, .inr (by omega), _, rfl, _, _, rfl, rfl, .inl (by omega), _, rfl, _, _, rfl, rfl, .inr (by omega), _, _, rfl, rfl, _, _, rfl, rfl, ?_⟩⟩
      refine ⟨_, rfl, _, rfl, .inl ⟨_, rfl, _, _, rfl, rfl, (by show (0 : Int) < 2305843009213693921; decide), (by show 3 ≤ sizeLine; decide), fun p hp => ?_⟩⟩
      exact q p _ _ _ hp (Same.new hp) ⟨upd_same, Int.emod_nonneg _ (by decide), Int.lt_trans (Int.emod_lt_of_pos _ (by decide)) (by decide), Int.le_refl _⟩
    · refine ⟨_, rfl, _, _, rfl, rfl, .inl (by omega), _, _, rfl, rfl, ?_⟩
      generalize 41 * (k : Int) + 13 = x
      refine ⟨_, rfl, _, rfl, .inl ⟨_, rfl, _, _, rfl, rfl, ⟨by decide, by decide, by decide⟩, _, _, rfl, rfl, ⟨by decide +kernel, rfl⟩, _, _, rfl, rfl, big, ?_⟩⟩
      refine ⟨_, rfl, _, rfl, _, _, rfl, rfl, ⟨by decide, by decide, by decide⟩, _, _, rfl, rfl, .inr ⟨_, rfl, _, _, rfl, rfl, .inr (by split <;> omega), ?_⟩⟩
      refine ⟨_, rfl, .inl ⟨_, rfl, _, _, rfl, rfl, (by show (0 : Int) < 2305843009213693951; decide), _, _, rfl, rfl, .inr (by omega), _, rfl, _, _, rfl, rfl, .inl (by omega), _, rfl, _, _, rfl, rfl, .inr (by omega), _, _, rfl, rfl, _, _, rfl, rfl, ?_⟩⟩
      refine ⟨_, rfl, _, rfl, .inl ⟨_, rfl, _, _, rfl, rfl, (by show (0 : Int) < 2305843009213693921; decide), (by show 3 ≤ sizeLine; decide), fun p hp => ?_⟩⟩
      exact q p _ _ _ hp (Same.new hp) ⟨upd_same, Int.emod_nonneg _ (by decide), Int.lt_trans (Int.emod_lt_of_pos _ (by decide)) (by decide), Int.le_refl _⟩
end
end K6

/-! text QL -/
set_option Elab.async false
set_option linter.all false
set_option maxRecDepth 100000
set_option maxHeartbeats 4000000
namespace L2
open PySem PySem.Spec PyProof.Rows
/-- names: the keys of a dict, or the items of a list, a tuple -/
def Nm (K : PySem.W.Frag) (H : Hp) (v : V) (ns : List Str) : Prop := ∃ a : Addr, v = .ref a ∧
  ((∃ kvs : List (Key × V), H a = some (.dK kvs) ∧ kvs.map (·.1) = ns.map Sum.inr) ∨ SqL K H a (ns.map V.str) ∨ SqT K H a (ns.map V.str))
theorem valV_names {x : Str} : ∀ {kvs : List (Key × V)} {ns : List Str}, kvs.map (·.1) = ns.map Sum.inr → (valV kvs (Sum.inr x : Key)).isSome = ns.contains x
  | [], [], _ => rfl
  | [], _ :: _, h => by cases h
  | _ :: _, [], h => by cases h
  | (k, v) :: r, n :: ns, h => by
    rw [List.map_cons, List.map_cons] at h
    obtain ⟨h1, h2⟩ := List.cons.inj h
    have ih := valV_names (x := x) h2
    have h1' : k = Sum.inr n := h1
    subst h1'
    unfold valV at ih ⊢
    rw [List.find?_cons, List.contains_cons]
    by_cases e : n = x
    · subst e
      simp
    · have e1 : decide ((Sum.inr n : Key) = Sum.inr x) = false := decide_eq_false (fun z => e (Sum.inr.inj z))
      have e2 : (x == n) = false := beq_eq_false_iff_ne.mpr (fun z => e z.symm)
      rw [e2, Bool.false_or, ← ih]
      simp only [e1]
theorem flatS (l : List Str) : (l.map V.str).all flatV = true := by
  rw [List.all_map]
  exact List.all_eq_true.mpr fun _ _ => rfl
theorem inVS (x : Str) (l : List Str) : inV (V.str x) (l.map V.str) = l.contains x := by
  unfold inV
  rw [List.any_map]
  induction l with
  | nil => rfl
  | cons a r ih =>
    rw [List.any_cons, ih, List.contains_cons]
    show ((a == x) || _) = ((x == a) || _)
    rw [BEq.comm]
def rInN (K : PySem.W.Frag) (neg : Bool) : R2 := fun x y H Q => ∃ (z : Str) (ns : List Str), x = .str z ∧ Nm K H y ns ∧ Q (.bl (if neg then !ns.contains z else ns.contains z)) H
theorem op_inN {X : Cx} (hu : X.A.units + 1 < cLine) : OpR X (compareOp .In) (rInN X.K false) := by
  intro pins s σ H x y v u Q I rx ry h
  obtain ⟨z, ns, rfl, ⟨a, rfl, h⟩, q⟩ := h
  rcases h with ⟨kvs, hk, e⟩ | h | h
  · obtain rfl : u = Value.ref a := ry
    refine d_in hu I (DGet.k (k := Sum.inr z) hk) rx fun s3 I3 => ⟨.bl (valV kvs (Sum.inr z : Key)).isSome, H, I3, rfl, ?_⟩
    rw [valV_names e]
    exact q
  · refine op_in_seq pins s σ H (.str z) (.ref a) v u Q I rx ry ⟨a, _, rfl, .inl h, rfl, flatS _, ?_⟩
    rw [inVS]
    exact q
  · refine op_in_seq pins s σ H (.str z) (.ref a) v u Q I rx ry ⟨a, _, rfl, .inr h, rfl, flatS _, ?_⟩
    rw [inVS]
    exact q
theorem op_notInN {X : Cx} (hu : X.A.units + 1 < cLine) : OpR X (compareOp .NotIn) (rInN X.K true) := by
  intro pins s σ H x y v u Q I rx ry h
  obtain ⟨z, ns, rfl, ⟨a, rfl, h⟩, q⟩ := h
  rcases h with ⟨kvs, hk, e⟩ | h | h
  · obtain rfl : u = Value.ref a := ry
    refine d_notIn hu I (DGet.k (k := Sum.inr z) hk) rx fun s3 I3 => ⟨.bl (!(valV kvs (Sum.inr z : Key)).isSome), H, I3, rfl, ?_⟩
    rw [valV_names e]
    exact q
  · refine op_notIn_seq pins s σ H (.str z) (.ref a) v u Q I rx ry ⟨a, _, rfl, .inl h, rfl, flatS _, ?_⟩
    rw [inVS]
    exact q
  · refine op_notIn_seq pins s σ H (.str z) (.ref a) v u Q I rx ry ⟨a, _, rfl, .inr h, rfl, flatS _, ?_⟩
    rw [inVS]
    exact q
/-- a comprehension over a text -/
theorem lc_str {x : Str} {g : TG} {tt : TT} {te : TE} {vs : List Nat} {σ : St} {H1 : Hp} {D : Addr} {Qd : Hp → Prop} (Pv : Nat → Hp → Prop) (h0 : Pv 0 (upd H1 D (.lst [])))
    (hs : ∀ i c H, x.cps[i]? = some c → Pv i H → g (.str ⟨#[c]⟩) (wipe σ vs) H fun σ2 H2 => wipe σ2 vs = wipe σ vs ∧ tt σ2 H2 fun b H3 =>
      if b = true then te σ2 H3 fun y H4 => ∃ acc, H4 D = some (.lst acc) ∧ acc.length < sizeLine ∧ Pv (i + 1) (upd H4 D (.lst (acc ++ [y]))) else Pv (i + 1) H3) (hd : ∀ H, Pv x.cps.size H → Qd H) :
    ∃ W : Nat → Nat → Hp → Prop, (∃ m, W 0 m (upd H1 D (.lst []))) ∧ ∀ i m H, W i m H →
      ((Its x).stop i H ∧ Qd H) ∨ ((Its x).go i H ∧ ∃ Nx : Hp → Prop, (∀ H', Nx H' → ∃ m', m' < m ∧ W (i + 1) m' H') ∧ ∀ y H', (Its x).yld i H y H' → g y (wipe σ vs) H' fun σ2 H2 => wipe σ2 vs = wipe σ vs ∧ tt σ2 H2 fun b H3 =>
        if b = true then te σ2 H3 fun y H4 => ∃ acc, H4 D = some (.lst acc) ∧ acc.length < sizeLine ∧ Nx (upd H4 D (.lst (acc ++ [y]))) else Nx H3) := by
  refine ⟨fun i m H => m = x.cps.size - i ∧ i ≤ x.cps.size ∧ Pv i H, ⟨x.cps.size, by simp, Nat.zero_le _, h0⟩, ?_⟩
  rintro i m H ⟨rfl, hi, p⟩
  by_cases hlt : i < x.cps.size
  · refine .inr ⟨hlt, Pv (i + 1), fun H' p' => ⟨x.cps.size - (i + 1), by omega, rfl, hlt, p'⟩, fun y H' hy => ?_⟩
    obtain ⟨e, c, ec, ey⟩ := hy
    subst e
    subst ey
    exact hs i c _ ec p
  · have e : i = x.cps.size := by omega
    subst e
    exact .inl ⟨Nat.le_refl _, hd H p⟩
end L2

/-! text PA -/
set_option Elab.async false
set_option linter.all false
set_option maxRecDepth 100000
set_option maxHeartbeats 1000000
namespace K6
open PySem PySem.Spec PyProof.Rows L2
def pLETT : Str := "abcdefghijklmnopqrstuvwxyz"
def pDIGS : Str := "0123456789"
def pAll (z : Str) (w : Str) : Bool := w.cps.toList.all fun c => decide (c ∈ z.cps.toList)
def pName (x : Str) : Bool := (decide (1 ≤ x.length) && decide (x.length ≤ 8)) && !(["it", "asked"] : List Str).contains x && pAll pLETT x
def pNum (x : Str) : Bool := (decide (1 ≤ x.length) && decide (x.length ≤ 3)) && pAll pDIGS x && (decide (x = "0") || !decide (x.cps.getD 0 0 = 48))
structure PNm (K : PySem.W.Frag) (mg : Str → Option Value) : Prop where
  len : mg "len" = none
  all : mg "all" = none
  int : mg "int" = none
  gL : ∃ t, mg "LETTERS" = some (.str pLETT t)
  gD : ∃ t, mg "DIGITS" = some (.str pDIGS t)
  gM : ∃ t, mg "MOST_FIGURES" = some (.int 3 t)
  gT : ∃ a, mg "TASK_WORDS" = some (.ref a) ∧ ∀ H, SqT K H a [.str "sends", .str "does", .str "comes", .str "gone"]
  gO : ∃ a, mg "OVER" = some (.ref a) ∧ ∀ H, SqT K H a [.str "over"]
abbrev sPIsName : Stmt := top 7
abbrev sPNum : Stmt := top 24
abbrev sPMov : Stmt := top 23
abbrev sPRead : Stmt := top 20
section
variable {P : Program} {w : World} {K : PySem.W.Frag} {mg : Str → Option Value} {base : Heap}
def spPName : Sp := fun vs H Q _ => ∃ x : Str, vs = [.str x] ∧ x.length ≤ 1000000 ∧ ∀ H', Same H H' → Q (.bl (pName x)) H'
theorem scPName : FnScope ["word", "letter"] ["word"] (defScope sPIsName) := ⟨rfl, rfl, rfl, by decide +kernel, rfl, by decide +kernel, by decide +kernel⟩
theorem ok_pname {f : Addr} {fd : FuncData} (F : Fun K "is_name" "is_name" sPIsName f fd) (T : PNm K mg) : FnOk P w K mg base CX0 1 f fd ["word"] spPName := by
  refine F.ok scPName (fun vs H Q E h => ?_) (fun cdv A outer s H vs Q E hr h => ?_)
  · obtain ⟨x, rfl, _⟩ := h
    rfl
  · obtain ⟨x, rfl, hx, k⟩ := h
    obtain ⟨tL, gL⟩ := T.gL
    refine ⟨_, pss_cons (ps_if (PW.pt (pw_or (pt_not (pt_chain op_le op_le pe_int (pe_callB call_len_str (by rfl) T.len PySem.boot_len (pa_cons (pv 0) pa_nil)) pe_int)) (pw_or1 (pt_cmpR (op_inN (hu_of hr)) (pv 0) (pe_tup (pa_cons pe_str (pa_cons pe_str pa_nil))) rfl)))) (pss_one (ps_ret pe_bl)) pss_nil)
      (pss_one (ps_ret (pe_callB (cr_all rfl) (by rfl) T.all (by decide +kernel) (pa_cons (pe_lc (own := [("letter", 1)]) (g := gName 1) (tt := tYes) rfl scPName.nd (pi_str (pv 0)) (blkOk_by (own := [("letter", 1)]) (N := ["word", "letter"]) (sc := defScope sPIsName) (by decide +kernel)) (fun _ _ _ _ _ => pg_name (i := 1) scPName.nd rfl (Or.inl rfl)) (fun _ _ _ _ _ => pts_nil)
        (fun _ _ _ _ _ => pe_cmpR op_in_sign (pv 1) (pe_glob (v := .str pLETT) rfl gL ⟨_, rfl⟩) rfl)) pa_nil)))), ?_⟩
    have hsl := sizeLine_eq
    have no : ∀ {H' : Hp}, Same H H' → pName x = false → Q (.bl false) H' := fun s1 e => by
      rw [← e]
      exact k _ s1
    refine ⟨_, rfl, _, rfl, (by omega), _, _, rfl, rfl, _, rfl, ?_⟩
    refine ite2 (fun c1 => ?_) (fun c1 => ?_)
    · refine ⟨_, _, rfl, rfl, _, rfl, ?_⟩
      refine ite2 (fun c2 => ?_) (fun c2 => ?_)
      · refine iteT (no (Same.refl H) ?_)
        unfold pName
        have z : ¬ x.length ≤ 8 := fun z => by
          rw [decide_eq_true (show (x.length : Int) ≤ 8 by omega)] at c2
          cases c2
        rw [decide_eq_false z]
        simp
      · refine ⟨_, rfl, (by show 2 ≤ sizeLine; omega), fun t ht => ?_⟩
        refine ⟨x, ["it", "asked"], rfl, ⟨t, rfl, .inr (.inr (SqT.of upd_same))⟩, _, rfl, ?_⟩
        have c3 : x.length ≤ 8 := by
          rcases Nat.lt_or_ge 8 x.length with z | z
          · exact absurd (by rw [decide_eq_false (show ¬ (x.length : Int) ≤ 8 by omega)]; rfl) c2
          · exact z
        have c4 : 1 ≤ x.length := by
          have z := of_decide_eq_true c1
          omega
        have st := Same.new (o := .tup [V.str "it", V.str "asked"]) ht
        refine ite2 (fun c5 => ?_) (fun c5 => ?_)
        · refine no st ?_
          unfold pName
          have z : (["it", "asked"] : List Str).contains x = true := c5
          rw [z]
          simp
        · have z : (["it", "asked"] : List Str).contains x = false := by
            cases e : (["it", "asked"] : List Str).contains x with
            | false => rfl
            | true => exact absurd e c5
          have ev : pName x = pAll pLETT x := by
            unfold pName
            rw [decide_eq_true c3, decide_eq_true c4, z]
            rfl
          refine ⟨_, rfl, _, rfl, fun D hD => ?_⟩
          refine lc_str (fun i H' => Same H H' ∧ H' D = some (.lst ((x.cps.toList.take i).map fun c => V.bl (decide (c ∈ pLETT.cps.toList))))) ⟨st.trans (Same.new hD), upd_same⟩ ?_ ?_
          · rintro i c H' hc ⟨s1, h1⟩
            have hlt : i < x.cps.size := (Array.getElem?_eq_some_iff.mp hc).1
            have hxl : x.cps.size ≤ 1000000 := hx
            refine ⟨rfl, ?_⟩
            refine ⟨_, rfl, c, pLETT, rfl, rfl, _, h1, (by rw [List.length_map, List.length_take, Array.length_toList]; omega), ?_⟩
            refine ⟨fun b o e => ?_, ?_⟩
            · rw [upd_ne (fun z => by
                rw [z] at e
                rw [(st.free hD)] at e
                cases e)]
              exact s1 b o e
            · rw [upd_same, List.take_add_one, List.map_append]
              rw [show x.cps.toList[i]? = some c from by rw [Array.getElem?_toList]; exact hc]
              rfl
          · rintro H' ⟨s1, h1⟩
            refine ⟨D, x.cps.toList.map fun c => decide (c ∈ pLETT.cps.toList), rfl, SqL.of ?_, ?_⟩
            · rw [h1, List.map_map, ← Array.length_toList, List.take_length]
              rfl
            · rw [List.all_map]
              have e2 : (x.cps.toList.all (id ∘ fun c => decide (c ∈ pLETT.cps.toList))) = pName x := by
                rw [ev]
                rfl
              rw [e2]
              exact k _ s1
    · refine ⟨_, rfl, iteT (iteT (no (Same.refl H) ?_))⟩
      unfold pName
      have z : ¬ 1 ≤ x.length := fun z => by
        rw [decide_eq_true (show (1 : Int) ≤ (x.length : Int) by omega)] at c1
        exact c1 rfl
      rw [decide_eq_false z]
      simp
def spPNum : Sp := fun vs H Q _ => ∃ x : Str, vs = [.str x] ∧ x.length ≤ 1000000 ∧ ∀ H', Same H H' → Q (.bl (pNum x)) H'
theorem scPNum : FnScope ["word", "figure"] ["word"] (defScope sPNum) := ⟨rfl, rfl, rfl, by decide +kernel, rfl, by decide +kernel, by decide +kernel⟩
theorem ok_pnum {f : Addr} {fd : FuncData} (F : Fun K "is_number" "is_number" sPNum f fd) (T : PNm K mg) : FnOk P w K mg base CX0 1 f fd ["word"] spPNum := by
  refine F.ok scPNum (fun vs H Q E h => ?_) (fun cdv A outer s H vs Q E hr h => ?_)
  · obtain ⟨x, rfl, _⟩ := h
    rfl
  · obtain ⟨x, rfl, hx, k⟩ := h
    obtain ⟨tD, gD⟩ := T.gD
    obtain ⟨tM, gM⟩ := T.gM
    refine ⟨_, pss_cons (ps_if (PW.pt (pw_or (pt_not (pt_chain op_le op_le pe_int (pe_callB call_len_str (by rfl) T.len PySem.boot_len (pa_cons (pv 0) pa_nil)) (pe_glob (v := .int 3) rfl gM ⟨_, rfl⟩))) (pw_or1 (pt_not (pt_val (pe_callB (cr_all rfl) (by rfl) T.all (by decide +kernel) (pa_cons (pe_lc (own := [("figure", 1)]) (g := gName 1) (tt := tYes) rfl scPNum.nd (pi_str (pv 0)) (blkOk_by (own := [("figure", 1)]) (N := ["word", "figure"]) (sc := defScope sPNum) (by decide +kernel)) (fun _ _ _ _ _ => pg_name (i := 1) scPNum.nd rfl (Or.inl rfl)) (fun _ _ _ _ _ => pts_nil)
        (fun _ _ _ _ _ => pe_cmpR op_in_sign (pv 1) (pe_glob (v := .str pDIGS) rfl gD ⟨_, rfl⟩) rfl)) pa_nil))))))) (pss_one (ps_ret pe_bl)) pss_nil)
      (pss_one (ps_ret (pe_or (pe_cmpR op_eq (pv 0) pe_str (nomark _)) (pe_one (pe_cmpR op_ne (pe_ix ix_str (pv 0) pe_int (fun _ _ => rfl)) pe_str (nomark _)))))), ?_⟩
    have hsl := sizeLine_eq
    have no : ∀ {H' : Hp}, Same H H' → pNum x = false → Q (.bl false) H' := fun s1 e => by
      rw [← e]
      exact k _ s1
    refine ⟨_, rfl, _, rfl, (by omega), _, _, rfl, rfl, _, rfl, ?_⟩
    refine ite2 (fun c1 => ?_) (fun c1 => ?_)
    · refine ⟨_, _, rfl, rfl, _, rfl, ?_⟩
      refine ite2 (fun c2 => ?_) (fun c2 => ?_)
      · refine iteT (no (Same.refl H) ?_)
        unfold pNum
        have z : ¬ x.length ≤ 3 := fun z => by
          rw [decide_eq_true (show (x.length : Int) ≤ 3 by omega)] at c2
          cases c2
        rw [decide_eq_false z]
        simp
      · have c3 : x.length ≤ 3 := by
          rcases Nat.lt_or_ge 3 x.length with z | z
          · exact absurd (by rw [decide_eq_false (show ¬ (x.length : Int) ≤ 3 by omega)]; rfl) c2
          · exact z
        have c4 : 1 ≤ x.length := by
          have z := of_decide_eq_true c1
          omega
        have ev : pNum x = (pAll pDIGS x && (decide (x = "0") || !decide (x.cps.getD 0 0 = 48))) := by
          unfold pNum
          rw [decide_eq_true c3, decide_eq_true c4]
          rfl
        refine ⟨_, rfl, _, rfl, fun D hD => ?_⟩
        refine lc_str (fun i H' => Same H H' ∧ H' D = some (.lst ((x.cps.toList.take i).map fun c => V.bl (decide (c ∈ pDIGS.cps.toList))))) ⟨Same.new hD, upd_same⟩ ?_ ?_
        · rintro i c H' hc ⟨s1, h1⟩
          have hlt : i < x.cps.size := (Array.getElem?_eq_some_iff.mp hc).1
          have hxl : x.cps.size ≤ 1000000 := hx
          refine ⟨rfl, ?_⟩
          refine ⟨_, rfl, c, pDIGS, rfl, rfl, _, h1, (by rw [List.length_map, List.length_take, Array.length_toList]; omega), ?_⟩
          refine ⟨fun b o e => ?_, ?_⟩
          · rw [upd_ne (ne_of_none e hD)]
            exact s1 b o e
          · rw [upd_same, List.take_add_one, List.map_append]
            rw [show x.cps.toList[i]? = some c from by rw [Array.getElem?_toList]; exact hc]
            rfl
        · rintro H' ⟨s1, h1⟩
          refine ⟨D, x.cps.toList.map fun c => decide (c ∈ pDIGS.cps.toList), rfl, SqL.of ?_, ?_⟩
          · rw [h1, List.map_map, ← Array.length_toList, List.take_length]
            rfl
          rw [List.all_map]
          rw [show (x.cps.toList.all (id ∘ fun c => decide (c ∈ pDIGS.cps.toList))) = pAll pDIGS x from rfl]
          refine ⟨_, rfl, ?_⟩
          cases ha : pAll pDIGS x with
          | false =>
            refine iteT (no s1 ?_)
            rw [ev, ha]
            rfl
          | true =>
            refine iteF ?_
            have fin : ∀ {b : Bool}, (decide (x = "0") || !decide (x.cps.getD 0 0 = 48)) = b → Q (.bl b) H' := fun {b} e => by
              have z := k _ s1
              rw [ev, ha, e] at z
              exact z
            refine ⟨_, rfl, rfl, _, rfl, ?_⟩
            refine ite2 (fun c5 => ?_) (fun c5 => ?_)
            · exact fin (by rw [decide_eq_true (V.str.inj (of_decide_eq_true c5))]; rfl)
            · have hz : ¬ x = "0" := fun z => c5 (decide_eq_true (by rw [z]))
              have hlen : 0 < x.cps.size := c4
              obtain ⟨c, hc⟩ : ∃ c, x.cps[0]? = some c := ⟨_, Array.getElem?_eq_getElem hlen⟩
              have hd : x.cps.getD 0 0 = c := by
                rw [Array.getD_eq_getD_getElem?, hc]
                rfl
              refine ⟨_, rfl, x, 0, c, rfl, rfl, by show x.cps.size ≤ _; have : x.cps.size ≤ 3 := c3; omega, (atI_nat (j := 0) (by rw [Array.getElem?_toList]; exact hc)), rfl, ?_⟩
              by_cases c6 : c = 48
              · have e : (V.str ⟨#[c]⟩ = V.str "0") := by rw [c6]; rfl
                rw [decide_eq_true e]
                exact fin (by rw [decide_eq_false hz, hd, decide_eq_true c6]; rfl)
              · have e : ¬ (V.str ⟨#[c]⟩ = V.str "0") := fun z => by
                  have z2 := V.str.inj z
                  have z3 : (#[c] : Array Nat) = #[48] := congrArg Str.cps z2
                  injection z3 with z3
                  injection z3 with z3
                  exact c6 z3
                rw [decide_eq_false e]
                exact fin (by rw [decide_eq_false hz, hd, decide_eq_false c6]; rfl)
    · refine ⟨_, rfl, iteT (iteT (no (Same.refl H) ?_))⟩
      unfold pNum
      have z : ¬ 1 ≤ x.length := fun z => by
        rw [decide_eq_true (show (1 : Int) ≤ (x.length : Int) by omega)] at c1
        exact c1 rfl
      rw [decide_eq_false z]
      simp
end
end K6

/-! text PB -/
set_option Elab.async false
set_option linter.all false
set_option maxRecDepth 100000
set_option maxHeartbeats 1000000
namespace K6
open PySem PySem.Spec PyProof.Rows L2
def pHeads : List Str := ["sends", "does", "comes", "gone"]
def pInt (w : Str) : PyData := match PySem.intText? w with
  | some n => .int n
  | none => .none
def pTail (ws : List Str) : PyData := if (pHeads.contains (ws.getD 0 "") && (decide (ws.length = 2) && pNum (ws.getD 1 ""))) = true then .tuple [.str (ws.getD 0 ""), pInt (ws.getD 1 "")] else .none
def pDeed (ws : List Str) : PyData := if decide (ws.length = 2) = true then .tuple [.str "deed", .str (ws.getD 1 ""), .int 0] else
  if (pNum (ws.getD 2 "") && !decide (ws.getD 2 "" = "0")) = true then .tuple [.str "deed", .str (ws.getD 1 ""), pInt (ws.getD 2 "")] else .none
def pMov (x : Str) : PyData := if decide (x = "over") = true then .tuple [.str "over"] else
  if (decide ((Txt.split x " ").getD 0 "" = "deed") && ((decide ((Txt.split x " ").length = 2) || decide ((Txt.split x " ").length = 3)) && pName ((Txt.split x " ").getD 1 ""))) = true then pDeed (Txt.split x " ") else pTail (Txt.split x " ")
def WdOk (w : Str) : Prop := w.length ≤ 100 ∧ (pNum w = true → (PySem.intText? w).isSome = true)
structure PRow (x : Str) : Prop where
  len : x.length ≤ 100
  few : (Txt.split x " ").length ≤ 100
  some : 0 < (Txt.split x " ").length
  wd : ∀ w ∈ Txt.split x " ", WdOk w
/-- flat data -/
inductive FlAll : List V → List PyData → Prop
  | nil : FlAll [] []
  | int (i : Int) {vs : List V} {ds : List PyData} : FlAll vs ds → FlAll (.int i :: vs) (.int i :: ds)
  | str (x : Str) {vs : List V} {ds : List PyData} : FlAll vs ds → FlAll (.str x :: vs) (.str x :: ds)
/-- a move as it lies in the heap, or none -/
inductive PMv (K : PySem.W.Frag) (H : Hp) : V → PyData → Prop
  | non : PMv K H .non .none
  | tup {a : Addr} {xs : List V} {ds : List PyData} : SqT K H a xs → FlAll xs ds → PMv K H (.ref a) (.tuple ds)
theorem pgetS {ws : List Str} {i : Nat} (h : i < ws.length) : (ws.map V.str)[i]? = some (V.str (ws.getD i "")) := by
  rw [List.getElem?_map, List.getD_eq_getElem?_getD, List.getElem?_eq_getElem h]
  rfl
theorem pgetS_mem {ws : List Str} {i : Nat} (h : i < ws.length) : ws.getD i "" ∈ ws := by
  rw [List.getD_eq_getElem?_getD, List.getElem?_eq_getElem h]
  exact List.getElem_mem h
theorem pkeep (p : Bool) {b : Bool} {X B : Prop} (hb : b = false → p = false) (rest : p = false → B) (yes : b = true → (p = false → B) → X) : if b = true then X else B := by
  cases b with
  | true => exact yes rfl rest
  | false => exact rest (hb rfl)
section
variable {P : Program} {w : World} {K : PySem.W.Frag} {mg : Str → Option Value} {base : Heap}
theorem scPMov : FnScope ["row", "words"] ["row"] (defScope sPMov) := ⟨rfl, rfl, rfl, by decide +kernel, rfl, by decide +kernel, by decide +kernel⟩
def spPMov (K : PySem.W.Frag) : Sp := fun vs H Q _ => ∃ x : Str, vs = [.str x] ∧ PRow x ∧ ∀ v H', Same H H' → PMv K H' v (pMov x) → Q v H'
theorem ok_pmov {f : Addr} {fd : FuncData} (F : Fun K "move_of_text" "move_of_text" sPMov f fd) (T : PNm K mg) (R1 : FnAt P w K mg base CX0 1 "is_name" ["word"] spPName) (R2 : FnAt P w K mg base CX0 1 "is_number" ["word"] spPNum) : FnOk P w K mg base CX0 2 f fd ["row"] (spPMov K) := by
  refine F.ok scPMov (fun vs H Q E h => ?_) (fun cdv A outer s H vs Q E hr h => ?_)
  · obtain ⟨x, rfl, _⟩ := h
    rfl
  · obtain ⟨x, rfl, ok, k⟩ := h
    obtain ⟨f1, d1, m1, k1, b1, G1⟩ := R1
    obtain ⟨f2, d2, m2, k2, b2, G2⟩ := R2
    obtain ⟨aT, gT, sT⟩ := T.gT
    obtain ⟨aO, gO, sO⟩ := T.gO
    have hsl := sizeLine_eq
    obtain ⟨tr, hps, last⟩ : ∃ tr, PSs (cxOf CX0 P w K mg base ["row", "words"] "move_of_text" (defScope sPMov) f cdv A outer s H E).nox ((defBody sPMov).drop 3) tr ∧ ∀ (ws : List Str) (l : Addr) (σ : L2.St) (H5 : Hp), 0 < ws.length → (∀ w ∈ ws, WdOk w) → H5 l = some (.lst (ws.map V.str)) → σ[1]? = some (some (.ref l)) →
        (∀ y H6, Same H5 H6 → PMv K H6 y (pTail ws) → Q y H6) → tr { nx := fun _ H' => Q .non H', rt := Q } σ H5 := by
      refine ⟨_, pss_cons (ps_if (PW.pt (pw_and (pt_cmpR (op_inN (hu_of hr)) (pe_ix ix_list (pv 1) pe_int (fun _ _ => rfl)) (pe_glob (v := .ref aT) rfl gT rfl) rfl) (pw_and (pt_cmpR op_eq (pe_callB call_len_seq (by rfl) T.len PySem.boot_len (pa_cons (pv 1) pa_nil)) pe_int (nomark _)) (pw_and1 (pt_val (by exact pe_call G2 hr rfl m2 k2 b2 .nil pass0 (pa_cons (pe_ix ix_list (pv 1) pe_int (fun _ _ => rfl)) pa_nil))))))) (pss_one (ps_ret (pe_tup (pa_cons (pe_ix ix_list (pv 1) pe_int (fun _ _ => rfl)) (pa_cons (pe_callTy call_int_str (by rfl) T.int (by decide +kernel) (pa_cons (pe_ix ix_list (pv 1) pe_int (fun _ _ => rfl)) pa_nil)) pa_nil))))) pss_nil)
        (pss_one (ps_ret pe_non)), ?_⟩
      intro ws l σ H5 hs hw el g1 fin
      have hml : (ws.map V.str).length = ws.length := List.length_map ..
      have ix : ∀ {i : Nat} {H' : Hp}, i < ws.length → Same H5 H' → SqL K H' l (ws.map V.str) ∧ atI (ws.map V.str) ((i : Nat) : Int) = some (.str (ws.getD i "")) := fun hi s2 => ⟨SqL.of (s2 _ _ el), atI_nat (pgetS hi)⟩
      refine ⟨_, g1, l, _, _, _, rfl, rfl, (ix (i := 0) hs (Same.refl H5)).1, (ix (i := 0) hs (Same.refl H5)).2, ?_⟩
      refine ⟨ws.getD 0 "", pHeads, rfl, ⟨aT, rfl, .inr (.inr (sT _))⟩, _, rfl, ?_⟩
      have no : ∀ {H' : Hp}, Same H5 H' → (pHeads.contains (ws.getD 0 "") && (decide (ws.length = 2) && pNum (ws.getD 1 ""))) = false → Q .non H' := fun s1 cN => fin _ _ s1 (by
        unfold pTail
        rw [cN]
        exact .non)
      refine ite2 (fun c => ?_) (fun c => ?_)
      · refine ⟨_, g1, l, _, rfl, .inl (ix (i := 0) hs (Same.refl H5)).1, rfl, _, rfl, ?_⟩
        rw [hml]
        refine ite2 (fun c3 => ?_) (fun c3 => ?_)
        · have l2 : ws.length = 2 := by
            have z := V.int.inj (of_decide_eq_true c3)
            omega
          refine ⟨_, g1, l, _, _, _, rfl, rfl, (ix (i := 1) (by omega) (Same.refl H5)).1, (ix (i := 1) (by omega) (Same.refl H5)).2, ?_⟩
          obtain ⟨w1l, w1n⟩ := hw _ (pgetS_mem (i := 1) (by omega))
          refine ⟨_, rfl, by omega, fun H6 s6 => ?_⟩
          refine ⟨_, rfl, ?_⟩
          cases e : pNum (ws.getD 1 "") with
          | false =>
            exact iteF (no s6 (by rw [e]; simp))
          | true =>
            refine iteT ?_
            obtain ⟨n, en⟩ := Option.isSome_iff_exists.mp (w1n e)
            refine ⟨_, g1, l, _, _, _, rfl, rfl, (ix (i := 0) (by omega) s6).1, (ix (i := 0) (by omega) s6).2, _, g1, l, _, _, _, rfl, rfl, (ix (i := 1) (by omega) s6).1, (ix (i := 1) (by omega) s6).2, _, n, rfl, en, by omega, (by show 2 ≤ sizeLine; omega), fun p hp => ?_⟩
            refine fin _ _ (s6.trans (Same.new hp)) ?_
            unfold pTail
            rw [show pHeads.contains (ws.getD 0 "") = true from c, decide_eq_true l2, e]
            unfold pInt
            rw [en]
            exact .tup (SqT.of upd_same) (.str _ (.int _ .nil))
        · exact no (Same.refl H5) (by
            rw [decide_eq_false (fun z => c3 (decide_eq_true (by rw [z]; rfl)))]
            simp)
      · exact no (Same.refl H5) (by
          rw [show pHeads.contains (ws.getD 0 "") = false from Bool.eq_false_iff.mpr c]
          rfl)
    refine ⟨_, pss_cons (ps_set (i := 1) scPMov.nd rfl (Or.inl rfl) (pe_split (pv 0) pe_str))
      (pss_cons (ps_if (pt_cmpR op_eq (pv 0) pe_str (nomark _)) (pss_one (ps_ret (pe_glob (v := .ref aO) rfl gO rfl))) pss_nil)
      (pss_cons (ps_if (PW.pt (pw_and (pt_cmpR op_eq (pe_ix ix_list (pv 1) pe_int (fun _ _ => rfl)) pe_str (nomark _)) (pw_and (pt_cmpR op_in_seq (pe_callB call_len_seq (by rfl) T.len PySem.boot_len (pa_cons (pv 1) pa_nil)) (pe_tup (pa_cons pe_int (pa_cons pe_int pa_nil))) rfl) (pw_and1 (pt_val (by exact pe_call G1 hr rfl m1 k1 b1 .nil pass0 (pa_cons (pe_ix ix_list (pv 1) pe_int (fun _ _ => rfl)) pa_nil)))))))
          (pss_cons (ps_if (pt_cmpR op_eq (pe_callB call_len_seq (by rfl) T.len PySem.boot_len (pa_cons (pv 1) pa_nil)) pe_int (nomark _)) (pss_one (ps_ret (pe_tup (pa_cons pe_str (pa_cons (pe_ix ix_list (pv 1) pe_int (fun _ _ => rfl)) (pa_cons pe_int pa_nil)))))) pss_nil)
          (pss_one (ps_ret (pe_ifExp (PW.pt (pw_and (pt_val (by exact pe_call G2 hr rfl m2 k2 b2 .nil pass0 (pa_cons (pe_ix ix_list (pv 1) pe_int (fun _ _ => rfl)) pa_nil))) (pw_and1 (pt_cmpR op_ne (pe_ix ix_list (pv 1) pe_int (fun _ _ => rfl)) pe_str (nomark _))))) (pe_tup (pa_cons pe_str (pa_cons (pe_ix ix_list (pv 1) pe_int (fun _ _ => rfl)) (pa_cons (pe_callTy call_int_str (by rfl) T.int (by decide +kernel) (pa_cons (pe_ix ix_list (pv 1) pe_int (fun _ _ => rfl)) pa_nil)) pa_nil)))) pe_non)))) pss_nil)
      hps)), ?_⟩
    have fin : ∀ {v : V} {H' : Hp} {d : PyData}, Same H H' → pMov x = d → PMv K H' v d → Q v H' := fun s1 e h => k _ _ s1 (e ▸ h)
    have hxl := ok.len
    refine ⟨_, rfl, ⟨_, rfl⟩, _, _, rfl, rfl, by decide +kernel, (by omega), fun l hl => ?_⟩
    have s1 := Same.new (o := .lst ((Txt.split x " ").map V.str)) hl
    have e1 : (upd H l (.lst ((Txt.split x " ").map V.str))) l = some (.lst ((Txt.split x " ").map V.str)) := upd_same
    generalize upd H l (.lst ((Txt.split x " ").map V.str)) = H1 at s1 e1
    refine ⟨_, rfl, rfl, _, rfl, ?_⟩
    refine ite2 (fun c1 => ?_) (fun c1 => ?_)
    · refine fin (d := .tuple [.str "over"]) s1 ?_ (.tup (sO _) (.str _ .nil))
      unfold pMov
      rw [decide_eq_true (V.str.inj (of_decide_eq_true c1))]
      rfl
    have h1 : ¬ x = "over" := fun z => c1 (decide_eq_true (by rw [z]))
    have ev : pMov x = if (decide ((Txt.split x " ").getD 0 "" = "deed") && ((decide ((Txt.split x " ").length = 2) || decide ((Txt.split x " ").length = 3)) && pName ((Txt.split x " ").getD 1 ""))) = true then pDeed (Txt.split x " ") else pTail (Txt.split x " ") := by
      unfold pMov
      rw [decide_eq_false h1]
      rfl
    have hfew := ok.few
    have hsome := ok.some
    have hwd := ok.wd
    generalize Txt.split x " " = ws at ev e1 hfew hsome hwd
    have hml : (ws.map V.str).length = ws.length := List.length_map ..
    have ix : ∀ {i : Nat} {H' : Hp}, i < ws.length → Same H1 H' → SqL K H' l (ws.map V.str) ∧ atI (ws.map V.str) ((i : Nat) : Int) = some (.str (ws.getD i "")) := fun hi s2 => ⟨SqL.of (s2 _ _ e1), atI_nat (pgetS hi)⟩
    have dd : ∀ (y z : Str), decide (V.str y = V.str z) = decide (y = z) := fun y z => by
      by_cases e : y = z
      · rw [decide_eq_true e, e]
        exact decide_eq_true rfl
      · rw [decide_eq_false e, decide_eq_false (fun q => e (V.str.inj q))]
    refine ⟨_, rfl, l, _, _, _, rfl, rfl, (ix (i := 0) hsome (Same.refl H1)).1, (ix (i := 0) hsome (Same.refl H1)).2, rfl, _, rfl, ?_⟩
    rw [dd]
    have no : ∀ {H' : Hp} {σ : L2.St}, σ[1]? = some (some (.ref l)) → Same H1 H' → (decide (ws.getD 0 "" = "deed") && ((decide (ws.length = 2) || decide (ws.length = 3)) && pName (ws.getD 1 ""))) = false → tr { nx := fun _ H' => Q .non H', rt := Q } σ H' := fun g s2 cN => last ws l _ _ hsome hwd (s2 _ _ e1) g (fun y H6 s6 e => k _ _ (s1.trans (s2.trans s6)) (by
      rw [ev, cN]
      exact e))
    refine ite2 (fun c => ?_) (fun c => ?_)
    · refine ⟨_, rfl, l, _, rfl, .inl (ix (i := 0) hsome (Same.refl H1)).1, (by show 2 ≤ sizeLine; omega), fun t ht => ?_⟩
      have s2 := Same.new (o := .tup [V.int 2, V.int 3]) ht
      have ht2 : (upd H1 t (.tup [V.int 2, V.int 3])) t = some (.tup [V.int 2, V.int 3]) := upd_same
      generalize upd H1 t (.tup [V.int 2, V.int 3]) = H2 at s2 ht2
      refine ⟨t, _, rfl, .inr (SqT.of ht2), rfl, rfl, _, rfl, ?_⟩
      have ei : inV (V.int ((ws.map V.str).length : Int)) [V.int 2, V.int 3] = (decide (ws.length = 2) || decide (ws.length = 3)) := by
        rw [hml]
        show (((2 : Int) == (ws.length : Int)) || (((3 : Int) == (ws.length : Int)) || false)) = _
        rw [Bool.or_false]
        congr 1
        · rw [Bool.eq_iff_iff, beq_iff_eq, decide_eq_true_iff]
          omega
        · rw [Bool.eq_iff_iff, beq_iff_eq, decide_eq_true_iff]
          omega
      rw [ei]
      refine ite2 (fun c2 => ?_) (fun c2 => ?_)
      · have c2 : (decide (ws.length = 2) || decide (ws.length = 3)) = true := c2
        have l2 : 2 ≤ ws.length := by
          rcases (Bool.or_eq_true _ _).mp c2 with z | z
          · have z := of_decide_eq_true z
            omega
          · have z := of_decide_eq_true z
            omega
        refine ⟨_, rfl, l, _, _, _, rfl, rfl, (ix (i := 1) (by omega) s2).1, (ix (i := 1) (by omega) s2).2, ?_⟩
        obtain ⟨w1l, w1n⟩ := hwd _ (pgetS_mem (i := 1) (by omega))
        refine ⟨_, rfl, by omega, fun H3 s3 => ?_⟩
        refine ⟨_, rfl, ?_⟩
        have s23 := s2.trans s3
        cases e : pName (ws.getD 1 "") with
        | false => exact iteF (no rfl s23 (by rw [e]; simp))
        | true =>
          refine iteT ?_
          have ed : pMov x = pDeed ws := by
            rw [ev, c, c2, e]
            rfl
          refine ⟨_, rfl, l, _, rfl, .inl (SqL.of (s23 _ _ e1)), rfl, _, rfl, ?_⟩
          rw [hml]
          refine ite2 (fun c3 => ?_) (fun c3 => ?_)
          · have l22 : ws.length = 2 := by
              have z := V.int.inj (of_decide_eq_true c3)
              omega
            refine ⟨_, rfl, l, _, _, _, rfl, rfl, (ix (i := 1) (by omega) s23).1, (ix (i := 1) (by omega) s23).2, (by show 3 ≤ sizeLine; omega), fun p hp => ?_⟩
            refine fin (s1.trans (s23.trans (Same.new hp))) (d := .tuple [.str "deed", .str (ws.getD 1 ""), .int 0]) ?_ (.tup (SqT.of upd_same) (.str _ (.str _ (.int _ .nil))))
            rw [ed]
            unfold pDeed
            rw [decide_eq_true l22]
            rfl
          · have l33 : ws.length = 3 := by
              rcases (Bool.or_eq_true _ _).mp c2 with z | z
              · exact absurd (decide_eq_true (by rw [of_decide_eq_true z]; rfl)) c3
              · exact of_decide_eq_true z
            have ed2 : pMov x = if (pNum (ws.getD 2 "") && !decide (ws.getD 2 "" = "0")) = true then .tuple [.str "deed", .str (ws.getD 1 ""), pInt (ws.getD 2 "")] else .none := by
              rw [ed]
              unfold pDeed
              rw [decide_eq_false (show ¬ ws.length = 2 by omega)]
              rfl
            obtain ⟨w2l, w2n⟩ := hwd _ (pgetS_mem (i := 2) (by omega))
            refine ⟨_, rfl, l, _, _, _, rfl, rfl, (ix (i := 2) (by omega) s23).1, (ix (i := 2) (by omega) s23).2, ?_⟩
            refine ⟨_, rfl, by omega, fun H4 s4 => ?_⟩
            refine ⟨_, rfl, ?_⟩
            have s24 := s23.trans s4
            cases e4 : pNum (ws.getD 2 "") with
            | false => exact iteF (fin (s1.trans s24) (by rw [ed2, e4]; rfl) .non)
            | true =>
              refine iteT ?_
              refine ⟨_, rfl, l, _, _, _, rfl, rfl, (ix (i := 2) (by omega) s24).1, (ix (i := 2) (by omega) s24).2, rfl, _, rfl, ?_⟩
              rw [dd]
              cases e5 : decide (ws.getD 2 "" = "0") with
              | true => exact iteF (fin (s1.trans s24) (by rw [ed2, e4, e5]; rfl) .non)
              | false =>
                refine iteT ?_
                obtain ⟨n, en⟩ := Option.isSome_iff_exists.mp (w2n e4)
                refine ⟨_, rfl, l, _, _, _, rfl, rfl, (ix (i := 1) (by omega) s24).1, (ix (i := 1) (by omega) s24).2, _, rfl, l, _, _, _, rfl, rfl, (ix (i := 2) (by omega) s24).1, (ix (i := 2) (by omega) s24).2, _, n, rfl, en, by omega, (by show 3 ≤ sizeLine; omega), fun p hp => ?_⟩
                refine fin (s1.trans (s24.trans (Same.new hp))) (d := .tuple [.str "deed", .str (ws.getD 1 ""), .int n]) ?_ (.tup (SqT.of upd_same) (.str _ (.str _ (.int _ .nil))))
                rw [ed2, e4, e5]
                unfold pInt
                rw [en]
                rfl
      · exact no rfl s2 (by
          rw [show (decide (ws.length = 2) || decide (ws.length = 3)) = false from Bool.eq_false_iff.mpr c2]
          simp)
    · exact no rfl (Same.refl H1) (by
        rw [show decide (ws.getD 0 "" = "deed") = false from Bool.eq_false_iff.mpr c]
        rfl)
end
end K6

/-! text PC -/
set_option Elab.async false
set_option linter.all false
set_option maxRecDepth 100000
set_option maxHeartbeats 1000000
namespace K6
open PySem PySem.Spec PyProof.Rows L2
theorem walk_enumSL {K : PySem.W.Frag} {a : Addr} {xs : List V} {k : Nat} : Walk (IteL K k a) xs.length (fun H => SqL K H a xs) (YPair (fun i => some (.int (i + k : Nat))) (fun i => xs[i]?)) := by
  refine ⟨fun i _ hi q => ⟨xs, xs[i], q, by simp [hi]⟩, fun _ q => ⟨xs, q, rfl⟩, fun i H v H' _ q y => ?_⟩
  obtain ⟨T, x, h1, h2, h3, h4⟩ := y
  exact ⟨T, .int (i + k : Nat), x, h1, h2, h3, rfl, h4 xs q⟩
def pIsNo : PyData → Bool
  | .none => true
  | _ => false
def pRows (x : Str) : List Str := if decide (x = "") = true then [] else Txt.split x "\n"
def pRead (rows : List Str) : Except Int (List PyData) := match rows.findIdx? (fun r => pIsNo (pMov r)) with
  | some i => .error (i + 1)
  | none => .ok (rows.map pMov)
inductive PMvAll (K : PySem.W.Frag) (H : Hp) : List V → List PyData → Prop
  | nil : PMvAll K H [] []
  | cons {v : V} {vs : List V} {d : PyData} {ds : List PyData} : PMv K H v d → PMvAll K H vs ds → PMvAll K H (v :: vs) (d :: ds)
theorem PMvAll.snoc {K : PySem.W.Frag} {H : Hp} : ∀ {vs : List V} {ds : List PyData} {v : V} {d : PyData}, PMvAll K H vs ds → PMv K H v d → PMvAll K H (vs ++ [v]) (ds ++ [d])
  | _, _, _, _, .nil, h => .cons h .nil
  | _, _, _, _, .cons a r, h => .cons a (PMvAll.snoc r h)
theorem PMvAll.len {K : PySem.W.Frag} {H : Hp} : ∀ {vs : List V} {ds : List PyData}, PMvAll K H vs ds → vs.length = ds.length
  | _, _, .nil => rfl
  | _, _, .cons _ r => congrArg (· + 1) r.len
/-- all but the lists that stand at s -/
theorem sqt_but {K : PySem.W.Frag} {H H' : Hp} {a s : Addr} {xs ys : List V} (hs : H s = some (.lst ys)) (k : ∀ b o, b ≠ s → H b = some o → H' b = some o) (h : SqT K H a xs) : SqT K H' a xs := by
  rcases h with h | h
  · exact .inl (by
      rcases h with h | ⟨o, h⟩
      · exact .inl (k _ _ (ne_of h hs (by intro z; cases z)) h)
      · exact .inr ⟨o, k _ _ (ne_of h hs (by intro z; cases z)) h⟩)
  · exact .inr h
theorem PMv.but {K : PySem.W.Frag} {H H' : Hp} {s : Addr} {ys : List V} {v : V} {d : PyData} (hs : H s = some (.lst ys)) (k : ∀ b o, b ≠ s → H b = some o → H' b = some o) (h : PMv K H v d) : PMv K H' v d := by
  cases h with
  | non => exact .non
  | tup a b => exact .tup (sqt_but hs k a) b
theorem PMvAll.but {K : PySem.W.Frag} {H H' : Hp} {s : Addr} {ys : List V} (hs : H s = some (.lst ys)) (k : ∀ b o, b ≠ s → H b = some o → H' b = some o) : ∀ {vs : List V} {ds : List PyData}, PMvAll K H vs ds → PMvAll K H' vs ds
  | _, _, .nil => .nil
  | _, _, .cons a r => .cons (a.but hs k) (r.but hs k)
structure PNr (K : PySem.W.Frag) (mg : Str → Option Value) (CB fB : Addr) : Prop where
  isi : mg "isinstance" = none
  str : mg "str" = none
  enum : mg "enumerate" = none
  tup : mg "tuple" = none
  low : PySem.LowX.LowTxt K mg CB fB
abbrev NPr : List Str := ["text", "rows", "story", "number", "row", "move"]
section
variable {P : Program} {w : World} {K : PySem.W.Frag} {mg : Str → Option Value} {base : Heap} {CB fB : Addr}
theorem scPRead : FnScope NPr ["text"] (defScope sPRead) := ⟨rfl, rfl, rfl, by decide +kernel, rfl, by decide +kernel, by decide +kernel⟩
def spPRead (K : PySem.W.Frag) (CB : Addr) : Sp := fun vs H Q E =>
  (∃ x : Str, vs = [.str x] ∧ x.length ≤ 100000 ∧ (pRows x).length ≤ 1000 ∧ (∀ r ∈ pRows x, PRow r) ∧ match pRead (pRows x) with
    | .ok ds => ∀ a xs H', Same H H' → H' a = some (.tup xs) → PMvAll K H' xs ds → Q (.ref a) H'
    | .error l => ∀ H' d, Same H H' → H' d = some (.xd [(("line" : Str), V.int l)]) → E (.ref CB) (some d) H') ∨
  (∃ (v : V) (t : Value), vs = [v] ∧ TyX K H v t ∧ PySem.W.kitOne K t (.type "str") = some false ∧ ∀ H' d, Same H H' → H' d = some (.xd [(("line" : Str), V.int 0)]) → E (.ref CB) (some d) H')
theorem ok_pread {f : Addr} {fd : FuncData} (F : Fun K "read_story" "read_story" sPRead f fd) (T : PNr K mg CB fB) (R1 : FnAt P w K mg base CX0 2 "move_of_text" ["row"] (spPMov K)) : FnOk P w K mg base (L2.CX P w) 4 f fd ["text"] (spPRead K CB) := by
  refine F.okX scPRead (fun vs H Q E h => ?_) (fun cdv A outer s H vs Q E hr h => ?_)
  · rcases h with ⟨x, rfl, _⟩ | ⟨v, t, rfl, _⟩
    · rfl
    · rfl
  · obtain ⟨f1, d1, m1, k1, b1, G1⟩ := R1
    have hr2 : Room 2 _ := hr.mono (by decide)
    have hsl := sizeLine_eq
    obtain ⟨tr, hps, last⟩ : ∃ tr, PSs (cxOf (L2.CX P w) P w K mg base NPr "read_story" (defScope sPRead) f cdv A outer s H E) ((defBody sPRead).drop 2) tr ∧ ∀ (y : V) (rows : List Str) (l : Addr) (H1 : Hp), H1 l = some (.lst (rows.map V.str)) → rows.length ≤ 1000 → (∀ r ∈ rows, PRow r) →
        (∀ ds, pRead rows = .ok ds → ∀ a xs H', Same H1 H' → H' a = some (.tup xs) → PMvAll K H' xs ds → Q (.ref a) H') → (∀ n, pRead rows = .error n → ∀ H' d, Same H1 H' → H' d = some (.xd [(("line" : Str), V.int n)]) → E (.ref CB) (some d) H') →
        tr { nx := fun _ H' => Q .non H', rt := Q } [some y, some (.ref l), none, none, none, none] H1 := by
      refine ⟨_, pss_cons (ps_set (i := 2) scPRead.nd rfl (Or.inl rfl) (pe_lst pa_nil))
        (pss_cons (ps_for (passes_of rfl) rfl (pi_enumL (k := 1) (by decide) rfl T.enum (pa_cons (pv 1) pa_nil)) (pg_tup (by rfl) (pgs_cons (pg_name (i := 3) scPRead.nd rfl (Or.inl rfl)) (pgs_cons (pg_name (i := 4) scPRead.nd rfl (Or.inl rfl)) pgs_nil)))
          (pss_cons (ps_set (i := 5) scPRead.nd rfl (Or.inl rfl) (by exact pe_call G1 hr2 rfl m1 k1 b1 .nil pass0 (pa_cons (pv 4) pa_nil)))
          (pss_cons (ps_if (pt_cmpR op_isN (pv 5) pe_non (nomark _)) (pss_one (ps_raiseLow rfl T.low hr (takes_of rfl rfl rfl rfl) (pa_cons (pv 3) pa_nil))) pss_nil)
          (pss_one (ps_expr (pe_bm PySem.F.plainAttrs_list PySem.F.slot_list_append PySem.F.type_list_append mt_append (pv 2) (pa_cons (pv 5) pa_nil)))))))
        (pss_one (ps_ret (pe_callTy call_tuple_of (by rfl) T.tup (by decide +kernel) (pa_cons (pv 2) pa_nil))))), ?_⟩
      intro y rows l H1 el hn hrw kOk kErr
      refine ⟨Nat.zero_le _, fun st hst => ?_⟩
      have s2 := Same.new (o := .lst ([] : List V)) hst
      have e2 : (upd H1 st (.lst ([] : List V))) st = some (.lst []) := upd_same
      have lst : l ≠ st := ne_of_none el hst
      generalize upd H1 st (.lst ([] : List V)) = H2 at s2 e2
      have el2 := s2 _ _ el
      refine ⟨_, rfl, l, _, rfl, SqL.of el2, ?_⟩
      refine for_it (walk_enumSL (K := K) (a := l) (xs := rows.map V.str) (k := 1)) (fun i σ H' => ∃ x3 x4 x5, σ = [some y, some (.ref l), some (.ref st), x3, x4, x5] ∧ (∀ b o, b ≠ st → H1 b = some o → H' b = some o) ∧ (∀ r ∈ rows.take i, pIsNo (pMov r) = false) ∧ ∃ xs, H' st = some (.lst xs) ∧ PMvAll K H' xs ((rows.take i).map pMov)) ?_ ?_ ?_ ?_
      · exact ⟨none, none, none, rfl, fun b o _ e => s2 _ _ e, fun r hr => by simp at hr, [], e2, by simpa using PMvAll.nil⟩
      · rintro i σ H' _ ⟨x3, x4, x5, rfl, kp, _⟩
        exact SqL.of (kp _ _ lst el)
      · rintro i v σ H3 H4 hi ⟨x3, x4, x5, rfl, kp, nn, xs, hxs, pm⟩ ⟨T', a, b, rfl, hT, rfl, ha, hb⟩
        cases ha
        rw [List.length_map] at hi
        have hrow : rows[i]? = some rows[i] := List.getElem?_eq_getElem hi
        have hb : (rows.map V.str)[i]? = some b := hb
        rw [List.getElem?_map, hrow] at hb
        cases hb
        have s4 := Same.new (o := .tup [V.int ((i + 1 : Nat) : Int), V.str rows[i]]) hT
        refine ⟨T', _, rfl, SqT.of upd_same, rfl, _, _, rfl, _, _, rfl, rfl, ?_⟩
        generalize upd H3 T' (.tup [V.int ((i + 1 : Nat) : Int), V.str rows[i]]) = H4 at s4
        refine ⟨_, rfl, rows[i], rfl, hrw _ (List.getElem_mem hi), fun v H5 s5 pv => ?_⟩
        have s45 := s4.trans s5
        have hx5 := s45 _ _ hxs
        have tk : rows.take (i + 1) = rows.take i ++ [rows[i]] := by
          rw [List.take_add_one, hrow]
          rfl
        have kp5 : ∀ b o, b ≠ st → H1 b = some o → H5 b = some o := fun b o hb e => s45 _ _ (kp b o hb e)
        refine ⟨_, rfl, rfl, _, rfl, ?_⟩
        generalize ed : pMov rows[i] = d at pv
        cases pv with
        | non =>
          refine iteT ?_
          refine ⟨_, rfl, _, rfl, fun dd hd => ?_⟩
          refine kErr ((i + 1 : Nat) : Int) ?_ _ _ (Same.trans (fun b o e => kp5 b o (ne_of_none e hst) e) (Same.new hd)) upd_same
          unfold pRead
          rw [List.findIdx?_eq_some_iff_getElem.mpr ⟨hi, (by rw [ed]; rfl), fun j hj => by
            rw [nn _ (by rw [List.mem_take_iff_getElem]; exact ⟨j, by omega, rfl⟩)]
            exact Bool.false_ne_true⟩]
          rfl
        | tup sq fl =>
          refine iteF ?_
          refine ⟨_, rfl, .inl ⟨rfl, _, SqL.of hx5⟩, _, rfl, st, _, _, rfl, rfl, hx5, ?_, ?_⟩
          · have z := pm.len
            rw [z, List.length_map, List.length_take]
            omega
          · refine ⟨_, _, _, rfl, fun b o hb e => by rw [upd_ne hb]; exact kp5 b o hb e, fun r hr => ?_, _, upd_same, ?_⟩
            · rw [tk] at hr
              rcases List.mem_append.mp hr with z | z
              · exact nn r z
              · rw [List.mem_singleton.mp z, ed]
                rfl
            · rw [tk, List.map_append]
              exact ((pm.but hxs (fun b o _ e => s45 b o e)).snoc (by rw [ed]; exact .tup sq fl)).but hx5 (fun b o hb e => by rw [upd_ne hb]; exact e)
      · rintro σ H' ⟨x3, x4, x5, rfl, kp, nn, xs, hxs, pm⟩
        rw [List.length_map] at nn pm
        rw [List.take_length] at nn pm
        refine ⟨_, rfl, st, _, rfl, .inl ⟨SqL.of hxs, fun p hp => ?_⟩⟩
        refine kOk (rows.map pMov) ?_ p xs _ (Same.trans (fun b o e => kp b o (ne_of_none e hst) e) (Same.new hp)) upd_same (pm.but hxs (fun b o hb e => Same.new hp b o e))
        unfold pRead
        rw [List.findIdx?_eq_none_iff.mpr nn]
    refine ⟨_, pss_cons (ps_if (pt_not (pt_val (pe_callB call_isi (by rfl) T.isi (by decide +kernel) (pa_cons (pv 0) (pa_cons (pe_bltn (v := .ty "str") (by rfl) T.str (by decide +kernel) rfl) pa_nil))))) (pss_one (ps_raiseLow rfl T.low hr (takes_of rfl rfl rfl rfl) (pa_cons pe_int pa_nil))) pss_nil)
      (pss_cons (ps_set (i := 1) scPRead.nd rfl (Or.inl rfl) (pe_ifExp (pt_cmpR op_eq (pv 0) pe_str (nomark _)) (pe_lst pa_nil) (pe_split (pv 0) pe_str))) hps), ?_⟩
    rcases h with ⟨x, rfl, hx, hn, hrw, k⟩ | ⟨v, t, rfl, ht, hk, k⟩
    · refine ⟨_, rfl, _, _, .type "str", .type "str", true, rfl, .ty "str", .base (.str _), kit_ty (by decide +kernel), _, rfl, ?_⟩
      refine iteF ?_
      have go : ∀ l H1, Same H H1 → H1 l = some (.lst ((pRows x).map V.str)) → tr { nx := fun _ H' => Q .non H', rt := Q } [some (.str x), some (.ref l), none, none, none, none] H1 := fun l H1 s1 el => last (.str x) (pRows x) l H1 el hn hrw (fun ds e a xs H' s2 ha pm => by
        rw [e] at k
        exact k a xs H' (s1.trans s2) ha pm) (fun n e H' d s2 hd => by
        rw [e] at k
        exact k H' d (s1.trans s2) hd)
      refine ⟨_, rfl, rfl, _, rfl, ?_⟩
      refine ite2 (fun c => ?_) (fun c => ?_)
      · refine ⟨Nat.zero_le _, fun l hl => go l _ (Same.new hl) ?_⟩
        unfold pRows
        rw [upd_same, decide_eq_true (V.str.inj (of_decide_eq_true c))]
        rfl
      · refine ⟨_, rfl, ⟨_, rfl⟩, _, _, rfl, rfl, by decide +kernel, (by omega), fun l hl => go l _ (Same.new hl) ?_⟩
        unfold pRows
        rw [upd_same, decide_eq_false (fun z => c (decide_eq_true (by rw [z])))]
        rfl
    · refine ⟨_, rfl, _, _, t, .type "str", false, rfl, .ty "str", ht, hk, _, rfl, ?_⟩
      refine iteT ?_
      exact ⟨_, rfl, fun d hd => k _ _ (Same.new hd) upd_same⟩
end
end K6

/-! text PE -/
set_option Elab.async false
set_option linter.all false
set_option maxRecDepth 100000
set_option maxHeartbeats 1000000
namespace K6
open PySem PySem.Spec PyProof.Rows L2
/-! ### rows that are few -/
def flE : PyData → PyData → Bool
  | .int a, .int b => decide (a = b)
  | .str a, .str b => decide (a = b)
  | _, _ => false
def flEs : List PyData → List PyData → Bool
  | [], [] => true
  | a :: r, b :: q => flE a b && flEs r q
  | _, _ => false
def flT : PyData → PyData → Bool
  | .none, .none => true
  | .tuple a, .tuple b => flEs a b
  | _, _ => false
theorem flE_eq : ∀ {a b : PyData}, flE a b = true → a = b
  | .int a, .int b, h => by rw [of_decide_eq_true h]
  | .str a, .str b, h => by rw [of_decide_eq_true h]
theorem flEs_eq : ∀ {a b : List PyData}, flEs a b = true → a = b
  | [], [], _ => rfl
  | a :: r, b :: q, h => by
    have h' : (flE a b && flEs r q) = true := h
    rw [Bool.and_eq_true] at h'
    rw [flE_eq h'.1, flEs_eq h'.2]
theorem flT_eq : ∀ {a b : PyData}, flT a b = true → a = b
  | .none, .none, _ => rfl
  | .tuple a, .tuple b, h => by rw [flEs_eq h]
def pWdB (w : Str) : Bool := decide (w.length ≤ 100) && (!pNum w || (PySem.intText? w).isSome)
def pRowB (r : Str) : Bool := decide (r.length ≤ 100) && (decide ((Txt.split r " ").length ≤ 100) && (decide (0 < (Txt.split r " ").length) && (Txt.split r " ").all pWdB))
theorem prow_of {r : Str} (h : pRowB r = true) : PRow r := by
  unfold pRowB at h
  simp only [Bool.and_eq_true, decide_eq_true_eq, List.all_eq_true] at h
  refine ⟨h.1, h.2.1, h.2.2.1, fun w hw => ?_⟩
  have z := h.2.2.2 w hw
  unfold pWdB at z
  simp only [Bool.and_eq_true, decide_eq_true_eq, Bool.or_eq_true, Bool.not_eq_true'] at z
  refine ⟨z.1, fun e => ?_⟩
  rcases z.2 with q | q
  · rw [e] at q
    cases q
  · exact q
theorem prows_join {rs : List Str} (hne : rs ≠ []) (hn : ∀ r ∈ rs, (10 : Nat) ∉ TL.tl r) : pRows (Txt.join "\n" rs) = if rs = ([""] : List Str) then [] else rs := by
  have hs : Txt.split (Txt.join "\n" rs) "\n" = rs := TL.split_join (s := 10) (S := []) (by decide +kernel) (by decide +kernel) hne hn
  unfold pRows
  rw [hs]
  by_cases e : rs = ([""] : List Str)
  · rw [if_pos e, e]
    rfl
  · rw [if_neg e, if_neg]
    intro z
    have z := of_decide_eq_true z
    rw [z] at hs
    exact e (hs.symm.trans (by decide +kernel))
theorem FnOk.weak {P : Program} {w : World} {K : PySem.W.Frag} {mg : Str → Option Value} {base : Heap} {CX : CXT} {k : Nat} {f : Addr} {fd : FuncData} {ps : List Str} {sp sp' : Sp} (F : FnOk P w K mg base CX k f fd ps sp) (h : ∀ vs H Q E, sp' vs H Q E → sp vs H Q E) : FnOk P w K mg base CX k f fd ps sp' :=
  ⟨fun vs H Q E z => F.len _ _ _ _ (h _ _ _ _ z), fun A os s H ar us vs Q E a b c d e => F.run A os s H ar us vs Q E a b c d (h _ _ _ _ e)⟩
end K6

/-! text DZ -/
set_option Elab.async false
set_option linter.all false
set_option maxRecDepth 100000
set_option maxHeartbeats 1000000
namespace K6
open PySem PySem.Spec PyProof.Rows L2
/-! ### data with empty dicts in it -/
mutual
inductive Dz (K : PySem.W.Frag) (S : Addr → Prop) (H : Hp) : V → PyData → Prop
  | non : Dz K S H .non .none
  | bl (b : Bool) : Dz K S H (.bl b) (.bool b)
  | int (i : Int) : Dz K S H (.int i) (.int i)
  | str (x : Str) : Dz K S H (.str x) (.str x)
  | lst {a : Addr} {xs : List V} {ds : List PyData} : S a → H a = some (.lst xs) → DzAll K S H xs ds → Dz K S H (.ref a) (.list ds)
  | tup {a : Addr} {xs : List V} {ds : List PyData} : SqT K H a xs → DzAll K S H xs ds → Dz K S H (.ref a) (.tuple ds)
  | dct {a : Addr} : H a = some (.dK []) → Dz K S H (.ref a) (.dict [])
inductive DzAll (K : PySem.W.Frag) (S : Addr → Prop) (H : Hp) : List V → List PyData → Prop
  | nil : DzAll K S H [] []
  | cons {v : V} {vs : List V} {d : PyData} {ds : List PyData} : Dz K S H v d → DzAll K S H vs ds → DzAll K S H (v :: vs) (d :: ds)
end
/-- the object of the loaded modules is known, and is none of ours -/
def SysH (H : Hp) : Prop := ∃ o, H sysModules = some (.frz o (.ext fun _ => True))
theorem SysH.same {H H' : Hp} (h : SysH H) (k : Same H H') : SysH H' := by
  obtain ⟨o, e⟩ := h
  exact ⟨o, k _ _ e⟩
/-- another heap that holds what the data hold -/
structure Hold (S S' : Addr → Prop) (H H' : Hp) : Prop where
  ad : ∀ a, S a → S' a
  ls : ∀ a xs, S a → H a = some (.lst xs) → H' a = some (.lst xs)
  tp : ∀ a o, (∀ xs, o ≠ .lst xs) → (∀ ps, o ≠ .tbl ps) → H a = some o → H' a = some o
theorem Hold.same {S : Addr → Prop} {H H' : Hp} (k : Same H H') : Hold S S H H' := ⟨fun _ h => h, fun _ _ _ e => k _ _ e, fun _ _ _ _ e => k _ _ e⟩
theorem sqt_hold {K : PySem.W.Frag} {S S' : Addr → Prop} {H H' : Hp} {a : Addr} {xs : List V} (k : Hold S S' H H') (h : SqT K H a xs) : SqT K H' a xs := by
  rcases h with h | h
  · exact .inl (by
      rcases h with h | ⟨o, h⟩
      · exact .inl (k.tp _ _ (fun _ z => by cases z) (fun _ z => by cases z) h)
      · exact .inr ⟨o, k.tp _ _ (fun _ z => by cases z) (fun _ z => by cases z) h⟩)
  · exact .inr h
mutual
theorem dz_hold {K : PySem.W.Frag} {S S' : Addr → Prop} {H H' : Hp} (k : Hold S S' H H') : ∀ (d : PyData) (v : V), Dz K S H v d → Dz K S' H' v d
  | .none, _, h => by cases h; exact .non
  | .bool b, _, h => by cases h; exact .bl b
  | .int i, _, h => by cases h; exact .int i
  | .str x, _, h => by cases h; exact .str x
  | .list ds, _, h => by
    cases h with
    | lst hS hs ha => exact .lst (k.ad _ hS) (k.ls _ _ hS hs) (dzs_hold k ds _ ha)
  | .tuple ds, _, h => by
    cases h with
    | tup hs ha => exact .tup (sqt_hold k hs) (dzs_hold k ds _ ha)
  | .dict _, _, h => by
    cases h with
    | dct e => exact .dct (k.tp _ _ (fun _ z => by cases z) (fun _ z => by cases z) e)
theorem dzs_hold {K : PySem.W.Frag} {S S' : Addr → Prop} {H H' : Hp} (k : Hold S S' H H') : ∀ (ds : List PyData) (vs : List V), DzAll K S H vs ds → DzAll K S' H' vs ds
  | [], _, h => by cases h; exact .nil
  | d :: ds, _, h => by
    cases h with
    | cons h1 h2 => exact .cons (dz_hold k d _ h1) (dzs_hold k ds _ h2)
end
theorem dz_same {K : PySem.W.Frag} {S : Addr → Prop} {H H' : Hp} {d : PyData} {v : V} (k : Same H H') (h : Dz K S H v d) : Dz K S H' v d := dz_hold (Hold.same k) d v h
theorem dzs_same {K : PySem.W.Frag} {S : Addr → Prop} {H H' : Hp} {ds : List PyData} {vs : List V} (k : Same H H') (h : DzAll K S H vs ds) : DzAll K S H' vs ds := dzs_hold (Hold.same k) ds vs h
theorem dzs_app {K : PySem.W.Frag} {S : Addr → Prop} {H : Hp} : ∀ {ds es : List PyData} {vs ws : List V}, DzAll K S H vs ds → DzAll K S H ws es → DzAll K S H (vs ++ ws) (ds ++ es)
  | _, _, _, _, .nil, h => h
  | _, _, _, _, .cons a b, h => .cons a (dzs_app b h)
theorem dzs_len {K : PySem.W.Frag} {S : Addr → Prop} {H : Hp} : ∀ {ds : List PyData} {vs : List V}, DzAll K S H vs ds → vs.length = ds.length
  | _, _, .nil => rfl
  | _, _, .cons _ b => by rw [List.length_cons, List.length_cons, dzs_len b]
theorem dzs_take {K : PySem.W.Frag} {S : Addr → Prop} {H : Hp} : ∀ {ds : List PyData} {vs : List V} (n : Nat), DzAll K S H vs ds → DzAll K S H (vs.take n) (ds.take n)
  | _, _, 0, _ => .nil
  | _, _, _ + 1, .nil => .nil
  | _, _, n + 1, .cons a b => .cons a (dzs_take n b)
theorem dzs_drop {K : PySem.W.Frag} {S : Addr → Prop} {H : Hp} : ∀ {ds : List PyData} {vs : List V} (n : Nat), DzAll K S H vs ds → DzAll K S H (vs.drop n) (ds.drop n)
  | _, _, 0, h => h
  | _, _, _ + 1, .nil => .nil
  | _, _, n + 1, .cons _ b => dzs_drop n b
theorem dzs_at {K : PySem.W.Frag} {S : Addr → Prop} {H : Hp} : ∀ {ds : List PyData} {vs : List V} {i : Nat} {v : V}, DzAll K S H vs ds → vs[i]? = some v → ∃ d, ds[i]? = some d ∧ Dz K S H v d
  | _, _, 0, _, .cons a _, e => ⟨_, rfl, by cases e; exact a⟩
  | _, _, n + 1, _, .cons _ b, e => dzs_at (i := n) b e
/-- the pot is drawn from: data away from it stay -/
theorem Hold.fr {a : Addr} {S : Addr → Prop} {H H' : Hp} (k : Fr a H H') (h : ∀ b, S b → b ≠ a) {ps : List V} (hp : H a = some (.lst ps)) : Hold S S H H' := ⟨fun _ h => h, fun b _ s e => k b _ (h b s) e, fun b _ n _ e => k b _ (fun z => by
  rw [z, hp] at e
  exact n _ (Option.some.inj e).symm) e⟩
/-- a list that is none of the data's changes -/
theorem Hold.upd {D : Addr} {S : Addr → Prop} {H : Hp} {xs : List V} {o : HO} (hD : H D = some (.lst xs)) (h : ∀ b, S b → b ≠ D) : Hold S S H (upd H D o) := ⟨fun _ h => h, fun b _ s e => by rw [upd_ne (h b s)]; exact e, fun b _ n _ e => by
  rw [upd_ne (fun z => by
    rw [z, hD] at e
    exact n _ (Option.some.inj e).symm)]
  exact e⟩
/-- all but the tables of code stay -/
theorem Hold.tbl {S : Addr → Prop} {H H' : Hp} (k : ∀ b o, H b = some o → (∀ ps, o ≠ .tbl ps) → H' b = some o) : Hold S S H H' := ⟨fun _ h => h, fun _ _ _ e => k _ _ e (fun _ z => by cases z), fun _ _ _ n e => k _ _ e n⟩
/-- data without lists: any addresses -/
theorem Hold.any {S' : Addr → Prop} {H H' : Hp} (k : ∀ b o, (∀ xs, o ≠ .lst xs) → (∀ ps, o ≠ .tbl ps) → H b = some o → H' b = some o) : Hold (fun _ => False) S' H H' := ⟨fun _ h => h.elim, fun _ _ h => h.elim, k⟩
section
variable {X : Cx} {pins : List (Addr × Obj)} {σ : L2.St} {H : Hp} {s : Shared}
mutual
theorem dz_reads {S0 : Addr → Prop} (I : Inv X pins σ H s) (S : SysH H) : ∀ (d : PyData) (v : V) (u : Value), Dz X.K S0 H v d → RelV v u → ∃ as, Reads s.heap u d as ∧ sysModules ∉ as
  | .none, _, _, h, r => by
    cases h
    cases r
    exact ⟨_, Reads.none, by simp⟩
  | .bool b, _, _, h, r => by
    cases h
    cases r
    exact ⟨_, Reads.bool b, by simp⟩
  | .int i, _, _, h, r => by
    cases h
    obtain ⟨t, rfl⟩ := r
    exact ⟨_, Reads.int i t, by simp⟩
  | .str x, _, _, h, r => by
    cases h
    obtain ⟨t, rfl⟩ := r
    exact ⟨_, Reads.str x t, by simp⟩
  | .list ds, _, _, h, r => by
    cases h with
    | lst hS hs ha =>
      rename_i a xs
      cases r
      have ne : sysModules ≠ a := fun z => by
        obtain ⟨o0, e0⟩ := S
        subst z
        rw [e0] at hs
        cases hs
      obtain ⟨its, rv, ⟨o, n, ho, hc, _, hd⟩, _⟩ := I.list (SqL.of hs)
      obtain ⟨as, hr, hn⟩ := dzs_reads I S ds _ its ha rv
      refine ⟨_, Reads.list ho hc hd hr, fun hm => ?_⟩
      rcases List.mem_cons.mp hm with z | z
      · exact ne z
      · exact hn z
  | .tuple ds, _, _, h, r => by
    cases h with
    | tup hs ha =>
      cases r
      obtain ⟨its, rv, ⟨o, ho, hc, n, hd⟩, _⟩ := I.tuple hs
      obtain ⟨as, hr, hn⟩ := dzs_reads I S ds _ its ha rv
      exact ⟨_, Reads.tuple ho hc hd hr, hn⟩
  | .dict _, _, _, h, r => by
    cases h with
    | dct e =>
      rename_i a
      cases r
      obtain ⟨_, hs, vs, hv, o, es, ep, ho, hx, hd, hk, hp, _⟩ := (show ObjOk X.prog X.w H s.heap a (.dK []) from I.hok a _ e)
      cases hv
      have he : es.toList = [] := by
        cases hq : es.toList with
        | nil => rfl
        | cons y l =>
          rw [hq] at hp
          cases hp
      have q : Reads s.heap (.ref a) (.dict []) (a :: [] ++ []) := Reads.dict ho hx.1 hd (by rw [he]; exact ReadsAll.nil) (by rw [he]; exact ReadsAll.nil)
      refine ⟨_, q, fun hm => ?_⟩
      have z : sysModules = a := by simpa using hm
      rw [← z] at hs
      cases hs
theorem dzs_reads {S0 : Addr → Prop} (I : Inv X pins σ H s) (S : SysH H) : ∀ (ds : List PyData) (vs : List V) (us : List Value), DzAll X.K S0 H vs ds → Vals vs us → ∃ as, ReadsAll s.heap us ds as ∧ sysModules ∉ as
  | [], _, _, h, r => by
    cases h
    cases r
    exact ⟨_, ReadsAll.nil, by simp⟩
  | d :: ds, _, _, h, r => by
    cases h with
    | cons h1 h2 =>
      cases r with
      | cons r1 r2 =>
        obtain ⟨as, q1, n1⟩ := dz_reads I S d _ _ h1 r1
        obtain ⟨bs, q2, n2⟩ := dzs_reads I S ds _ _ h2 r2
        refine ⟨_, ReadsAll.cons q1 q2, fun hm => ?_⟩
        rcases List.mem_append.mp hm with z | z
        · exact n1 z
        · exact n2 z
end
end
section
variable {X : Cx}
def rReprZ (X : Cx) : List V → Hp → VK → Prop := fun xs H Q => ∃ (S0 : Addr → Prop) (a : Addr) (d : PyData), xs = [V.ref a] ∧ SysH H ∧ Dz X.K S0 H (.ref a) d ∧ d.showable = true ∧ d.depth ≤ 60 ∧ d.shown.length ≤ sizeLine ∧ Q (.str d.shown) H
theorem call_reprZ (hG : X.A.guards = some []) (hu : X.A.units + 64 < cLine) : CallR X (.builtin "repr") (rReprZ X) := by
  intro pins s σ H xs us Q I r h
  obtain ⟨S0, a, d, rfl, S, hd, hs, hl, hz, q⟩ := h
  rw [Vals.ref1 r]
  obtain ⟨as, rd, hn⟩ := dz_reads I S d _ _ hd rfl
  exact repr_of_reads' rd hs (fun _ => hn) hG (by omega) (fun b o z => z) (fun h' u tk hk => ⟨.str d.shown, H, I.kept hk, ⟨u, rfl⟩, q⟩) hz
end
end K6

/-! text ZE -/
set_option Elab.async false
set_option linter.all false
set_option maxRecDepth 100000
set_option maxHeartbeats 1000000
namespace K6
open PySem PySem.Spec PyProof.Rows L2
/-! ### expressions by the data that they come to; a: the pot -/
def EvZ (K : PySem.W.Frag) (a : Addr) (te : TE) (σ : L2.St) (H : Hp) (d : PyData) : Prop := ∀ H1, Same H H1 → ∀ Q : VK, (∀ v H2, Same H1 H2 → Dz K (fun b => b ≠ a) H2 v d → Q v H2) → te σ H1 Q
def EvZA (K : PySem.W.Frag) (a : Addr) (t : TA) (σ : L2.St) (H : Hp) (ds : List PyData) : Prop := ∀ H1, Same H H1 → ∀ Q : List V → Hp → Prop, (∀ vs H2, Same H1 H2 → DzAll K (fun b => b ≠ a) H2 vs ds → Q vs H2) → t σ H1 Q
section
variable {K : PySem.W.Frag} {a : Addr} {te ta tb : TE} {t tr : TA} {σ : L2.St} {H : Hp} {d : PyData} {ds es : List PyData}
theorem z_s {x : Str} : EvZ K a (tC (.str x)) σ H (.str x) := fun H1 k Q q => q _ _ (Same.refl _) (.str x)
theorem z_i {x : Int} : EvZ K a (tC (.int x)) σ H (.int x) := fun H1 k Q q => q _ _ (Same.refl _) (.int x)
theorem z_neg {x : Int} : EvZ K a (tUn (rU fun i => .int (-i)) (tC (.int x))) σ H (.int (-x)) := fun H1 k Q q => ⟨x, rfl, q _ _ (Same.refl _) (.int (-x))⟩
theorem z_b {x : Bool} : EvZ K a (tC (.bl x)) σ H (.bool x) := fun H1 k Q q => q _ _ (Same.refl _) (.bl x)
theorem z_n : EvZ K a (tC .non) σ H .none := fun H1 k Q q => q _ _ (Same.refl _) .non
theorem z_nil : EvZA K a tNil σ H [] := fun H1 k Q q => q _ _ (Same.refl _) .nil
theorem z_cons (h : EvZ K a ta σ H d) (g : EvZA K a tr σ H ds) : EvZA K a (tCons ta tr) σ H (d :: ds) := fun H1 k Q q => h H1 k _ fun v H2 k2 r => g H2 (k.trans k2) _ fun vs H3 k3 rs => q (v :: vs) H3 (k2.trans k3) (.cons (dz_same k3 r) rs)
theorem z_tup (h : EvZA K a t σ H ds) (hl : ds.length ≤ 1000) : EvZ K a (tTup t) σ H (.tuple ds) := fun H1 k Q q => h H1 k _ fun vs H2 k2 rs => ⟨by rw [dzs_len rs, sizeLine_eq]; omega, fun p hp => q _ _ (k2.trans (Same.new hp)) (.tup (SqT.of upd_same) (dzs_same (Same.new hp) rs))⟩
theorem z_lst (hp : ∃ o, H a = some o) (h : EvZA K a t σ H ds) (hl : ds.length ≤ 1000) : EvZ K a (tLst t) σ H (.list ds) := fun H1 k Q q => h H1 k _ fun vs H2 k2 rs => ⟨by rw [dzs_len rs, sizeLine_eq]; omega, fun p hn => q _ _ (k2.trans (Same.new hn)) (.lst (fun z => by
  obtain ⟨o, e⟩ := hp
  have e2 := k2 _ _ (k _ _ e)
  rw [z, e2] at hn
  cases hn) upd_same (dzs_same (Same.new hn) rs))⟩
theorem z_cat (hp : ∃ o, H a = some o) (h : EvZ K a ta σ H (.list ds)) (g : EvZ K a tb σ H (.list es)) (hl : ds.length + es.length ≤ 1000) : EvZ K a (tOp rCat ta tb) σ H (.list (ds ++ es)) := fun H1 k Q q => h H1 k _ fun v H2 k2 r => g H2 (k.trans k2) _ fun w H3 k3 r2 => by
  cases r with
  | lst s1 e1 a1 =>
    cases r2 with
    | lst s2 e2 a2 =>
      refine ⟨_, _, _, _, rfl, rfl, k3 _ _ e1, e2, by rw [dzs_len a1, dzs_len a2, sizeLine_eq]; omega, fun p hn => q _ _ ((k2.trans k3).trans (Same.new hn)) (.lst (fun z => ?_) upd_same (dzs_same (Same.new hn) (dzs_app (dzs_same k3 a1) a2)))⟩
      obtain ⟨o, e⟩ := hp
      have e2 := k3 _ _ (k2 _ _ (k _ _ e))
      rw [z, e2] at hn
      cases hn
theorem z_dnew : EvZ K a tDNewK σ H (.dict []) := fun H1 k Q q p hn => q _ _ (Same.new hn) (.dct upd_same)
theorem z_v {i : Nat} {v : V} (e : σ[i]? = some (some v)) (r : Dz K (fun b => b ≠ a) H v d) : EvZ K a (tVar i) σ H d := fun H1 k Q q => ⟨v, e, q v H1 (Same.refl _) (dz_same k r)⟩
theorem seq_z {i : Nat} {Dn : Ends} {u : TS} (h : EvZ K a te σ H d) (q : ∀ v H2, Same H H2 → Dz K (fun b => b ≠ a) H2 v d → u Dn (σ.set i (some v)) H2) : tSeq (tAsg te (gName i)) u Dn σ H := h H (Same.refl H) _ fun v H2 k r => q v H2 k r
theorem z_is {e : PyData} (h : EvZ K a te σ H d) (q : d = e) : EvZ K a te σ H e := q ▸ h
end
end K6

/-! text PN -/
set_option Elab.async false
set_option linter.all false
set_option maxRecDepth 100000
set_option maxHeartbeats 1000000
namespace K6
open PySem PySem.Spec PyProof.Rows L2
theorem Pot.same {a : Addr} {p0 p1 p2 : Int} {H H' : Hp} (h : Pot a p0 p1 p2 H) (k : Same H H') : Pot a p0 p1 p2 H' := ⟨k _ _ h.1, h.2⟩
theorem Pot.ne {a b : Addr} {p0 p1 p2 : Int} {H : Hp} (h : Pot a p0 p1 p2 H) (k : H b = none) : b ≠ a := fun z => by
  rw [z, h.1] at k
  cases k
def nameL : List Str := (["a", "tell", "deed", "over", "zzzzzzzz", "its", "ask", "sends"] : List Str)
def numL : List Int := [0, 0, 1, 2, 9, 10, 99, 100, 999]
def wordL : List Str := (["deed", "deed", "deed", "sends", "does", "comes", "gone", "over"] : List Str)
def no0 : List PyData := [.none, .tuple [], .str "over", .list [.str "over"], .tuple [.str "over", .int 0], .tuple [.str "deed"], .tuple [.str "deed", .str "a"], .tuple [.str "deed", .str "it", .int 0], .tuple [.str "deed", .str "asked", .int 1]]
def no1 : List PyData := [.tuple [.str "deed", .str "abcdefghi", .int 0], .tuple [.str "deed", .str "", .int 0], .tuple [.str "deed", .str "a1", .int 0], .tuple [.str "deed", .str "A", .int 0], .tuple [.str "deed", .str "a", .int 1000]]
def no2 : List PyData := [.tuple [.str "deed", .str "a", .int (-1)], .tuple [.str "deed", .str "a", .bool true], .tuple [.str "deed", .str "a", .none], .tuple [.str "deed", .int 3, .int 0], .tuple [.str "deed", .str "a", .int 0, .int 0]]
def no3 : List PyData := [.tuple [.str "sends"], .tuple [.str "sends", .int 1000], .tuple [.str "sends", .int (-1)], .tuple [.str "does", .bool false], .tuple [.str "comes", .str "0"]]
def no4 : List PyData := [.tuple [.str "gone", .int 1, .int 2], .tuple [.str "go", .int 1], .tuple [.none, .int 1], .tuple [.list [.str "does"], .int 1]]
def no5 : List PyData := [.tuple [.str "deed", .list [.str "a"], .int 0], .tuple [.tuple [.str "over"]], .int 7, .dict []]
/-- what is no move by its form -/
def noneL : List PyData := ((((no0 ++ no1) ++ no2) ++ no3) ++ no4) ++ no5
/-- a move by its form -/
inductive MvOk : PyData → Prop
  | deed (x : Str) (i : Int) : x ∈ nameL → i ∈ numL → MvOk (.tuple [.str "deed", .str x, .int i])
  | over : MvOk (.tuple [.str "over"])
  | word (x : Str) (i : Int) : x ∈ (["sends", "does", "comes", "gone"] : List Str) → i ∈ numL → MvOk (.tuple [.str x, .int i])
abbrev sName : Stmt := top 29
abbrev sNum : Stmt := top 30
abbrev sMove : Stmt := top 31
abbrev sNone : Stmt := top 32
section
variable {P : Program} {w : World} {K : PySem.W.Frag} {mg : Str → Option Value} {base : Heap}
theorem scName : FnScope ["_law_pot_here"] ["_law_pot_here"] (defScope sName) := ⟨rfl, rfl, rfl, by decide +kernel, rfl, by decide +kernel, by decide +kernel⟩
theorem scNum : FnScope ["_law_pot_here"] ["_law_pot_here"] (defScope sNum) := ⟨rfl, rfl, rfl, by decide +kernel, rfl, by decide +kernel, by decide +kernel⟩
theorem scMove : FnScope ["_law_pot_here", "_law_word"] ["_law_pot_here"] (defScope sMove) := ⟨rfl, rfl, rfl, by decide +kernel, rfl, by decide +kernel, by decide +kernel⟩
theorem scNone : FnScope ["_law_pot_here", "_law_some"] ["_law_pot_here"] (defScope sNone) := ⟨rfl, rfl, rfl, by decide +kernel, rfl, by decide +kernel, by decide +kernel⟩
def spDraw (n : Int) (G : V → Hp → Addr → Prop) : Sp := fun vs H Q _ => ∃ (a : Addr) (p0 p1 p2 : Int), vs = [.ref a] ∧ Pot a p0 p1 p2 H ∧ p2 ≤ 590 - n ∧ ∀ v q0 q2 H', G v H' a → q2 ≤ p2 + n → Fr a H H' → Pot a q0 p1 q2 H' → Q v H'
def spName : Sp := spDraw 1 fun v _ _ => ∃ x ∈ nameL, v = .str x
def spNum : Sp := spDraw 1 fun v _ _ => ∃ i ∈ numL, v = .int i
def spMove (K : PySem.W.Frag) : Sp := spDraw 3 fun v H _ => ∃ d, MvOk d ∧ ∀ S, Dz K S H v d
def spNone (K : PySem.W.Frag) : Sp := spDraw 1 fun v H a => ∃ d ∈ noneL, Dz K (fun b => b ≠ a) H v d
theorem ok_name {f : Addr} {fd : FuncData} (F : Fun K "_law_name" "_law_name" sName f fd) (R : FnAt P w K mg base CX0 2 "_law_of" ["_law_pot_here", "_law_some"] spOf) : FnOk P w K mg base CX0 3 f fd ["_law_pot_here"] spName := by
  refine F.ok scName (fun vs H Q E h => ?_) (fun cdv A outer s0 H vs Q E hr h => ?_)
  · obtain ⟨a, p0, p1, p2, rfl, _⟩ := h
    rfl
  · obtain ⟨a, p0, p1, p2, rfl, hp, h2, q⟩ := h
    obtain ⟨f1, d1, m1, k1, b1, G1⟩ := R
    refine ⟨_, pss_one (ps_ret (by exact pe_call G1 hr rfl m1 k1 b1 .nil pass0 (pa_cons (pv 0) (pa_cons (pe_lst (pa_cons pe_str (pa_cons pe_str (pa_cons pe_str (pa_cons pe_str (pa_cons pe_str (pa_cons pe_str (pa_cons pe_str (pa_cons pe_str pa_nil))))))))) pa_nil)))), ?_⟩
    refine ⟨_, rfl, (Nat.le_of_ble_eq_true rfl), fun l hl => ⟨a, l, p0, p1, p2, nameL.map V.str, rfl, hp.same (Same.new hl), by omega, upd_same, hp.ne hl, by decide, by decide, fun x q0 q2 H' hx hq hf hp' => ?_⟩⟩
    obtain ⟨y, hy, rfl⟩ := List.mem_map.mp hx
    exact q _ q0 q2 H' ⟨y, hy, rfl⟩ hq (fun b o hb e => hf b o hb (Same.new hl b o e)) hp'
theorem ok_num {f : Addr} {fd : FuncData} (F : Fun K "_law_number" "_law_number" sNum f fd) (R : FnAt P w K mg base CX0 2 "_law_of" ["_law_pot_here", "_law_some"] spOf) : FnOk P w K mg base CX0 3 f fd ["_law_pot_here"] spNum := by
  refine F.ok scNum (fun vs H Q E h => ?_) (fun cdv A outer s0 H vs Q E hr h => ?_)
  · obtain ⟨a, p0, p1, p2, rfl, _⟩ := h
    rfl
  · obtain ⟨a, p0, p1, p2, rfl, hp, h2, q⟩ := h
    obtain ⟨f1, d1, m1, k1, b1, G1⟩ := R
    refine ⟨_, pss_one (ps_ret (by exact pe_call G1 hr rfl m1 k1 b1 .nil pass0 (pa_cons (pv 0) (pa_cons (pe_lst (pa_cons pe_int (pa_cons pe_int (pa_cons pe_int (pa_cons pe_int (pa_cons pe_int (pa_cons pe_int (pa_cons pe_int (pa_cons pe_int (pa_cons pe_int pa_nil)))))))))) pa_nil)))), ?_⟩
    refine ⟨_, rfl, (Nat.le_of_ble_eq_true rfl), fun l hl => ⟨a, l, p0, p1, p2, numL.map V.int, rfl, hp.same (Same.new hl), by omega, upd_same, hp.ne hl, by decide, by decide, fun x q0 q2 H' hx hq hf hp' => ?_⟩⟩
    obtain ⟨y, hy, rfl⟩ := List.mem_map.mp hx
    exact q _ q0 q2 H' ⟨y, hy, rfl⟩ hq (fun b o hb e => hf b o hb (Same.new hl b o e)) hp'
theorem ok_none {f : Addr} {fd : FuncData} (F : Fun K "_law_none" "_law_none" sNone f fd) (R : FnAt P w K mg base CX0 2 "_law_of" ["_law_pot_here", "_law_some"] spOf) : FnOk P w K mg base CX0 3 f fd ["_law_pot_here"] (spNone K) := by
  refine F.ok scNone (fun vs H Q E h => ?_) (fun cdv A outer s0 H vs Q E hr h => ?_)
  · obtain ⟨a, p0, p1, p2, rfl, _⟩ := h
    rfl
  · obtain ⟨a, p0, p1, p2, rfl, hp, h2, q⟩ := h
    obtain ⟨f1, d1, m1, k1, b1, G1⟩ := R
    refine ⟨_, pss_cons (ps_set (i := 1) scNone.nd rfl (Or.inl rfl) (pe_lst (pa_cons pe_non (pa_cons (pe_tup pa_nil) (pa_cons pe_str (pa_cons (pe_lst (pa_cons pe_str pa_nil)) (pa_cons (pe_tup (pa_cons pe_str (pa_cons pe_int pa_nil))) (pa_cons (pe_tup (pa_cons pe_str pa_nil)) (pa_cons (pe_tup (pa_cons pe_str (pa_cons pe_str pa_nil))) (pa_cons (pe_tup (pa_cons pe_str (pa_cons pe_str (pa_cons pe_int pa_nil)))) (pa_cons (pe_tup (pa_cons pe_str (pa_cons pe_str (pa_cons pe_int pa_nil)))) pa_nil))))))))))) (pss_cons (ps_set (i := 1) scNone.nd rfl (Or.inl rfl) (pe_op op_cat (pv 1) (pe_lst (pa_cons (pe_tup (pa_cons pe_str (pa_cons pe_str (pa_cons pe_int pa_nil)))) (pa_cons (pe_tup (pa_cons pe_str (pa_cons pe_str (pa_cons pe_int pa_nil)))) (pa_cons (pe_tup (pa_cons pe_str (pa_cons pe_str (pa_cons pe_int pa_nil)))) (pa_cons (pe_tup (pa_cons pe_str (pa_cons pe_str (pa_cons pe_int pa_nil)))) (pa_cons (pe_tup (pa_cons pe_str (pa_cons pe_str (pa_cons pe_int pa_nil)))) pa_nil)))))))) (pss_cons (ps_set (i := 1) scNone.nd rfl (Or.inl rfl) (pe_op op_cat (pv 1) (pe_lst (pa_cons (pe_tup (pa_cons pe_str (pa_cons pe_str (pa_cons (pe_un un_neg pe_int) pa_nil)))) (pa_cons (pe_tup (pa_cons pe_str (pa_cons pe_str (pa_cons pe_bl pa_nil)))) (pa_cons (pe_tup (pa_cons pe_str (pa_cons pe_str (pa_cons pe_non pa_nil)))) (pa_cons (pe_tup (pa_cons pe_str (pa_cons pe_int (pa_cons pe_int pa_nil)))) (pa_cons (pe_tup (pa_cons pe_str (pa_cons pe_str (pa_cons pe_int (pa_cons pe_int pa_nil))))) pa_nil)))))))) (pss_cons (ps_set (i := 1) scNone.nd rfl (Or.inl rfl) (pe_op op_cat (pv 1) (pe_lst (pa_cons (pe_tup (pa_cons pe_str pa_nil)) (pa_cons (pe_tup (pa_cons pe_str (pa_cons pe_int pa_nil))) (pa_cons (pe_tup (pa_cons pe_str (pa_cons (pe_un un_neg pe_int) pa_nil))) (pa_cons (pe_tup (pa_cons pe_str (pa_cons pe_bl pa_nil))) (pa_cons (pe_tup (pa_cons pe_str (pa_cons pe_str pa_nil))) pa_nil)))))))) (pss_cons (ps_set (i := 1) scNone.nd rfl (Or.inl rfl) (pe_op op_cat (pv 1) (pe_lst (pa_cons (pe_tup (pa_cons pe_str (pa_cons pe_int (pa_cons pe_int pa_nil)))) (pa_cons (pe_tup (pa_cons pe_str (pa_cons pe_int pa_nil))) (pa_cons (pe_tup (pa_cons pe_non (pa_cons pe_int pa_nil))) (pa_cons (pe_tup (pa_cons (pe_lst (pa_cons pe_str pa_nil)) (pa_cons pe_int pa_nil))) pa_nil))))))) (pss_one (ps_ret (by exact pe_call G1 hr rfl m1 k1 b1 .nil pass0 (pa_cons (pv 0) (pa_cons (pe_op op_cat (pv 1) (pe_lst (pa_cons (pe_tup (pa_cons pe_str (pa_cons (pe_lst (pa_cons pe_str pa_nil)) (pa_cons pe_int pa_nil)))) (pa_cons (pe_tup (pa_cons (pe_tup (pa_cons pe_str pa_nil)) pa_nil)) (pa_cons pe_int (pa_cons pe_dnewK pa_nil)))))) pa_nil))))))))), ?_⟩
    have hx : ∃ o, H a = some o := ⟨_, hp.1⟩
    refine seq_z (K := K) (d := .list no0) (z_lst hx (z_cons z_n (z_cons (z_tup z_nil (Nat.le_of_ble_eq_true rfl)) (z_cons z_s (z_cons (z_lst hx (z_cons z_s z_nil) (Nat.le_of_ble_eq_true rfl)) (z_cons (z_tup (z_cons z_s (z_cons z_i z_nil)) (Nat.le_of_ble_eq_true rfl)) (z_cons (z_tup (z_cons z_s z_nil) (Nat.le_of_ble_eq_true rfl)) (z_cons (z_tup (z_cons z_s (z_cons z_s z_nil)) (Nat.le_of_ble_eq_true rfl)) (z_cons (z_tup (z_cons z_s (z_cons z_s (z_cons z_i z_nil))) (Nat.le_of_ble_eq_true rfl)) (z_cons (z_tup (z_cons z_s (z_cons z_s (z_cons z_i z_nil))) (Nat.le_of_ble_eq_true rfl)) z_nil))))))))) (Nat.le_of_ble_eq_true rfl)) fun v1 H1 s1 r1 => ?_
    have hx1 : ∃ o, H1 a = some o := ⟨_, s1 _ _ hp.1⟩
    refine seq_z (K := K) (d := .list (no0 ++ no1)) (z_cat hx1 (z_v rfl r1) (z_lst hx1 (z_cons (z_tup (z_cons z_s (z_cons z_s (z_cons z_i z_nil))) (Nat.le_of_ble_eq_true rfl)) (z_cons (z_tup (z_cons z_s (z_cons z_s (z_cons z_i z_nil))) (Nat.le_of_ble_eq_true rfl)) (z_cons (z_tup (z_cons z_s (z_cons z_s (z_cons z_i z_nil))) (Nat.le_of_ble_eq_true rfl)) (z_cons (z_tup (z_cons z_s (z_cons z_s (z_cons z_i z_nil))) (Nat.le_of_ble_eq_true rfl)) (z_cons (z_tup (z_cons z_s (z_cons z_s (z_cons z_i z_nil))) (Nat.le_of_ble_eq_true rfl)) z_nil))))) (Nat.le_of_ble_eq_true rfl)) (Nat.le_of_ble_eq_true rfl)) fun v2 H2 s2 r2 => ?_
    have sa2 : Same H H2 := s1.trans s2
    have hx2 : ∃ o, H2 a = some o := ⟨_, sa2 _ _ hp.1⟩
    refine seq_z (K := K) (d := .list ((no0 ++ no1) ++ no2)) (z_cat hx2 (z_v rfl r2) (z_lst hx2 (z_cons (z_tup (z_cons z_s (z_cons z_s (z_cons z_neg z_nil))) (Nat.le_of_ble_eq_true rfl)) (z_cons (z_tup (z_cons z_s (z_cons z_s (z_cons z_b z_nil))) (Nat.le_of_ble_eq_true rfl)) (z_cons (z_tup (z_cons z_s (z_cons z_s (z_cons z_n z_nil))) (Nat.le_of_ble_eq_true rfl)) (z_cons (z_tup (z_cons z_s (z_cons z_i (z_cons z_i z_nil))) (Nat.le_of_ble_eq_true rfl)) (z_cons (z_tup (z_cons z_s (z_cons z_s (z_cons z_i (z_cons z_i z_nil)))) (Nat.le_of_ble_eq_true rfl)) z_nil))))) (Nat.le_of_ble_eq_true rfl)) (Nat.le_of_ble_eq_true rfl)) fun v3 H3 s3 r3 => ?_
    have sa3 : Same H H3 := sa2.trans s3
    have hx3 : ∃ o, H3 a = some o := ⟨_, sa3 _ _ hp.1⟩
    refine seq_z (K := K) (d := .list (((no0 ++ no1) ++ no2) ++ no3)) (z_cat hx3 (z_v rfl r3) (z_lst hx3 (z_cons (z_tup (z_cons z_s z_nil) (Nat.le_of_ble_eq_true rfl)) (z_cons (z_tup (z_cons z_s (z_cons z_i z_nil)) (Nat.le_of_ble_eq_true rfl)) (z_cons (z_tup (z_cons z_s (z_cons z_neg z_nil)) (Nat.le_of_ble_eq_true rfl)) (z_cons (z_tup (z_cons z_s (z_cons z_b z_nil)) (Nat.le_of_ble_eq_true rfl)) (z_cons (z_tup (z_cons z_s (z_cons z_s z_nil)) (Nat.le_of_ble_eq_true rfl)) z_nil))))) (Nat.le_of_ble_eq_true rfl)) (Nat.le_of_ble_eq_true rfl)) fun v4 H4 s4 r4 => ?_
    have sa4 : Same H H4 := sa3.trans s4
    have hx4 : ∃ o, H4 a = some o := ⟨_, sa4 _ _ hp.1⟩
    refine seq_z (K := K) (d := .list ((((no0 ++ no1) ++ no2) ++ no3) ++ no4)) (z_cat hx4 (z_v rfl r4) (z_lst hx4 (z_cons (z_tup (z_cons z_s (z_cons z_i (z_cons z_i z_nil))) (Nat.le_of_ble_eq_true rfl)) (z_cons (z_tup (z_cons z_s (z_cons z_i z_nil)) (Nat.le_of_ble_eq_true rfl)) (z_cons (z_tup (z_cons z_n (z_cons z_i z_nil)) (Nat.le_of_ble_eq_true rfl)) (z_cons (z_tup (z_cons (z_lst hx4 (z_cons z_s z_nil) (Nat.le_of_ble_eq_true rfl)) (z_cons z_i z_nil)) (Nat.le_of_ble_eq_true rfl)) z_nil)))) (Nat.le_of_ble_eq_true rfl)) (Nat.le_of_ble_eq_true rfl)) fun v5 H5 s5 r5 => ?_
    have sa5 : Same H H5 := sa4.trans s5
    have hx5 : ∃ o, H5 a = some o := ⟨_, sa5 _ _ hp.1⟩
    refine ⟨_, rfl, (z_is (e := .list noneL) (z_cat hx5 (z_v rfl r5) (z_lst hx5 (z_cons (z_tup (z_cons z_s (z_cons (z_lst hx5 (z_cons z_s z_nil) (Nat.le_of_ble_eq_true rfl)) (z_cons z_i z_nil))) (Nat.le_of_ble_eq_true rfl)) (z_cons (z_tup (z_cons (z_tup (z_cons z_s z_nil) (Nat.le_of_ble_eq_true rfl)) z_nil) (Nat.le_of_ble_eq_true rfl)) (z_cons z_i (z_cons z_dnew z_nil)))) (Nat.le_of_ble_eq_true rfl)) (Nat.le_of_ble_eq_true rfl)) rfl) H5 (Same.refl _) _ fun v H9 s9 r9 => ?_⟩
    have sA : Same H H9 := sa5.trans s9
    cases r9 with
    | lst hS hl ha =>
      rename_i l xs
      have hlen := dzs_len ha
      refine ⟨a, l, p0, p1, p2, xs, rfl, hp.same sA, by omega, hl, hS, (by rw [hlen]; decide), (by rw [hlen]; decide), fun x q0 q2 H' hx hq hf hp' => ?_⟩
      obtain ⟨i, hi, he⟩ := List.getElem_of_mem hx
      obtain ⟨d, hd, rd⟩ := dzs_at ha (i := i) (v := x) (by rw [List.getElem?_eq_getElem hi, he])
      exact q x q0 q2 H' ⟨d, List.mem_of_getElem? hd, dz_hold (Hold.fr hf (fun _ z => z) (hp.same sA).1) d x rd⟩ hq (fun b o hb e => hf b o hb (sA b o e)) hp'
end
end K6

/-! text PM -/
set_option Elab.async false
set_option linter.all false
set_option maxRecDepth 100000
set_option maxHeartbeats 1000000
namespace K6
open PySem PySem.Spec PyProof.Rows L2
section
variable {P : Program} {w : World} {K : PySem.W.Frag} {mg : Str → Option Value} {base : Heap}
theorem word_cases {x : Str} (h : x ∈ wordL) : x = "deed" ∨ x = "over" ∨ x ∈ (["sends", "does", "comes", "gone"] : List Str) := by
  have key : wordL.all (fun x => decide (x = "deed") || (decide (x = "over") || (["sends", "does", "comes", "gone"] : List Str).contains x)) = true := by decide +kernel
  have z := List.all_eq_true.mp key x h
  simp only [Bool.or_eq_true, decide_eq_true_eq, List.contains_iff_mem] at z
  exact z
theorem ok_move {f : Addr} {fd : FuncData} (F : Fun K "_law_move" "_law_move" sMove f fd) (RO : FnAt P w K mg base CX0 2 "_law_of" ["_law_pot_here", "_law_some"] spOf) (RN : FnAt P w K mg base CX0 3 "_law_name" ["_law_pot_here"] spName) (RI : FnAt P w K mg base CX0 3 "_law_number" ["_law_pot_here"] spNum) : FnOk P w K mg base CX0 4 f fd ["_law_pot_here"] (spMove K) := by
  refine F.ok scMove (fun vs H Q E h => ?_) (fun cdv A outer s0 H vs Q E hr h => ?_)
  · obtain ⟨a, p0, p1, p2, rfl, _⟩ := h
    rfl
  · obtain ⟨a, p0, p1, p2, rfl, hp, h2, q⟩ := h
    obtain ⟨f1, d1, m1, k1, b1, G1⟩ := RO
    obtain ⟨f2, d2, m2, k2, b2, G2⟩ := RN
    obtain ⟨f3, d3, m3, k3, b3, G3⟩ := RI
    have hr2 : Room 2 _ := hr.mono (by decide)
    refine ⟨_, pss_cons (ps_set (i := 1) scMove.nd rfl (Or.inl rfl) (by exact pe_call G1 hr2 rfl m1 k1 b1 .nil pass0 (pa_cons (pv 0) (pa_cons (pe_lst (pa_cons pe_str (pa_cons pe_str (pa_cons pe_str (pa_cons pe_str (pa_cons pe_str (pa_cons pe_str (pa_cons pe_str (pa_cons pe_str pa_nil))))))))) pa_nil))))
      (pss_cons (ps_if (pt_cmpR op_eq (pv 1) pe_str (nomark _)) (pss_one (ps_ret (pe_tup (pa_cons (pv 1) (pa_cons (by exact pe_call G2 hr rfl m2 k2 b2 .nil pass0 (pa_cons (pv 0) pa_nil)) (pa_cons (by exact pe_call G3 hr rfl m3 k3 b3 .nil pass0 (pa_cons (pv 0) pa_nil)) pa_nil)))))) pss_nil)
      (pss_one (ps_ret (pe_ifExp (pt_cmpR op_eq (pv 1) pe_str (nomark _)) (pe_tup (pa_cons (pv 1) pa_nil)) (pe_tup (pa_cons (pv 1) (pa_cons (by exact pe_call G3 hr rfl m3 k3 b3 .nil pass0 (pa_cons (pv 0) pa_nil)) pa_nil))))))), ?_⟩
    refine ⟨_, rfl, (by show 8 ≤ sizeLine; decide), fun l hl => ⟨a, l, p0, p1, p2, wordL.map V.str, rfl, hp.same (Same.new hl), by omega, upd_same, hp.ne hl, by decide, by decide, fun x q0 q2 H1 hx hq hf hp1 => ?_⟩⟩
    obtain ⟨y, hy, rfl⟩ := List.mem_map.mp hx
    have f1' : Fr a H H1 := fun b o hb e => hf b o hb (Same.new hl b o e)
    refine ⟨_, rfl, rfl, _, rfl, ?_⟩
    refine ite2 (fun c => ?_) (fun c => ?_)
    · have e := V.str.inj (of_decide_eq_true c)
      subst e
      refine ⟨_, rfl, _, rfl, a, q0, p1, q2, rfl, hp1, by omega, fun v r0 r2 H2 hv hr2' f2' hp2 => ?_⟩
      obtain ⟨x, hx, rfl⟩ := hv
      refine ⟨_, rfl, a, r0, p1, r2, rfl, hp2, by omega, fun v t0 t2 H3 hv ht2 f3' hp3 => ?_⟩
      obtain ⟨i, hi, rfl⟩ := hv
      refine ⟨(by show 3 ≤ sizeLine; decide), fun p hn => ?_⟩
      exact q _ t0 t2 _ ⟨_, .deed x i hx hi, fun S => .tup (SqT.of upd_same) (.cons (.str _) (.cons (.str _) (.cons (.int _) .nil)))⟩ (by omega) (((f1'.trans f2').trans f3').same (Same.new hn)) (hp3.same (Same.new hn))
    · refine ⟨_, rfl, rfl, _, rfl, ?_⟩
      refine ite2 (fun c2 => ?_) (fun c2 => ?_)
      · have e := V.str.inj (of_decide_eq_true c2)
        subst e
        refine ⟨_, rfl, (by show 1 ≤ sizeLine; decide), fun p hn => ?_⟩
        exact q _ q0 q2 _ ⟨_, .over, fun S => .tup (SqT.of upd_same) (.cons (.str _) .nil)⟩ (by omega) (f1'.same (Same.new hn)) (hp1.same (Same.new hn))
      · have hy2 : y ∈ (["sends", "does", "comes", "gone"] : List Str) := by
          rcases word_cases hy with z | z | z
          · exact absurd (decide_eq_true (by rw [z])) c
          · exact absurd (decide_eq_true (by rw [z])) c2
          · exact z
        refine ⟨_, rfl, _, rfl, a, q0, p1, q2, rfl, hp1, by omega, fun v t0 t2 H3 hv ht2 f3' hp3 => ?_⟩
        obtain ⟨i, hi, rfl⟩ := hv
        refine ⟨(by show 2 ≤ sizeLine; decide), fun p hn => ?_⟩
        exact q _ t0 t2 _ ⟨_, .word y i hy2 hi, fun S => .tup (SqT.of upd_same) (.cons (.str _) (.cons (.int _) .nil))⟩ (by omega) ((f1'.trans f3').same (Same.new hn)) (hp3.same (Same.new hn))
end
end K6

/-! text PW -/
set_option Elab.async false
set_option linter.all false
set_option maxRecDepth 100000
set_option maxHeartbeats 1000000
namespace K6
open PySem PySem.Spec PyProof.Rows L2
/-- str of a number or of a text -/
def strV : V → Str
  | .int i => Str.ofString (toString i)
  | .str x => x
  | _ => ""
theorem call_str2 {X : Cx} : CallR X (.type "str") (fun xs H Q => ∃ v, xs = [v] ∧ ((∃ i : Int, v = .int i ∧ i.natAbs.log2 < 1920) ∨ ∃ x : Str, v = .str x) ∧ Q (.str (strV v)) H) := by
  intro pins s σ H xs us Q I r h
  obtain ⟨v, rfl, h, q⟩ := h
  rcases h with ⟨i, rfl, hi⟩ | ⟨x, rfl⟩
  · exact call_str_int pins s σ H [.int i] us Q I r ⟨i, rfl, hi, q⟩
  · exact SkE.call_str_str pins s σ H [.str x] us Q I r ⟨x, rfl, q⟩
/-- the text of a move -/
def wrM : PyData → Str
  | .tuple [.str _, .str x, .int i] => (("deed " : Str) ++ x) ++ (if i > 0 then (" " : Str) ++ Str.ofString (toString i) else "")
  | .tuple [.str x, .int i] => Txt.join " " [x, Str.ofString (toString i)]
  | .tuple [.str x] => Txt.join " " [x]
  | _ => ""
abbrev sWr : Stmt := top 33
section
variable {P : Program} {w : World} {K : PySem.W.Frag} {mg : Str → Option Value} {base : Heap}
theorem scWr : FnScope ["_law_move_here", "_law_part"] ["_law_move_here"] (defScope sWr) := ⟨rfl, rfl, rfl, by decide +kernel, rfl, by decide +kernel, by decide +kernel⟩
def spWr (K : PySem.W.Frag) : Sp := fun vs H Q _ => ∃ (S : Addr → Prop) (v : V) (d : PyData), vs = [v] ∧ MvOk d ∧ Dz K S H v d ∧ ∀ H', Same H H' → Q (.str (wrM d)) H'
structure WrN (mg : Str → Option Value) : Prop where
  str : mg "str" = none
theorem num_small {i : Int} (h : i ∈ numL) : i.natAbs.log2 < 1920 ∧ (Str.ofString (toString i)).length ≤ 5 ∧ 0 ≤ i := by
  have key : numL.all (fun i => decide (i.natAbs.log2 < 1920) && (decide ((Str.ofString (toString i)).length ≤ 5) && decide (0 ≤ i))) = true := by decide +kernel
  have z := List.all_eq_true.mp key i h
  simp only [Bool.and_eq_true, decide_eq_true_eq] at z
  exact z
theorem name_small {x : Str} (h : x ∈ nameL) : x.length ≤ 8 := by
  have key : ∀ x ∈ nameL, x.length ≤ 8 := by decide +kernel
  exact key x h
theorem four_small {x : Str} (h : x ∈ (["sends", "does", "comes", "gone"] : List Str)) : x.length ≤ 8 ∧ ¬ x = "deed" := by
  have key : ∀ x ∈ (["sends", "does", "comes", "gone"] : List Str), x.length ≤ 8 ∧ ¬ x = "deed" := by decide +kernel
  exact key x h
theorem ok_wr {f : Addr} {fd : FuncData} (F : Fun K "_law_written" "_law_written" sWr f fd) (T : WrN mg) : FnOk P w K mg base CX0 1 f fd ["_law_move_here"] (spWr K) := by
  refine F.ok scWr (fun vs H Q E h => ?_) (fun cdv A outer s0 H vs Q E hr h => ?_)
  · obtain ⟨S, v, d, rfl, _⟩ := h
    rfl
  · obtain ⟨S, v, d, rfl, hd, hz, q⟩ := h
    have hsl := sizeLine_eq
    obtain ⟨tr, hps, rest⟩ : ∃ tr, PSs (cxOf CX0 P w K mg base ["_law_move_here", "_law_part"] "_law_written" (defScope sWr) f cdv A outer s0 H E).nox ((defBody sWr).drop 1) tr ∧ ∀ (t : Addr) (xs : List V) (H0 : Hp), SqT K H0 t xs → xs.length ≤ 10 → (∀ y ∈ xs, ((∃ i : Int, y = .int i ∧ i.natAbs.log2 < 1920) ∨ ∃ x : Str, y = .str x) ∧ (strV y).length ≤ 10) → (∀ H', Same H0 H' → Q (.str (Txt.join " " (xs.map strV))) H') →
        tr { nx := fun _ H' => Q .non H', rt := Q } [some (.ref t), none] H0 := by
      refine ⟨_, pss_one (ps_ret (pe_join pe_str (pe_lc (own := [("_law_part", 1)]) (g := gName 1) (tt := tYes) rfl scWr.nd (pi_tup (pv 0)) (blkOk_by (own := [("_law_part", 1)]) (N := ["_law_move_here", "_law_part"]) (sc := defScope sWr) (by decide +kernel)) (fun _ _ _ _ _ => pg_name (i := 1) scWr.nd rfl (Or.inl rfl)) (fun _ _ _ _ _ => pts_nil)
        (fun _ _ _ _ _ => pe_callTy call_str2 (by rfl) T.str (by decide +kernel) (pa_cons (pv 1) pa_nil))))), ?_⟩
      intro t xs H0 ht hl hx q
      refine ⟨⟨_, rfl⟩, _, rfl, t, rfl, ⟨xs, ht⟩, fun D hD => ?_⟩
      refine lc_tup (K := K) (a := t) (xs := xs) (fun i H' => Same H0 H' ∧ H' D = some (.lst ((xs.take i).map fun y => V.str (strV y)))) ⟨Same.new hD, upd_same⟩ (fun i H' _ h => sqt_same h.1 ht) ?_ ?_
      · rintro i y H' hy ⟨s1, h1⟩
        have hm := hx y (List.mem_of_getElem? hy)
        refine ⟨rfl, ?_⟩
        refine ⟨_, rfl, y, rfl, hm.1, _, h1, (by rw [List.length_map, List.length_take]; omega), fun b o e => ?_, ?_⟩
        · rw [upd_ne (ne_of_none e hD)]
          exact s1 b o e
        · rw [upd_same, List.take_add_one, List.map_append, hy]
          rfl
      rintro H' ⟨s1, h1⟩
      rw [List.take_length] at h1
      refine ⟨" ", D, xs.map strV, rfl, rfl, .inl (SqL.of (by rw [h1, List.map_map]; rfl)), ?_, q H' s1⟩
      have key : ∀ l : List V, (∀ y ∈ l, (strV y).length ≤ 10) → ((l.map strV).map (fun x => x.length)).sum ≤ 10 * l.length := by
        intro l
        induction l with
        | nil => intro _; exact Nat.le_refl _
        | cons y l ih =>
          intro h
          have z1 := ih fun x hx => h x (List.mem_cons_of_mem _ hx)
          have z2 := h y List.mem_cons_self
          rw [List.map_cons, List.map_cons, List.sum_cons, List.length_cons]
          omega
      have z := key xs fun y hy => (hx y hy).2
      rw [List.length_map, show (" " : Str).length = 1 from by decide +kernel]
      omega
    refine ⟨_, pss_cons (ps_if (pt_cmpR op_eq (pe_ix ix_tup (pv 0) pe_int (fun _ _ => rfl)) pe_str (nomark _))
        (pss_one (ps_ret (pe_op op_add_str (pe_op op_add_str pe_str (pe_ix ix_tup (pv 0) pe_int (fun _ _ => rfl))) (pe_ifExp (pt_cmpR op_gt (pe_ix ix_tup (pv 0) pe_int (fun _ _ => rfl)) pe_int (nomark _)) (pe_op op_add_str pe_str (pe_callTy call_str_int (by rfl) T.str (by decide +kernel) (pa_cons (pe_ix ix_tup (pv 0) pe_int (fun _ _ => rfl)) pa_nil))) pe_str)))) pss_nil) hps, ?_⟩
    cases hd with
    | deed x i hx hi =>
      obtain ⟨n1, n2, n3⟩ := num_small hi
      have hx8 := name_small hx
      cases hz with
      | tup hs ha =>
        rename_i t xs
        cases ha with
        | cons r1 ha =>
          cases ha with
          | cons r2 ha =>
            cases ha with
            | cons r3 ha =>
              cases ha
              cases r1
              cases r2
              cases r3
              refine ⟨_, rfl, t, _, _, _, rfl, rfl, hs, atI_nat (j := 0) rfl, rfl, _, rfl, ?_⟩
              rw [decide_eq_true rfl]
              refine iteT ?_
              refine ⟨_, rfl, t, _, _, _, rfl, rfl, hs, atI_nat (j := 1) rfl, _, _, rfl, rfl, (by rw [show ("deed " : Str).length = 5 from by decide +kernel]; omega), ?_⟩
              refine ⟨_, rfl, t, _, _, _, rfl, rfl, hs, atI_nat (j := 2) rfl, _, _, rfl, rfl, _, rfl, ?_⟩
              have hl5 : (("deed " : Str) ++ x).length ≤ 20 := by
                rw [strLen_append, show ("deed " : Str).length = 5 from by decide +kernel]
                omega
              refine ite2 (fun c => ?_) (fun c => ?_)
              · have hi0 := of_decide_eq_true c
                refine ⟨_, rfl, t, _, _, _, rfl, rfl, hs, atI_nat (j := 2) rfl, i, rfl, n1, _, _, rfl, rfl, (by rw [show (" " : Str).length = 1 from by decide +kernel]; omega), _, _, rfl, rfl, ?_, ?_⟩
                · rw [strLen_append (" " : Str), show (" " : Str).length = 1 from by decide +kernel]
                  omega
                · have z := q H (Same.refl H)
                  have e : wrM (.tuple [.str "deed", .str x, .int i]) = (("deed " : Str) ++ x) ++ ((" " : Str) ++ Str.ofString (toString i)) := by
                    show (("deed " : Str) ++ x) ++ (if i > 0 then (" " : Str) ++ Str.ofString (toString i) else "") = _
                    rw [if_pos hi0]
                  rw [e] at z
                  exact z
              · refine ⟨_, _, rfl, rfl, (by rw [show ("" : Str).length = 0 from by decide +kernel]; omega), ?_⟩
                have z := q H (Same.refl H)
                have e : wrM (.tuple [.str "deed", .str x, .int i]) = (("deed " : Str) ++ x) ++ ("" : Str) := by
                  show (("deed " : Str) ++ x) ++ (if i > 0 then (" " : Str) ++ Str.ofString (toString i) else "") = _
                  rw [if_neg (fun z => c (decide_eq_true z))]
                rw [e] at z
                exact z
    | over =>
      cases hz with
      | tup hs ha =>
        rename_i t xs
        cases ha with
        | cons r1 ha =>
          cases ha
          cases r1
          refine ⟨_, rfl, t, _, _, _, rfl, rfl, hs, atI_nat (j := 0) rfl, rfl, _, rfl, ?_⟩
          refine ite2 (fun c => ?_) (fun c => ?_)
          · have z := V.str.inj (of_decide_eq_true c)
            exact absurd z (by decide +kernel)
          · refine rest t _ H hs (by show 1 ≤ 10; decide) (fun y hy => ?_) q
            rw [List.mem_singleton.mp hy]
            exact ⟨.inr ⟨_, rfl⟩, by show ("over" : Str).length ≤ 10; decide +kernel⟩
    | word x i hx hi =>
      obtain ⟨n1, n2, n3⟩ := num_small hi
      obtain ⟨hx8, hxd⟩ := four_small hx
      cases hz with
      | tup hs ha =>
        rename_i t xs
        cases ha with
        | cons r1 ha =>
          cases ha with
          | cons r2 ha =>
            cases ha
            cases r1
            cases r2
            refine ⟨_, rfl, t, _, _, _, rfl, rfl, hs, atI_nat (j := 0) rfl, rfl, _, rfl, ?_⟩
            refine ite2 (fun c => ?_) (fun c => ?_)
            · exact absurd (V.str.inj (of_decide_eq_true c)) hxd
            · refine rest t _ H hs (by show 2 ≤ 10; decide) (fun y hy => ?_) q
              rcases List.mem_cons.mp hy with e | hy
              · rw [e]
                exact ⟨.inr ⟨_, rfl⟩, Nat.le_trans hx8 (by decide)⟩
              · rw [List.mem_singleton.mp hy]
                exact ⟨.inl ⟨_, rfl, n1⟩, Nat.le_trans n2 (by decide)⟩
end
end K6

/-! text PH -/
set_option Elab.async false
set_option linter.all false
set_option maxRecDepth 100000
set_option maxHeartbeats 1000000
namespace K6
open PySem PySem.Spec PyProof.Rows L2 LamX
structure HdN (K : PySem.W.Frag) (mg : Str → Option Value) (CB CL : Addr) : Prop where
  gL : mg "LateError" = some (.ref CL)
  gB : mg "BadStory" = some (.ref CB)
  isi : mg "isinstance" = none
  val : mg "ValueError" = none
  ex : PySem.W.exmOne K (.ref CB) (.ref CL) = some true
  k1 : PySem.W.kitOne K (.ref CB) (.ref CB) = some true
  k2 : PySem.W.kitOne K (.ref CB) (.type "ValueError") = some true
  isD : IsD2 K CB
  xf : XfC K CB
  noL : PySem.W.findIn K (.ref CB) "number" = some none
abbrev sHeard : Stmt := top 34
abbrev NH : List Str := ["_law_call", "_law_missed", "_law_found", "error", "_law_is_bad"]
theorem scHeard : FnScope NH ["_law_call"] (defScope sHeard) := ⟨rfl, rfl, rfl, by decide +kernel, rfl, by decide +kernel, by decide +kernel⟩
/-- a BadStory that is let out, and what is made of it -/
def EHd (CB : Addr) (Q : VK) : XK := fun cls d H2 => cls = .ref CB ∧ ∃ (dd : Addr) (n : Int), d = some dd ∧ H2 dd = some (.xd [(("number" : Str), V.int n)]) ∧ ∀ p H3, Same H2 H3 → H3 p = some (.tup [.str "bad", .int n]) → Q (.ref p) H3
/-- what _law_heard makes of what it calls -/
def TTheard (CB : Addr) : (XK → Hp → VK → Prop) → Hp → VK → Prop := fun tl H Q => ∀ (H1 : Hp) (Q1 : VK), Same H H1 → (∀ v H2, (∀ p H3, Same H2 H3 → H3 p = some (.tup [.str "told", v]) → Q (.ref p) H3) → Q1 v H2) → tl (EHd CB Q) H1 Q1
section
variable {X : Cx} {CB CL g : Addr} {cdg : Value} {q : Str}
theorem heard_gives (T : HdN X.K X.mg CB CL) : GivesTo X NH "_law_heard" (defScope sHeard) g cdg (defBody sHeard) "_law_call" q (TTheard CB) := by
  intro f c' s H Q tl act hc h
  refine ⟨_, pss_cons (ps_asg (pe_tup (pa_cons pe_non (pa_cons pe_non pa_nil))) (pg_tup (by rfl) (pgs_cons (pg_name (i := 1) scHeard.nd rfl (Or.inl rfl)) (pgs_cons (pg_name (i := 2) scHeard.nd rfl (Or.inl rfl)) pgs_nil))))
      (pss_cons (ps_try_keep (i := 3) (Wo := fun _ _ _ _ => False) (X := (cxOf C8.CX0 X.prog X.w X.K X.mg X.base NH "_law_heard" (defScope sHeard) g cdg X.A X.stack s H C8.E0).nox)
        (tb := fun W D σ H => ∃ Ech : XK, (∀ (cls : Value) (d : Option Addr) (σ' : L2.St) (H' : Hp), σ'.length = 5 → Ech cls d H' → W cls d σ' H') ∧ σ[0]? = some (some (.ref f)) ∧ H c' = some (CodeO c' q) ∧ tl Ech H fun v H' => D.nx (σ.set 2 (some v)) H')
        rfl rfl scHeard.nd rfl rfl ⟨rfl, by decide, .inl T.gL⟩ L2.takes0 rfl
        (fun W pn xe tk _ => ⟨fun pins s' σ H' D I h' => by
          obtain ⟨Ech, hW, h1, h2, h3⟩ := h'
          exact (pss_one (ps_set (i := 2) scHeard.nd rfl (Or.inl rfl) (act (fun cls d τ G => τ.length = 5 → W cls d τ G) pn xe Ech _ _ (fun u s' ⟨a, B, sI, pins, σ, H, cls, d, e, I, nb, up, sky, na, os, ag, w⟩ => tk u s' ⟨a, B, sI, pins, σ, H, cls, d, e, I, nb, up, sky, na, os, ag, w I.len⟩) (fun cls d τ G e hl => hW cls d τ G hl e)))).run pins s' σ H' D I ⟨h1, h2, h3⟩⟩)
        (fun a oe cls d pn hz hf => pss_one (ps_set (i := 1) scHeard.nd rfl (Or.inl rfl) (pv 3))))
      (pss_cons (ps_if (pt_cmpR op_isN (pv 1) pe_non (nomark _)) (pss_one (ps_ret (pe_tup (pa_cons pe_str (pa_cons (pv 2) pa_nil))))) pss_nil)
      (pss_cons (ps_set (i := 4) scHeard.nd rfl (Or.inl rfl) (pe_and (pe_callB call_isV (by rfl) T.isi (by decide +kernel) (pa_cons (pv 1) (pa_cons (pe_glob (v := .ref CB) rfl T.gB rfl) pa_nil))) (pe_one (pe_callB call_isV (by rfl) T.isi (by decide +kernel) (pa_cons (pv 1) (pa_cons (pe_bltn (v := .ty "ValueError") (by rfl) T.val (by decide +kernel) rfl) pa_nil))))))
      (pss_one (ps_ret (pe_ifExp (pt_val (pv 4)) (pe_tup (pa_cons pe_str (pa_cons (pe_fldV (pv 1)) pa_nil))) (pe_tup (pa_cons pe_str (pa_cons pe_non pa_nil))))))))), ?_⟩
  refine ⟨(by show 2 ≤ sizeLine; decide), fun p hp => ?_⟩
  have s1 := Same.new (o := .tup [V.non, V.non]) hp
  refine ⟨p, _, rfl, SqT.of upd_same, rfl, _, _, rfl, _, _, rfl, rfl, ?_⟩
  refine ⟨EHd CB Q, ?_, rfl, s1 _ _ hc, h _ _ s1 ?_⟩
  · intro cls d σ' H2 hl hE
    obtain ⟨rfl, dd, n, rfl, hd, k⟩ := hE
    match σ', hl with
    | [x0, x1, x2, x3, x4], _ =>
      refine ⟨true, T.ex, fun z => Bool.noConfusion z, fun _ a ha => ?_⟩
      refine ⟨_, rfl, ?_⟩
      have s3 := Same.new (o := ExV (.ref CB) (some dd) a) ha
      have e3 : (upd H2 a (ExV (.ref CB) (some dd) a)) a = some (ExV (.ref CB) (some dd) a) := upd_same
      have hd3 := s3 _ _ hd
      refine ⟨_, rfl, rfl, _, rfl, ?_⟩
      refine iteF ?_
      refine ⟨_, rfl, CB, a, dd, "number", .int n, .ref CB, .ref CB, true, rfl, T.isD, e3, hd3, (fun y hy => hy), T.k1, ?_⟩
      refine ⟨true, rfl, iteT ?_⟩
      refine ⟨_, rfl, CB, a, dd, "number", .int n, .ty "ValueError", .type "ValueError", true, rfl, T.isD, e3, hd3, (fun y hy => hy), T.k2, ?_⟩
      refine ⟨_, rfl, true, rfl, iteT ?_⟩
      refine ⟨_, rfl, CB, a, dd, _, _, rfl, T.xf, T.noL, e3, hd3, rfl, (by show 2 ≤ sizeLine; decide), fun p hp => ?_⟩
      exact k p _ (s3.trans (Same.new hp)) upd_same
  · intro v H2 k
    refine ⟨_, rfl, rfl, _, rfl, ?_⟩
    refine iteT ⟨_, rfl, (by show 2 ≤ sizeLine; decide), fun p hp => ?_⟩
    exact k p _ (Same.new hp) upd_same
end
end K6

/-! text PR -/
set_option Elab.async false
set_option linter.all false
set_option maxRecDepth 100000
set_option maxHeartbeats 1000000
namespace K6
open PySem PySem.Spec PyProof.Rows L2 LamX
/-! ### calls by names alone -/
section
variable {X : Cx} {CX : CXT} {k : Nat} {f : Addr} {fd : FuncData} {ps ks : List Str} {sp : Sp} {E : XK} {x : Str} {p pos : Pos} {kws : List Keyword} {tk : TA} {g : List Value → List Value → List Value} {gV : List V → List V → List V}
theorem pe_callK0 (F : FnOk X.prog X.w X.K X.mg X.base CX k f fd ps sp) (hr : Room k X.A) (hg : Gl X x) (hm : X.mg x = some (.ref f)) (hk : PySem.W.keepIn X.K (.ref f) = true) (hb : KBinds X.K fd ps ks g gV) (hx : Passes CX X E) (hw : PK X kws tk)
    (al : (backToKw pos (keywordEach kws X.env)).all (·.1.isSome) = true := by rfl) (hs : (backToKw pos (keywordEach kws X.env)).filterMap (·.1) = ks := by rfl) (nd : (x == ("__debug__" : Str)) = false := by decide)
    (pl : ((backTo pos (starEach [] X.env)).any (·.1) || (backToKw pos (keywordEach kws X.env)).any (·.1.isNone)) = false := by rfl) : PE X (.Call (.Name x p) [] kws pos) (tCallK sp gV E tNil tk) := by
  constructor
  intro pins s σ H Q I h
  refine wpAny_Call_Name_kw (ld_glob I hg hm (PySem.W.callWith_KW0 (h₀ := X.base) I.ok.mod.kin hk al (thn (hw.run pos pins s σ H _ I h) fun ws s2 ⟨zs, H2, I2, rz, q⟩ => ⟨I2.kIn, ?_⟩) pl) nd)
  rw [hs]
  exact run_fnk (us := []) (vs := []) F hr hb hx I2 .nil rz q
end
/-- a def, its code object at c -/
structure FunC (K : PySem.W.Frag) (x qual : Str) (st : Stmt) (f : Addr) (fd : FuncData) (c : Addr) : Prop where
  ex : ∃ (oc : Value) (od : Option Addr) (kV doc pm : Value) (an : Option Addr) (ct : Value) (osl : Array (Option Value)),
    fd = PySem.W.fnOf x qual (defArgs st) (defBody st) (defScope st) .none kV doc pm an (.ref c) ct ∧ K.lookup f = some ⟨oc, od, .func fd, osl⟩ ∧ PySem.W.codeIn K (.ref c) qual = true
  kp : PySem.W.keepIn K (.ref f) = true
theorem okGc {P : Program} {w : World} {K : PySem.W.Frag} {mg : Str → Option Value} {base : Heap} {k : Nat} {f c : Addr} {fd : FuncData} {ps : List Str} {sp : Sp} {x qual : Str} {s : Stmt} {N : List Str} (F : FunC K x qual s f fd c) (S : FnScope N ps (defScope s)) (ln : ∀ {vs : List V} {H : Hp} {Q : VK} {E : XK}, sp vs H Q E → vs.length = ps.length)
    (bd : ∀ {A : Around} {os : List Env} {st : Shared} {H : Hp} {vs : List V} {Q : VK} {E : XK}, (A.deeper (envOfC qual (defScope s) st.heap.objs.size f (.ref c))).guards = some [] → Room k (A.deeper (envOfC qual (defScope s) st.heap.objs.size f (.ref c))) → sp vs H Q E →
      ∃ t, PSs (cxOf CX0 P w K mg base N qual (defScope s) f (.ref c) A os st H E).nox (defBody s) t ∧ t { nx := fun _ H' => Q .non H', rt := Q } (L2.start N vs) H) : FnG P w K mg base CX0 (k + 1) f fd ps sp := by
  obtain ⟨oc, od, kV, doc, pm, an, ct, osl, e, lk, cd⟩ := F.ex
  subst e
  refine fnG_of lk cd S ln (fun hg hr hs => ?_)
  obtain ⟨t, h, q⟩ := bd hg hr hs
  exact ⟨t, h.nox, q⟩
end K6

/-! text PS -/
set_option Elab.async false
set_option linter.all false
set_option maxRecDepth 100000
set_option maxHeartbeats 1000000
namespace K6
open PySem PySem.Spec PyProof.Rows L2 LamX
def LETT : Str := "abcdefghijklmnopqrstuvwxyz"
def nameB (x : Str) : Bool := (decide (1 ≤ x.length) && decide (x.length ≤ 8)) && (x.cps.toList.all (fun c => decide (c ∈ LETT.cps.toList)) && !(["it", "asked"] : List Str).contains x)
/-- whether data are a move by its form -/
def mvB : PyData → Bool
  | .tuple [.str x, .str n, .int i] => decide (x = "deed") && (nameB n && (decide (0 ≤ i) && decide (i ≤ 999)))
  | .tuple [.str x, .int i] => (["sends", "does", "comes", "gone"] : List Str).contains x && (decide (0 ≤ i) && decide (i ≤ 999))
  | .tuple [.str x] => decide (x = "over")
  | _ => false
theorem mv_yes {d : PyData} (h : MvOk d) : mvB d = true := by
  have k1 : nameL.all nameB = true := by decide +kernel
  have k2 : numL.all (fun i => decide (0 ≤ i) && decide (i ≤ 999)) = true := by decide +kernel
  cases h with
  | deed x i hx hi =>
    have z1 := List.all_eq_true.mp k1 x hx
    have z2 := List.all_eq_true.mp k2 i hi
    show (decide (("deed" : Str) = "deed") && (nameB x && (decide (0 ≤ i) && decide (i ≤ 999)))) = true
    rw [z1, z2, decide_eq_true rfl]
    rfl
  | over => rfl
  | word x i hx hi =>
    have z2 := List.all_eq_true.mp k2 i hi
    show ((["sends", "does", "comes", "gone"] : List Str).contains x && (decide (0 ≤ i) && decide (i ≤ 999))) = true
    rw [z2, List.contains_iff_mem.mpr hx]
    rfl
theorem mv_no {d : PyData} (h : d ∈ noneL) : mvB d = false := by
  have k : noneL.all (fun d => !mvB d) = true := by decide +kernel
  have z := List.all_eq_true.mp k d h
  simpa using z
/-- what is shown of a tuple -/
def showM (ds : List PyData) : Except Int Str := match ds.findIdx? (fun d => !mvB d) with
  | some i => .error (i + 1)
  | none => .ok (Txt.join "\n" (ds.map wrM))
def heardD : Except Int Str → PyData
  | .ok x => .tuple [.str "told", .str x]
  | .error l => .tuple [.str "bad", .int l]
/-- a road, and the number of its first row that is none (0 without one) -/
inductive RoadOk : List PyData → Nat → Prop
  | ok {ds : List PyData} : (∀ d ∈ ds, MvOk d) → ds.length ≤ 8 → RoadOk ds 0
  | bad {A B : List PyData} {n : PyData} : (∀ d ∈ A, MvOk d) → n ∈ noneL → (∀ d ∈ B, MvOk d ∨ d ∈ noneL) → A.length + B.length ≤ 9 → RoadOk (A ++ [n] ++ B) (A.length + 1)
theorem RoadOk.all {ds : List PyData} {k : Nat} (h : RoadOk ds k) : (∀ d ∈ ds, MvOk d ∨ d ∈ noneL) ∧ ds.length ≤ 10 := by
  cases h with
  | ok a b => exact ⟨fun d hd => .inl (a d hd), by omega⟩
  | bad a n b l =>
    refine ⟨fun d hd => ?_, by rw [List.length_append, List.length_append, List.length_singleton]; omega⟩
    rcases List.mem_append.mp hd with hd | hd
    · rcases List.mem_append.mp hd with hd | hd
      · exact .inl (a d hd)
      · rw [List.mem_singleton.mp hd]
        exact .inr n
    · exact b d hd
theorem RoadOk.show {ds : List PyData} {k : Nat} (h : RoadOk ds k) : showM ds = if k > 0 then .error (k : Int) else .ok (Txt.join "\n" (ds.map wrM)) := by
  unfold showM
  cases h with
  | ok a b =>
    have e : ds.findIdx? (fun d => !mvB d) = none := List.findIdx?_eq_none_iff.mpr fun d hd => by rw [mv_yes (a d hd)]; rfl
    rw [e]
    rfl
  | bad a n b l =>
    rename_i A B n0
    have e : (A ++ [n0] ++ B).findIdx? (fun d => !mvB d) = some A.length := by
      refine List.findIdx?_eq_some_iff_getElem.mpr ⟨by rw [List.length_append, List.length_append, List.length_singleton]; omega, ?_, fun j hj => ?_⟩
      · have z : (A ++ [n0] ++ B)[A.length]'(by rw [List.length_append, List.length_append, List.length_singleton]; omega) = n0 := by
          rw [List.getElem_append_left (by rw [List.length_append, List.length_singleton]; omega), List.getElem_append_right (Nat.le_refl _)]
          simp
        rw [z, mv_no n]
        rfl
      · have z : (A ++ [n0] ++ B)[j]'(by rw [List.length_append, List.length_append, List.length_singleton]; omega) = A[j] := by
          rw [List.getElem_append_left (by rw [List.length_append, List.length_singleton]; omega), List.getElem_append_left hj]
        rw [z, mv_yes (a _ (List.getElem_mem hj))]
        simp
    rw [e]
    rfl
/-- a value that is shown, and what comes of it -/
inductive InS (K : PySem.W.Frag) (H : Hp) : V → Except Int Str → Prop
  | road {S : Addr → Prop} {t : Addr} {xs : List V} {ds : List PyData} : SqT K H t xs → DzAll K S H xs ds → (∀ d ∈ ds, MvOk d ∨ d ∈ noneL) → ds.length ≤ 10 → InS K H (.ref t) (showM ds)
  | non : InS K H .non (.error 0)
  | int (i : Int) : InS K H (.int i) (.error 0)
  | bl (b : Bool) : InS K H (.bl b) (.error 0)
  | str (x : Str) : InS K H (.str x) (.error 0)
  | lst {a : Addr} {xs : List V} : H a = some (.lst xs) → InS K H (.ref a) (.error 0)
  | dct {a : Addr} : H a = some (.dK []) → InS K H (.ref a) (.error 0)
theorem inS_same {K : PySem.W.Frag} {H H' : Hp} {v : V} {r : Except Int Str} (k : Same H H') (h : InS K H v r) : InS K H' v r := by
  cases h with
  | road a b c d => exact .road (sqt_same k a) (dzs_same k b) c d
  | non => exact .non
  | int i => exact .int i
  | bl b => exact .bl b
  | str x => exact .str x
  | lst e => exact .lst (k _ _ e)
  | dct e => exact .dct (k _ _ e)
def spShow (K : PySem.W.Frag) (CB : Addr) : Sp := fun vs H Q E => ∃ (v : V) (r : Except Int Str), vs = [v] ∧ InS K H v r ∧ match r with
  | .ok x => ∀ H', Same H H' → Q (.str x) H'
  | .error l => ∀ H' d, Same H H' → H' d = some (.xd [(("number" : Str), V.int l)]) → E (.ref CB) (some d) H'
def spRead (K : PySem.W.Frag) : Sp := fun vs H Q _ => ∃ ds : List PyData, vs = [.str (Txt.join "\n" (ds.map wrM))] ∧ (∀ d ∈ ds, MvOk d) ∧ ds.length ≤ 8 ∧ ∀ y H', Same H H' → (∀ S, Dz K S H' y (.tuple ds)) → Q y H'
/-- _law_heard(lambda: show_story(..)) comes to this -/
theorem heard_go {K : PySem.W.Frag} {CB : Addr} {v : V} {r : Except Int Str} {H : Hp} {Q : VK} {tl : XK → Hp → VK → Prop} (ht : ∀ E H1 Q1, spShow K CB [v] H1 Q1 E → tl E H1 Q1) (hv : InS K H v r) (q : ∀ p H', Same H H' → (∀ S, Dz K S H' (.ref p) (heardD r)) → Q (.ref p) H') : TTheard CB tl H Q := by
  intro H1 Q1 s1 hq
  refine ht _ _ _ ⟨v, r, rfl, inS_same s1 hv, ?_⟩
  match r, q with
  | .ok x, q =>
    intro H2 s2
    exact hq _ _ fun p H3 s3 e => q p H3 (s1.trans (s2.trans s3)) fun S => .tup (SqT.of e) (.cons (.str _) (.cons (.str _) .nil))
  | .error l, q =>
    intro H2 d s2 hd
    exact ⟨rfl, d, l, rfl, hd, fun p H3 s3 e => q p H3 (s1.trans (s2.trans s3)) fun S => .tup (SqT.of e) (.cons (.str _) (.cons (.int _) .nil))⟩
end K6

/-! text PV -/
set_option Elab.async false
set_option linter.all false
set_option maxRecDepth 100000
set_option maxHeartbeats 1000000
namespace K6
open PySem PySem.Spec PyProof.Rows L2
def dTy : PyData → String
  | .none => "NoneType"
  | .bool _ => "bool"
  | .int _ => "int"
  | .str _ => "str"
  | .list _ => "list"
  | .tuple _ => "tuple"
  | .dict _ => "dict"
theorem ty_tup {K : PySem.W.Frag} {H : Hp} {a : Addr} {xs : List V} (h : SqT K H a xs) : TyX K H (.ref a) (.type "tuple") := by
  rcases h with (h | ⟨o, h⟩) | ⟨o, its, n, l, c, _⟩
  · exact .base (.tup h)
  · exact .fTuple h
  · exact .kTuple l c
theorem ty_dz {K : PySem.W.Frag} {S : Addr → Prop} {H : Hp} {v : V} {d : PyData} (h : Dz K S H v d) : TyX K H v (.type (dTy d)) := by
  cases h with
  | non => exact .base .non
  | bl b => exact .base (.bl b)
  | int i => exact .base (.int i)
  | str x => exact .base (.str x)
  | lst s e a => exact .base (.lst e)
  | tup s a => exact ty_tup s
  | dct e => exact .base (.dK e)
def isTupB : PyData → Bool
  | .tuple _ => true
  | _ => false
def isStrB : PyData → Bool
  | .str _ => true
  | _ => false
def isBoolB : PyData → Bool
  | .bool _ => true
  | _ => false
def isIntB : PyData → Bool
  | .int _ => true
  | _ => false
theorem kt_tup {K : PySem.W.Frag} : ∀ (d : PyData), PySem.W.kitOne K (.type (dTy d)) (.type "tuple") = some (isTupB d)
  | .none  => kit_ty (a := "NoneType") (b := "tuple") (r := false) (by decide +kernel)
  | .bool _ => kit_ty (a := "bool") (b := "tuple") (r := false) (by decide +kernel)
  | .int _ => kit_ty (a := "int") (b := "tuple") (r := false) (by decide +kernel)
  | .str _ => kit_ty (a := "str") (b := "tuple") (r := false) (by decide +kernel)
  | .list _ => kit_ty (a := "list") (b := "tuple") (r := false) (by decide +kernel)
  | .tuple _ => kit_ty (a := "tuple") (b := "tuple") (r := true) (by decide +kernel)
  | .dict _ => kit_ty (a := "dict") (b := "tuple") (r := false) (by decide +kernel)
theorem kt_str {K : PySem.W.Frag} : ∀ (d : PyData), PySem.W.kitOne K (.type (dTy d)) (.type "str") = some (isStrB d)
  | .none  => kit_ty (a := "NoneType") (b := "str") (r := false) (by decide +kernel)
  | .bool _ => kit_ty (a := "bool") (b := "str") (r := false) (by decide +kernel)
  | .int _ => kit_ty (a := "int") (b := "str") (r := false) (by decide +kernel)
  | .str _ => kit_ty (a := "str") (b := "str") (r := true) (by decide +kernel)
  | .list _ => kit_ty (a := "list") (b := "str") (r := false) (by decide +kernel)
  | .tuple _ => kit_ty (a := "tuple") (b := "str") (r := false) (by decide +kernel)
  | .dict _ => kit_ty (a := "dict") (b := "str") (r := false) (by decide +kernel)
theorem kt_bool {K : PySem.W.Frag} : ∀ (d : PyData), PySem.W.kitOne K (.type (dTy d)) (.type "bool") = some (isBoolB d)
  | .none  => kit_ty (a := "NoneType") (b := "bool") (r := false) (by decide +kernel)
  | .bool _ => kit_ty (a := "bool") (b := "bool") (r := true) (by decide +kernel)
  | .int _ => kit_ty (a := "int") (b := "bool") (r := false) (by decide +kernel)
  | .str _ => kit_ty (a := "str") (b := "bool") (r := false) (by decide +kernel)
  | .list _ => kit_ty (a := "list") (b := "bool") (r := false) (by decide +kernel)
  | .tuple _ => kit_ty (a := "tuple") (b := "bool") (r := false) (by decide +kernel)
  | .dict _ => kit_ty (a := "dict") (b := "bool") (r := false) (by decide +kernel)
theorem kt_int {K : PySem.W.Frag} : ∀ (d : PyData), PySem.W.kitOne K (.type (dTy d)) (.type "int") = some (isIntB d || isBoolB d)
  | .none  => kit_ty (a := "NoneType") (b := "int") (r := false) (by decide +kernel)
  | .bool _ => kit_ty (a := "bool") (b := "int") (r := true) (by decide +kernel)
  | .int _ => kit_ty (a := "int") (b := "int") (r := true) (by decide +kernel)
  | .str _ => kit_ty (a := "str") (b := "int") (r := false) (by decide +kernel)
  | .list _ => kit_ty (a := "list") (b := "int") (r := false) (by decide +kernel)
  | .tuple _ => kit_ty (a := "tuple") (b := "int") (r := false) (by decide +kernel)
  | .dict _ => kit_ty (a := "dict") (b := "int") (r := false) (by decide +kernel)
def rowB (n : Int) : PyData → Bool
  | .tuple ds => decide ((ds.length : Int) = n)
  | _ => false
def belowB (b : Int) : PyData → Bool
  | .int i => decide (0 ≤ i) && decide (i < b)
  | _ => false
def wordB (ws : List Str) : PyData → Bool
  | .str x => ws.contains x
  | _ => false
def eqStrB (y : Str) : PyData → Bool
  | .str x => decide (x = y)
  | _ => false
theorem dzs_get {K : PySem.W.Frag} {S : Addr → Prop} {H : Hp} : ∀ {vs : List V} {ds : List PyData} {i : Nat} {d : PyData}, DzAll K S H vs ds → ds[i]? = some d → ∃ v, vs[i]? = some v ∧ Dz K S H v d
  | [], [], i, d, _, e => by simp at e
  | [], _ :: _, _, _, h, _ => by cases h
  | _ :: _, [], _, _, h, _ => by cases h
  | v :: r, d' :: q, i, d, h, e => by
    cases h with
    | cons a b =>
      match i with
      | 0 =>
        rw [List.getElem?_cons_zero] at e ⊢
        cases e
        exact ⟨v, rfl, a⟩
      | i + 1 =>
        rw [List.getElem?_cons_succ] at e ⊢
        exact dzs_get b e
structure PVn (mg : Str → Option Value) : Prop where
  isi : mg "isinstance" = none
  len : mg "len" = none
  str : mg "str" = none
  int : mg "int" = none
  tup : mg "tuple" = none
  bool : mg "bool" = none
  zip : mg "zip" = none
  all : mg "all" = none
  enum : mg "enumerate" = none
abbrev sIsInt : Stmt := top 9
abbrev sBelow : Stmt := top 10
abbrev sWord : Stmt := top 11
abbrev sRowF : Stmt := top 12
abbrev sSame : Stmt := top 13
section
variable {P : Program} {w : World} {K : PySem.W.Frag} {mg : Str → Option Value} {base : Heap}
theorem scIsInt : FnScope ["value"] ["value"] (defScope sIsInt) := ⟨rfl, rfl, rfl, by decide +kernel, rfl, by decide +kernel, by decide +kernel⟩
def spIsInt (K : PySem.W.Frag) : Sp := fun vs H Q _ => ∃ (S : Addr → Prop) (v : V) (d : PyData), vs = [v] ∧ Dz K S H v d ∧ Q (.bl (isIntB d)) H
theorem ok_isint {f : Addr} {fd : FuncData} (F : Fun K "is_integer" "is_integer" sIsInt f fd) (T : PVn mg) : FnOk P w K mg base CX0 1 f fd ["value"] (spIsInt K) := by
  refine F.ok scIsInt (fun vs H Q E h => ?_) (fun cdv A outer s H vs Q E hr h => ?_)
  · obtain ⟨S, v, d, rfl, _⟩ := h
    rfl
  · obtain ⟨S, v, d, rfl, hd, q⟩ := h
    refine ⟨_, pss_one (ps_ret (pe_and (pe_callB call_isi (by rfl) T.isi (by decide +kernel) (pa_cons (pv 0) (pa_cons (pe_bltn (v := .ty "int") (by rfl) T.int (by decide +kernel) rfl) pa_nil)))
      (pe_one (pe_not (pe_callB call_isi (by rfl) T.isi (by decide +kernel) (pa_cons (pv 0) (pa_cons (pe_bltn (v := .ty "bool") (by rfl) T.bool (by decide +kernel) rfl) pa_nil))))))), ?_⟩
    refine ⟨_, rfl, _, _, .type (dTy d), .type "int", _, rfl, .ty "int", ty_dz hd, kt_int d, ?_⟩
    refine ⟨_, rfl, ?_⟩
    refine ite2 (fun c => ?_) (fun c => ?_)
    · refine ⟨_, rfl, _, _, .type (dTy d), .type "bool", _, rfl, .ty "bool", ty_dz hd, kt_bool d, ?_⟩
      refine ⟨_, rfl, ?_⟩
      rw [show (!isBoolB d) = isIntB d from by cases d <;> first | rfl | cases c]
      exact q
    · rw [show isIntB d = false from by cases d <;> first | rfl | exact absurd rfl c] at q
      exact q
theorem scBelow : FnScope ["value", "bound"] ["value", "bound"] (defScope sBelow) := ⟨rfl, rfl, rfl, by decide +kernel, rfl, by decide +kernel, by decide +kernel⟩
def spBelow (K : PySem.W.Frag) : Sp := fun vs H Q _ => ∃ (S : Addr → Prop) (v : V) (d : PyData) (b : Int), vs = [v, .int b] ∧ Dz K S H v d ∧ Q (.bl (belowB b d)) H
theorem ok_below {f : Addr} {fd : FuncData} (F : Fun K "is_below" "is_below" sBelow f fd) (R : FnAt P w K mg base CX0 1 "is_integer" ["value"] (spIsInt K)) : FnOk P w K mg base CX0 2 f fd ["value", "bound"] (spBelow K) := by
  refine F.ok scBelow (fun vs H Q E h => ?_) (fun cdv A outer s H vs Q E hr h => ?_)
  · obtain ⟨S, v, d, b, rfl, _⟩ := h
    rfl
  · obtain ⟨S, v, d, b, rfl, hd, q⟩ := h
    obtain ⟨f1, d1, m1, k1, b1, G1⟩ := R
    refine ⟨_, pss_one (ps_ret (pe_and (by exact pe_call G1 hr rfl m1 k1 b1 .nil pass0 (pa_cons (pv 0) pa_nil)) (pe_one (pe_chain op_le op_lt pe_int (pv 0) (pv 1))))), ?_⟩
    refine ⟨_, rfl, S, v, d, rfl, hd, ?_⟩
    refine ⟨_, rfl, ?_⟩
    cases d with
    | int i =>
      cases hd
      refine iteT ?_
      refine ⟨_, rfl, _, _, rfl, rfl, _, rfl, ?_⟩
      have q2 : Q (.bl (decide (0 ≤ i) && decide (i < b))) H := q
      cases c : decide (0 ≤ i) with
      | true =>
        rw [c] at q2
        refine iteT ?_
        refine ⟨_, rfl, _, _, rfl, rfl, ?_⟩
        exact q2
      | false =>
        rw [c] at q2
        exact iteF q2
    | _ => exact iteF q
end
end K6

/-! text PV2 -/
set_option Elab.async false
set_option linter.all false
set_option maxRecDepth 100000
set_option maxHeartbeats 1000000
namespace K6
open PySem PySem.Spec PyProof.Rows L2 RZ
theorem walk_zipT' {K : PySem.W.Frag} {a b : Addr} {xs ys : List V} {n : Nat} (hn : n = min xs.length ys.length) : Walk (ItzT K a b) n (fun H => SqT K H a xs ∧ SqT K H b ys) (YPair (fun i => xs[i]?) (fun i => ys[i]?)) := by
  subst hn
  refine ⟨fun i _ hi q => ?_, fun _ q => ⟨xs, ys, q.1, q.2, by omega⟩, fun i H v H' _ q y => ?_⟩
  · have h1 : i < xs.length := by omega
    have h2 : i < ys.length := by omega
    exact ⟨xs, ys, xs[i], ys[i], q.1, q.2, by simp [h1], by simp [h2]⟩
  · obtain ⟨T, x, y', e1, e2, e3, f1, f2⟩ := y
    exact ⟨T, x, y', e1, e2, e3, f1 xs q.1, f2 ys q.2⟩
theorem FnOk.none {P : Program} {w : World} {K : PySem.W.Frag} {mg : Str → Option Value} {base : Heap} {CX : CXT} {k : Nat} {f : Addr} {fd : FuncData} {ps : List Str} : FnOk P w K mg base CX k f fd ps (fun _ _ _ _ => False) :=
  ⟨fun _ _ _ _ z => z.elim, fun _ _ _ _ _ _ _ _ _ _ _ _ _ z => z.elim⟩
abbrev NSm : List Str := ["value", "told", "part", "other"]
section
variable {P : Program} {w : World} {K : PySem.W.Frag} {mg : Str → Option Value} {base : Heap}
theorem scWord : FnScope ["value", "words"] ["value", "words"] (defScope sWord) := ⟨rfl, rfl, rfl, by decide +kernel, rfl, by decide +kernel, by decide +kernel⟩
def spWord (K : PySem.W.Frag) : Sp := fun vs H Q _ => ∃ (S : Addr → Prop) (v : V) (d : PyData) (t : Addr) (ws : List Str), vs = [v, .ref t] ∧ Dz K S H v d ∧ SqT K H t (ws.map V.str) ∧ Q (.bl (wordB ws d)) H
theorem ok_word {f : Addr} {fd : FuncData} (F : Fun K "is_word" "is_word" sWord f fd) (T : PVn mg) : FnOk P w K mg base CX0 1 f fd ["value", "words"] (spWord K) := by
  refine F.ok scWord (fun vs H Q E h => ?_) (fun cdv A outer s H vs Q E hr h => ?_)
  · obtain ⟨S, v, d, t, ws, rfl, _⟩ := h
    rfl
  · obtain ⟨S, v, d, t, ws, rfl, hd, ht, q⟩ := h
    refine ⟨_, pss_one (ps_ret (pe_and (pe_callB call_isi (by rfl) T.isi (by decide +kernel) (pa_cons (pv 0) (pa_cons (pe_bltn (v := .ty "str") (by rfl) T.str (by decide +kernel) rfl) pa_nil))) (pe_one (pe_cmpR (op_inN (hu_of hr)) (pv 0) (pv 1) rfl)))), ?_⟩
    refine ⟨_, rfl, _, _, .type (dTy d), .type "str", _, rfl, .ty "str", ty_dz hd, kt_str d, ?_⟩
    refine ⟨_, rfl, ?_⟩
    cases d with
    | str x =>
      cases hd
      refine iteT ?_
      exact ⟨_, rfl, _, rfl, x, ws, rfl, ⟨t, rfl, .inr (.inr ht)⟩, q⟩
    | _ => exact iteF q
theorem scRowF : FnScope ["value", "length"] ["value", "length"] (defScope sRowF) := ⟨rfl, rfl, rfl, by decide +kernel, rfl, by decide +kernel, by decide +kernel⟩
def spRowF (K : PySem.W.Frag) : Sp := fun vs H Q _ => ∃ (S : Addr → Prop) (v : V) (d : PyData) (n : Int), vs = [v, .int n] ∧ Dz K S H v d ∧ Q (.bl (rowB n d)) H
theorem ok_rowf {f : Addr} {fd : FuncData} (F : Fun K "is_row" "is_row" sRowF f fd) (T : PVn mg) : FnOk P w K mg base CX0 1 f fd ["value", "length"] (spRowF K) := by
  refine F.ok scRowF (fun vs H Q E h => ?_) (fun cdv A outer s H vs Q E hr h => ?_)
  · obtain ⟨S, v, d, n, rfl, _⟩ := h
    rfl
  · obtain ⟨S, v, d, n, rfl, hd, q⟩ := h
    refine ⟨_, pss_one (ps_ret (pe_and (pe_callB call_isi (by rfl) T.isi (by decide +kernel) (pa_cons (pv 0) (pa_cons (pe_bltn (v := .ty "tuple") (by rfl) T.tup (by decide +kernel) rfl) pa_nil))) (pe_one (pe_cmpR op_eq (pe_callB call_len_seq (by rfl) T.len PySem.boot_len (pa_cons (pv 0) pa_nil)) (pv 1) (nomark _))))), ?_⟩
    refine ⟨_, rfl, _, _, .type (dTy d), .type "tuple", _, rfl, .ty "tuple", ty_dz hd, kt_tup d, ?_⟩
    refine ⟨_, rfl, ?_⟩
    cases d with
    | tuple ds =>
      cases hd with
      | tup ht ha =>
        refine iteT ?_
        refine ⟨_, rfl, _, _, rfl, .inr ht, _, rfl, rfl, ?_⟩
        have e : ∀ i j : Int, decide (V.int i = V.int j) = decide (i = j) := fun i j => by
          by_cases z : i = j
          · rw [decide_eq_true z, z]
            exact decide_eq_true rfl
          · rw [decide_eq_false z, decide_eq_false (fun q => z (V.int.inj q))]
        rw [e, dzs_len ha]
        exact q
    | _ => exact iteF q
theorem scSame : FnScope NSm ["value", "told"] (defScope sSame) := ⟨rfl, rfl, rfl, by decide +kernel, rfl, by decide +kernel, by decide +kernel⟩
/-- is_same(value, a text) -/
def spSame1 (K : PySem.W.Frag) : Sp := fun vs H Q _ => ∃ (S : Addr → Prop) (v : V) (d : PyData) (y : Str), vs = [v, .str y] ∧ Dz K S H v d ∧ (isStrB d || isTupB d) = true ∧ Q (.bl (eqStrB y d)) H
/-- is_same(value, a tuple of a text) -/
def sameB (y : Str) : PyData → Bool
  | .tuple [d] => eqStrB y d
  | _ => false
def sameOk : PyData → Bool
  | .tuple [d] => isStrB d || isTupB d
  | _ => true
def spSame2 (K : PySem.W.Frag) : Sp := fun vs H Q _ => ∃ (S : Addr → Prop) (v : V) (d : PyData) (t : Addr) (y : Str), vs = [v, .ref t] ∧ Dz K S H v d ∧ sameOk d = true ∧ SqT K H t [.str y] ∧ ∀ H', Same H H' → Q (.bl (sameB y d)) H'
theorem one_or (d : PyData) : (∃ d0, d = .tuple [d0]) ∨ (rowB 1 d = false ∧ ∀ y, sameB y d = false) := by
  cases d with
  | tuple ds =>
    match ds with
    | [] => exact .inr ⟨rfl, fun _ => rfl⟩
    | [d0] => exact .inl ⟨d0, rfl⟩
    | a :: b :: r =>
      refine .inr ⟨show decide (((a :: b :: r).length : Int) = 1) = false from decide_eq_false ?_, fun _ => rfl⟩
      rw [List.length_cons, List.length_cons]
      omega
  | none => exact .inr ⟨rfl, fun _ => rfl⟩
  | bool _ => exact .inr ⟨rfl, fun _ => rfl⟩
  | int _ => exact .inr ⟨rfl, fun _ => rfl⟩
  | str _ => exact .inr ⟨rfl, fun _ => rfl⟩
  | list _ => exact .inr ⟨rfl, fun _ => rfl⟩
  | dict _ => exact .inr ⟨rfl, fun _ => rfl⟩
theorem ok_same1 {f : Addr} {fd : FuncData} (F : Fun K "is_same" "is_same" sSame f fd) (T : PVn mg) (RR : FnAt P w K mg base CX0 1 "is_row" ["value", "length"] (spRowF K)) (RS : FnAt P w K mg base CX0 1 "is_same" ["value", "told"] (fun _ _ _ _ => False)) : FnOk P w K mg base CX0 2 f fd ["value", "told"] (spSame1 K) := by
  refine F.ok scSame (fun vs H Q E h => ?_) (fun cdv A outer s H vs Q E hr h => ?_)
  · obtain ⟨S, v, d, y, rfl, _⟩ := h
    rfl
  · obtain ⟨S, v, d, y, rfl, hd, ho, q⟩ := h
    obtain ⟨f1, d1, m1, k1, b1, G1⟩ := RR
    obtain ⟨f2, d2, m2, k2, b2, G2⟩ := RS
    have hr1 := hr
    have hrk := hr
    refine ⟨_, pss_cons (ps_if (pt_val (pe_callB call_isi (by rfl) T.isi (by decide +kernel) (pa_cons (pv 1) (pa_cons (pe_bltn (v := .ty "tuple") (by rfl) T.tup (by decide +kernel) rfl) pa_nil)))) (pss_one (ps_ret (pe_and (by exact pe_call G1 hr1 rfl m1 k1 b1 .nil pass0 (pa_cons (pv 0) (pa_cons (pe_callB call_len_seq (by rfl) T.len PySem.boot_len (pa_cons (pv 1) pa_nil)) pa_nil))) (pe_one (pe_callB (cr_all rfl) (by rfl) T.all (by decide +kernel) (pa_cons (pe_lc (own := [("part", 2), ("other", 3)]) (g := gTup K 2 (gCons (gName 2) (gCons (gName 3) gNil))) (tt := tYes) rfl scSame.nd (pi_zipA rfl T.zip (pa_cons (pv 0) (pa_cons (pv 1) pa_nil))) (blkOk_by (own := [("part", 2), ("other", 3)]) (N := NSm) (sc := defScope sSame) (by decide +kernel)) (fun _ _ _ _ _ => pg_tup (by rfl) (pgs_cons (pg_name (i := 2) scSame.nd rfl (Or.inl rfl)) (pgs_cons (pg_name (i := 3) scSame.nd rfl (Or.inl rfl)) pgs_nil))) (fun _ _ _ _ _ => pts_nil)
      (fun _ _ _ _ _ => by exact pe_call G2 hrk rfl m2 k2 b2 .nil pass0 (pa_cons (pv 2) (pa_cons (pv 3) pa_nil)))) pa_nil)))))) pss_nil)
    (pss_cons (ps_if (PW.pt (pw_or (pt_val (pe_callB call_isi (by rfl) T.isi (by decide +kernel) (pa_cons (pv 0) (pa_cons (pe_bltn (v := .ty "tuple") (by rfl) T.tup (by decide +kernel) rfl) pa_nil)))) (pw_or1 (pt_cmpR op_ne (pe_callB call_isi (by rfl) T.isi (by decide +kernel) (pa_cons (pv 0) (pa_cons (pe_bltn (v := .ty "bool") (by rfl) T.bool (by decide +kernel) rfl) pa_nil))) (pe_callB call_isi (by rfl) T.isi (by decide +kernel) (pa_cons (pv 1) (pa_cons (pe_bltn (v := .ty "bool") (by rfl) T.bool (by decide +kernel) rfl) pa_nil))) (nomark _))))) (pss_one (ps_ret pe_bl)) pss_nil)
    (pss_one (ps_ret (pe_cmpR op_eq (pv 0) (pv 1) (nomark _))))), ?_⟩
    refine ⟨_, rfl, _, _, .type "str", .type "tuple", false, rfl, .ty "tuple", .base (.str _), kit_ty (by decide +kernel), _, rfl, ?_⟩
    refine iteF ?_
    refine ⟨_, rfl, _, _, .type (dTy d), .type "tuple", _, rfl, .ty "tuple", ty_dz hd, kt_tup d, _, rfl, ?_⟩
    cases d with
    | tuple ds => exact iteT q
    | str x =>
      cases hd
      refine iteF ?_
      refine ⟨_, rfl, _, _, .type "str", .type "bool", false, rfl, .ty "bool", .base (.str _), kit_ty (by decide +kernel), ?_⟩
      refine ⟨_, rfl, _, _, .type "str", .type "bool", false, rfl, .ty "bool", .base (.str _), kit_ty (by decide +kernel), rfl, ?_⟩
      refine ⟨_, rfl, iteF ?_⟩
      refine ⟨_, rfl, _, rfl, rfl, ?_⟩
      have e : decide (V.str x = V.str y) = decide (x = y) := by
        by_cases z : x = y
        · rw [decide_eq_true z, z]
          exact decide_eq_true rfl
        · rw [decide_eq_false z, decide_eq_false (fun q => z (V.str.inj q))]
      rw [e]
      exact q
    | none => cases ho
    | bool _ => cases ho
    | int _ => cases ho
    | list _ => cases ho
    | dict _ => cases ho
theorem ok_same2 {f : Addr} {fd : FuncData} (F : Fun K "is_same" "is_same" sSame f fd) (T : PVn mg) (RR : FnAt P w K mg base CX0 1 "is_row" ["value", "length"] (spRowF K)) (RS : FnAt P w K mg base CX0 2 "is_same" ["value", "told"] (spSame1 K)) : FnOk P w K mg base CX0 3 f fd ["value", "told"] (spSame2 K) := by
  refine F.ok scSame (fun vs H Q E h => ?_) (fun cdv A outer s H vs Q E hr h => ?_)
  · obtain ⟨S, v, d, t, y, rfl, _⟩ := h
    rfl
  · obtain ⟨S, v, d, t, y, rfl, hd, ho, ht, q⟩ := h
    obtain ⟨f1, d1, m1, k1, b1, G1⟩ := RR
    obtain ⟨f2, d2, m2, k2, b2, G2⟩ := RS
    have hr1 : Room 1 (A.deeper (envOfC "is_same" (defScope sSame) s.heap.objs.size f cdv)) := hr.mono (by decide)
    have hrk := hr
    refine ⟨_, pss_cons (ps_if (pt_val (pe_callB call_isi (by rfl) T.isi (by decide +kernel) (pa_cons (pv 1) (pa_cons (pe_bltn (v := .ty "tuple") (by rfl) T.tup (by decide +kernel) rfl) pa_nil)))) (pss_one (ps_ret (pe_and (by exact pe_call G1 hr1 rfl m1 k1 b1 .nil pass0 (pa_cons (pv 0) (pa_cons (pe_callB call_len_seq (by rfl) T.len PySem.boot_len (pa_cons (pv 1) pa_nil)) pa_nil))) (pe_one (pe_callB (cr_all rfl) (by rfl) T.all (by decide +kernel) (pa_cons (pe_lc (own := [("part", 2), ("other", 3)]) (g := gTup K 2 (gCons (gName 2) (gCons (gName 3) gNil))) (tt := tYes) rfl scSame.nd (pi_zipA rfl T.zip (pa_cons (pv 0) (pa_cons (pv 1) pa_nil))) (blkOk_by (own := [("part", 2), ("other", 3)]) (N := NSm) (sc := defScope sSame) (by decide +kernel)) (fun _ _ _ _ _ => pg_tup (by rfl) (pgs_cons (pg_name (i := 2) scSame.nd rfl (Or.inl rfl)) (pgs_cons (pg_name (i := 3) scSame.nd rfl (Or.inl rfl)) pgs_nil))) (fun _ _ _ _ _ => pts_nil)
      (fun _ _ _ _ _ => by exact pe_call G2 hrk rfl m2 k2 b2 .nil pass0 (pa_cons (pv 2) (pa_cons (pv 3) pa_nil)))) pa_nil)))))) pss_nil)
    (pss_cons (ps_if (PW.pt (pw_or (pt_val (pe_callB call_isi (by rfl) T.isi (by decide +kernel) (pa_cons (pv 0) (pa_cons (pe_bltn (v := .ty "tuple") (by rfl) T.tup (by decide +kernel) rfl) pa_nil)))) (pw_or1 (pt_cmpR op_ne (pe_callB call_isi (by rfl) T.isi (by decide +kernel) (pa_cons (pv 0) (pa_cons (pe_bltn (v := .ty "bool") (by rfl) T.bool (by decide +kernel) rfl) pa_nil))) (pe_callB call_isi (by rfl) T.isi (by decide +kernel) (pa_cons (pv 1) (pa_cons (pe_bltn (v := .ty "bool") (by rfl) T.bool (by decide +kernel) rfl) pa_nil))) (nomark _))))) (pss_one (ps_ret pe_bl)) pss_nil)
    (pss_one (ps_ret (pe_cmpR op_eq (pv 0) (pv 1) (nomark _))))), ?_⟩
    refine ⟨_, rfl, _, _, .type "tuple", .type "tuple", true, rfl, .ty "tuple", ty_tup ht, kit_ty (by decide +kernel), _, rfl, ?_⟩
    refine iteT ?_
    refine ⟨_, rfl, _, rfl, t, _, rfl, .inr ht, S, v, d, _, rfl, hd, ?_⟩
    refine ⟨_, rfl, ?_⟩
    rcases one_or d with ⟨d0, rfl⟩ | ⟨e1, e2⟩
    · cases hd with
      | tup ha hall =>
        rename_i a xs
        cases hall with
        | cons h0 hn =>
          rename_i v0 vs0
          cases hn
          refine iteT ?_
          refine ⟨_, rfl, _, rfl, a, t, _, _, rfl, .inr ⟨ha, ht, fun D hD => ?_⟩⟩
          refine lc_it (walk_zipT' (K := K) (a := a) (b := t) (xs := [v0]) (ys := [V.str y]) (n := 1) rfl) (fun i H' => Same H H' ∧ H' D = some (.lst ([V.bl (eqStrB y d0)].take i))) ⟨Same.new hD, upd_same⟩ ?_ ?_ ?_
          · rintro i H' _ ⟨s1, _⟩
            exact ⟨sqt_same s1 ha, sqt_same s1 ht⟩
          · rintro i x H3 H4 hi ⟨s1, h1⟩ ⟨T', a', b', rfl, hT, rfl, ea, eb⟩
            obtain rfl : i = 0 := by omega
            cases ea
            cases eb
            have s4 := Same.new (o := .tup [v0, V.str y]) hT
            refine ⟨T', _, rfl, SqT.of upd_same, rfl, _, _, rfl, _, _, rfl, rfl, ?_⟩
            generalize upd H3 T' (.tup [v0, V.str y]) = H4 at s4
            refine ⟨rfl, ?_⟩
            refine ⟨_, rfl, _, rfl, S, v0, d0, y, rfl, dz_same (s1.trans s4) h0, ho, _, s4 _ _ h1, (by show 0 < sizeLine; rw [sizeLine_eq]; omega), ?_⟩
            refine ⟨fun b o e => ?_, ?_⟩
            · rw [upd_ne (ne_of_none e hD)]
              exact s4 _ _ (s1 b o e)
            · rw [upd_same]
              rfl
          · rintro H' ⟨s1, h1⟩
            refine ⟨D, [eqStrB y d0], rfl, SqL.of h1, ?_⟩
            rw [show ([eqStrB y d0].all id) = eqStrB y d0 from Bool.and_true _]
            exact q _ s1
    · have z := q H (Same.refl H)
      rw [e2] at z
      refine if_false_of ?_ z
      exact e1
end
end K6

/-! text PV3 -/
set_option Elab.async false
set_option linter.all false
set_option maxRecDepth 100000
set_option maxHeartbeats 1000000
namespace K6
open PySem PySem.Spec PyProof.Rows L2
def atD (i : Nat) : PyData → PyData
  | .tuple ds => ds.getD i .none
  | _ => .none
def strNameB : PyData → Bool
  | .str x => pName x
  | _ => false
def isMvP (d : PyData) : Bool :=
  if (rowB 3 d && eqStrB "deed" (atD 0 d)) = true then (isStrB (atD 1 d) && (strNameB (atD 1 d) && belowB 1000 (atD 2 d))) else
  if (rowB 2 d && wordB pHeads (atD 0 d)) = true then belowB 1000 (atD 1 d) else sameB "over" d
def mvPre (d : PyData) : Bool := (!rowB 3 d || isStrB (atD 0 d)) && (sameOk d && (match atD 1 d with
  | .str x => decide (x.length ≤ 1000000)
  | _ => true))
theorem row_get {K : PySem.W.Frag} {S : Addr → Prop} {H : Hp} {v : V} {d : PyData} {n : Int} {i : Nat} (hr : rowB n d = true) (hi : (i : Int) < n) (h : Dz K S H v d) : ∃ a xs vi, v = .ref a ∧ SqT K H a xs ∧ xs[i]? = some vi ∧ Dz K S H vi (atD i d) := by
  cases d with
  | tuple ds =>
    cases h with
    | tup ht ha =>
      have z : (ds.length : Int) = n := of_decide_eq_true hr
      have hl : i < ds.length := by omega
      obtain ⟨vi, e, q⟩ := dzs_get ha (List.getElem?_eq_getElem hl)
      refine ⟨_, _, vi, rfl, ht, e, ?_⟩
      rw [show atD i (.tuple ds) = ds[i] from by
        show ds.getD i .none = _
        rw [List.getD_eq_getElem?_getD, List.getElem?_eq_getElem hl]
        rfl]
      exact q
  | _ => cases hr
abbrev sIsMove : Stmt := top 21
abbrev sTextOf : Stmt := top 22
abbrev sShow : Stmt := top 19
theorem mvP_ok {d : PyData} (h : MvOk d ∨ d ∈ noneL) : mvPre d = true ∧ isMvP d = mvB d := by
  rcases h with h | h
  · have k1 : nameL.all (fun x => decide (x.length ≤ 1000000) && pName x) = true := by decide +kernel
    have k2 : numL.all (fun i => decide (0 ≤ i) && decide (i < 1000)) = true := by decide +kernel
    rw [mv_yes h]
    cases h with
    | deed x i hx hi =>
      have z1 := List.all_eq_true.mp k1 x hx
      have z2 := List.all_eq_true.mp k2 i hi
      rw [Bool.and_eq_true] at z1
      refine ⟨?_, ?_⟩
      · show (true && (true && decide (x.length ≤ 1000000))) = true
        rw [z1.1]
        rfl
      · show (true && (pName x && (decide (0 ≤ i) && decide (i < 1000)))) = true
        rw [z1.2, z2]
        rfl
    | over => exact ⟨rfl, rfl⟩
    | word x i hx hi =>
      have z2 := List.all_eq_true.mp k2 i hi
      have z3 : pHeads.contains x = true := List.contains_iff_mem.mpr hx
      refine ⟨rfl, ?_⟩
      show (if (pHeads.contains x) = true then (decide (0 ≤ i) && decide (i < 1000)) else false) = true
      rw [z3, if_pos rfl, z2]
  · have k : noneL.all (fun d => mvPre d && !isMvP d) = true := by decide +kernel
    have z := List.all_eq_true.mp k d h
    rw [Bool.and_eq_true] at z
    rw [mv_no h]
    exact ⟨z.1, by simpa using z.2⟩
section
variable {P : Program} {w : World} {K : PySem.W.Frag} {mg : Str → Option Value} {base : Heap} {CB fB : Addr}
theorem scIsMove : FnScope ["value"] ["value"] (defScope sIsMove) := ⟨rfl, rfl, rfl, by decide +kernel, rfl, by decide +kernel, by decide +kernel⟩
def spIsMove (K : PySem.W.Frag) : Sp := fun vs H Q _ => ∃ (S : Addr → Prop) (v : V) (d : PyData), vs = [v] ∧ Dz K S H v d ∧ mvPre d = true ∧ ∀ H', Same H H' → Q (.bl (isMvP d)) H'
theorem ok_ismove {f : Addr} {fd : FuncData} (F : Fun K "is_move" "is_move" sIsMove f fd) (T : PVn mg) (N : PNm K mg) (gN : ∃ t, mg "NUMBERS" = some (.int 1000 t)) (R1 : FnAt P w K mg base CX0 1 "is_row" ["value", "length"] (spRowF K)) (R2 : FnAt P w K mg base CX0 2 "is_below" ["value", "bound"] (spBelow K)) (R3 : FnAt P w K mg base CX0 1 "is_word" ["value", "words"] (spWord K)) (R4 : FnAt P w K mg base CX0 1 "is_name" ["word"] spPName) (R5 : FnAt P w K mg base CX0 3 "is_same" ["value", "told"] (spSame2 K)) : FnOk P w K mg base CX0 4 f fd ["value"] (spIsMove K) := by
  refine F.ok scIsMove (fun vs H Q E h => ?_) (fun cdv A outer s H vs Q E hr h => ?_)
  · obtain ⟨S, v, d, rfl, _⟩ := h
    rfl
  · obtain ⟨S, v, d, rfl, hd, hp, q⟩ := h
    obtain ⟨f1, d1, m1, k1, b1, G1⟩ := R1
    obtain ⟨f2, d2, m2, k2, b2, G2⟩ := R2
    obtain ⟨f3, d3, m3, k3, b3, G3⟩ := R3
    obtain ⟨f4, d4, m4, k4, b4, G4⟩ := R4
    obtain ⟨f5, d5, m5, k5, b5, G5⟩ := R5
    obtain ⟨tN, gN⟩ := gN
    obtain ⟨aT, gT, sT⟩ := N.gT
    obtain ⟨aO, gO, sO⟩ := N.gO
    have hr1 : Room 1 (A.deeper (envOfC "is_move" (defScope sIsMove) s.heap.objs.size f cdv)) := hr.mono (by decide)
    have hr2 : Room 2 (A.deeper (envOfC "is_move" (defScope sIsMove) s.heap.objs.size f cdv)) := hr.mono (by decide)
    obtain ⟨tr, hps, last⟩ : ∃ tr, PSs (cxOf CX0 P w K mg base ["value"] "is_move" (defScope sIsMove) f cdv A outer s H E).nox ((defBody sIsMove).drop 1) tr ∧ ((rowB 3 d && eqStrB "deed" (atD 0 d)) = false → tr { nx := fun _ H' => Q .non H', rt := Q } [some v] H) := by
      refine ⟨_, pss_cons (ps_if (PW.pt (pw_and (pt_val (by exact pe_call G1 hr1 rfl m1 k1 b1 .nil pass0 (pa_cons (pv 0) (pa_cons pe_int pa_nil)))) (pw_and1 (pt_val (by exact pe_call G3 hr1 rfl m3 k3 b3 .nil pass0 (pa_cons (pe_ix ix_tup (pv 0) pe_int (fun _ _ => rfl)) (pa_cons (pe_glob (v := .ref aT) rfl gT rfl) pa_nil))))))) (pss_one (ps_ret (by exact pe_call G2 hr2 rfl m2 k2 b2 .nil pass0 (pa_cons (pe_ix ix_tup (pv 0) pe_int (fun _ _ => rfl)) (pa_cons (pe_glob (v := .int 1000) rfl gN ⟨_, rfl⟩) pa_nil))))) pss_nil)
        (pss_one (ps_ret (by exact pe_call G5 hr rfl m5 k5 b5 .nil pass0 (pa_cons (pv 0) (pa_cons (pe_glob (v := .ref aO) rfl gO rfl) pa_nil))))), ?_⟩
      intro cN
      have ev : isMvP d = if (rowB 2 d && wordB pHeads (atD 0 d)) = true then belowB 1000 (atD 1 d) else sameB "over" d := by
        unfold isMvP
        rw [cN]
        rfl
      have no : (rowB 2 d && wordB pHeads (atD 0 d)) = false → spSame2 K [v, .ref aO] H Q E0 := fun c => ⟨S, v, d, aO, "over", rfl, hd, by
        unfold mvPre at hp
        simp only [Bool.and_eq_true] at hp
        exact hp.2.1, sO _, fun H' s1 => by
        have z := q H' s1
        rw [ev, c] at z
        exact z⟩
      refine ⟨_, rfl, S, v, d, 2, rfl, hd, ?_⟩
      refine ⟨_, rfl, ?_⟩
      cases c : rowB 2 d with
      | false => exact iteF ⟨_, rfl, no (by rw [c]; rfl)⟩
      | true =>
        refine iteT ?_
        obtain ⟨a, xs, v0, rfl, ht, e0, z0⟩ := row_get (i := 0) c (by decide) hd
        obtain ⟨a', xs', v1, ea, ht', e1, z1⟩ := row_get (i := 1) c (by decide) hd
        cases ea
        refine ⟨_, rfl, a, _, _, _, rfl, rfl, ht, atI_nat e0, S, v0, _, aT, pHeads, rfl, z0, sT _, ?_⟩
        refine ⟨_, rfl, ?_⟩
        cases c2 : wordB pHeads (atD 0 d) with
        | false => exact iteF ⟨_, rfl, no (by rw [c2]; exact Bool.and_false _)⟩
        | true =>
          refine iteT ?_
          refine ⟨_, rfl, a, _, _, _, rfl, rfl, ht', atI_nat e1, S, v1, _, 1000, rfl, z1, ?_⟩
          have z := q H (Same.refl H)
          rw [ev, c, c2] at z
          exact z
    refine ⟨_, pss_cons (ps_if (PW.pt (pw_and (pt_val (by exact pe_call G1 hr1 rfl m1 k1 b1 .nil pass0 (pa_cons (pv 0) (pa_cons pe_int pa_nil)))) (pw_and1 (pt_cmpR op_eq (pe_ix ix_tup (pv 0) pe_int (fun _ _ => rfl)) pe_str (nomark _))))) (pss_one (ps_ret (pe_and (pe_callB call_isi (by rfl) T.isi (by decide +kernel) (pa_cons (pe_ix ix_tup (pv 0) pe_int (fun _ _ => rfl)) (pa_cons (pe_bltn (v := .ty "str") (by rfl) T.str (by decide +kernel) rfl) pa_nil))) (pe_and (by exact pe_call G4 hr1 rfl m4 k4 b4 .nil pass0 (pa_cons (pe_ix ix_tup (pv 0) pe_int (fun _ _ => rfl)) pa_nil)) (pe_one (by exact pe_call G2 hr2 rfl m2 k2 b2 .nil pass0 (pa_cons (pe_ix ix_tup (pv 0) pe_int (fun _ _ => rfl)) (pa_cons (pe_glob (v := .int 1000) rfl gN ⟨_, rfl⟩) pa_nil)))))))) pss_nil) hps, ?_⟩
    refine ⟨_, rfl, S, v, d, 3, rfl, hd, ?_⟩
    refine ⟨_, rfl, ?_⟩
    cases c : rowB 3 d with
    | false => exact iteF (last (by rw [c]; rfl))
    | true =>
      refine iteT ?_
      obtain ⟨a, xs, v0, rfl, ht, e0, z0⟩ := row_get (i := 0) c (by decide) hd
      obtain ⟨a', xs', v1, ea, ht1, e1, z1⟩ := row_get (i := 1) c (by decide) hd
      cases ea
      obtain ⟨a', xs2, v2, ea, ht2, e2, z2⟩ := row_get (i := 2) c (by decide) hd
      cases ea
      have hs : isStrB (atD 0 d) = true := by
        unfold mvPre at hp
        rw [c] at hp
        simp only [Bool.and_eq_true] at hp
        exact hp.1
      have hn : ∀ x, atD 1 d = .str x → x.length ≤ 1000000 := fun x e => by
        unfold mvPre at hp
        simp only [Bool.and_eq_true] at hp
        have z := hp.2.2
        rw [e] at z
        exact of_decide_eq_true z
      obtain ⟨x0, hx0⟩ : ∃ x0, atD 0 d = .str x0 := by
        revert hs
        cases atD 0 d <;> intro hs <;> first | exact ⟨_, rfl⟩ | cases hs
      rw [hx0] at z0 last
      cases z0
      have ee : eqStrB "deed" (.str x0) = decide (x0 = "deed") := rfl
      refine ⟨_, rfl, a, _, _, _, rfl, rfl, ht, atI_nat e0, rfl, _, rfl, ?_⟩
      have dd : decide (V.str x0 = V.str "deed") = decide (x0 = "deed") := by
        by_cases z : x0 = "deed"
        · rw [decide_eq_true z, z]
          exact decide_eq_true rfl
        · rw [decide_eq_false z, decide_eq_false (fun q => z (V.str.inj q))]
      rw [dd]
      cases c2 : decide (x0 = "deed") with
      | false => exact iteF (last (by rw [c, ee, c2]; rfl))
      | true =>
        refine iteT ?_
        have ev : isMvP d = (isStrB (atD 1 d) && (strNameB (atD 1 d) && belowB 1000 (atD 2 d))) := by
          unfold isMvP
          rw [hx0, ee, c2, c]
          rfl
        rw [ev] at q
        refine ⟨_, rfl, a, _, _, _, rfl, rfl, ht1, atI_nat e1, _, _, .type (dTy (atD 1 d)), .type "str", _, rfl, .ty "str", ty_dz z1, kt_str _, ?_⟩
        refine ⟨_, rfl, ?_⟩
        cases c3 : isStrB (atD 1 d) with
        | false =>
          rw [c3] at q
          exact iteF (q H (Same.refl H))
        | true =>
          refine iteT ?_
          obtain ⟨x1, hx1⟩ : ∃ x1, atD 1 d = .str x1 := by
            revert c3
            cases atD 1 d <;> intro c3 <;> first | exact ⟨_, rfl⟩ | cases c3
          have hn1 := hn x1 hx1
          rw [hx1] at z1 q
          cases z1
          refine ⟨_, rfl, a, _, _, _, rfl, rfl, ht1, atI_nat e1, x1, rfl, hn1, fun H1 s1 => ?_⟩
          refine ⟨_, rfl, ?_⟩
          have q' : ∀ H', Same H H' → Q (.bl (pName x1 && belowB 1000 (atD 2 d))) H' := q
          cases c4 : pName x1 with
          | false =>
            rw [c4] at q'
            exact iteF (q' H1 s1)
          | true =>
            rw [c4] at q'
            refine iteT ?_
            exact ⟨_, rfl, a, _, _, _, rfl, rfl, sqt_same s1 ht2, atI_nat e2, S, v2, _, 1000, rfl, dz_same s1 z2, q' H1 s1⟩
end
end K6

/-! text LS -/
set_option Elab.async false
set_option linter.all false
set_option maxRecDepth 100000
set_option maxHeartbeats 4000000
namespace PySem
namespace LowS
open PySem.W PySem.Calls PyProof.Rows PySem.HandSPX
/-! ### the text of __init__ -/
def iA (p1 p2 : Pos) : Arguments := { posonlyargs := [], args := [{ arg := "self", annotation := none, pos := p1 }, { arg := "number", annotation := none, pos := p2 }], vararg := none, kwonlyargs := [], kw_defaults := [], kwarg := none, defaults := [] }
def iB (q1 q2 q3 q4 : Pos) : List Stmt := [.Assign [.Attribute (.Name "self" q1) "number" q2] (.Name "number" q3) q4]
def iS : Scope := { kind := .function, names := [(PySem.Str.ofString "self", .local), (PySem.Str.ofString "number", .local)], isGenerator := false, isCoroutine := false, more := [] }
/-- what the written part says of Low, at C, and of its __init__, at fI -/
structure LowTxt (K : Frag) (mg : Str → Option Value) (C fI : Addr) : Prop where
  gC : mg "BadStory" = some (.ref C)
  cls : ∃ nm q N bs bm sn sub ab col dd k0 k1 k2 k3 k5, K.lookup C = some (excClassObj nm q C N bs bm true sn sub ab col dd k0 k1 k2 k3 k5 "ValueError.__new__") ∧ refsVE bm = true
  sa : findIn K (.ref C) "__setattr__" = some (some (.builtin "object.__setattr__"))
  ga : findIn K (.ref C) "__getattribute__" = some (some (.builtin "BaseException.__getattribute__"))
  gg : findIn K (.ref C) "__getattr__" = some none
  noN : findIn K (.ref C) "number" = some none
  iC : findIn K (.ref C) "__init__" = some (some (.ref fI))
  tC : typeIn K (.ref fI) = some (.type "function")
  kC : keepIn K (.ref C) = true
  exC : subIn K (.ref C) (.type "BaseException") = some true
  tyC : typeIn K (.ref C) = some (.type "type")
  hdC : hasDictIn K C = true
  te : exmOne K (.ref C) (.ref C) = some true
  fn : ∃ (oc : Value) (od : Option Addr) (doc pm : Value) (an : Option Addr) (cdv ct : Value) (osl : Array (Option Value)) (p1 p2 q1 q2 q3 q4 : Pos),
    K.lookup fI = some ⟨oc, od, .func (fnOf "__init__" "BadStory.__init__" (iA p1 p2) (iB q1 q2 q3 q4) iS .none .none doc pm an cdv ct), osl⟩ ∧ codeIn K cdv "BadStory.__init__" = true
theorem one_size (v : Value) : [v].length ≤ sizeLine := by
  rw [sizeLine_eq]
  exact (by decide : 1 ≤ 16777216)
theorem kept_but {K : Frag} {h h' : Heap} {x : Addr} (X : K.In h) (hx : K.lookup x = none) (k : ∀ b o, b ≠ x → h.get? b = some o → h'.get? b = some o) : K.In h' := fun a o e =>
  k a o (fun z => by rw [z, hx] at e; cases e) (X a o e)
theorem ldC {M : Model} {s : Shared} {name : Str} {scope : Scope} {L a : Addr} {cd : Value} {m : Str → Option Value} {x : Str} {pos : Pos} {v : Value} {Q : Value → Shared → Prop} {A : Around} {E : Value → Shared → Prop} (hn : s.heap.Ns L m) (hv : m x = some v) (h : Q v s)
    (hk : scope.kind = .function := by rfl) (hl : (envOfC name scope L a cd).kindOf x = some .local := by rfl) (hd : (x == ("__debug__" : Str)) = false := by decide) :
    wpAny M A (eval (.Name x pos) (envOfC name scope L a cd)) Q E s := wpAny_Name (wpAny_loadName_local hk hl hn hv h) hd
/-- what __init__ leaves of a fresh exception at x -/
structure InitEnd (h h' : Heap) (x C dx t1 : Addr) (v : Value) : Prop where
  keep : ∀ b o, b ≠ x → h.get? b = some o → h'.get? b = some o
  obj : h'.get? x = some { cls := .ref C, dict := some dx, data := .fields #[.ref t1, .none, .none, .none, .bool false, .none] }
  dbig : h.objs.size ≤ dx
  dne : dx ≠ x
  ns : h'.Ns1 dx (fun y => if y = "number" then some v else none)
/-- a made Low -/
structure OwnMade (h h' : Heap) (e C d : Addr) (v : Value) : Prop where
  keep : ∀ b o, h.get? b = some o → h'.get? b = some o
  new : h.objs.size ≤ e
  obj : ∃ oe vs, h'.get? e = some oe ∧ oe.cls = .ref C ∧ oe.dict = some d ∧ oe.data = .fields vs ∧ vs[1]? = some .none
  dbig : h.objs.size ≤ d
  dne : d ≠ e
  ns : h'.Ns1 d (fun y => if y = "number" then some v else none)
section
variable {prog : Program} {w : World} {A : Around} {E : Value → Shared → Prop} {R : Result → Shared → Prop} {s : Shared} {K : Frag} {mg : Str → Option Value} {C fI : Addr}
theorem low_init (T : LowTxt K mg C fI) {x t0 : Addr} {v : Value} (X : K.In s.heap) (hlim : s.heap.NoLimit) (hx : s.heap.get? x = some (excO C t0)) (hnx : K.lookup x = none) (hroom : A.depth < recursionLimit)
    (hq : ∀ h' tk dx, InitEnd s.heap h' x C dx t0 v → R (.ok (.ret .none)) { s with heap := h', toks := tk }) :
    codeAny (model prog w) A (.call (.ref fI) ⟨[.ref x, v], []⟩) R s := by
  obtain ⟨oc, od, doc, pm, an, cdv, ct, osl, p1, p2, q1, q2, q3, q4, ho, hcd⟩ := T.fn
  obtain ⟨nm, q, N, bs, bm, sn, sub, ab, col, dd, k0, k1, k2, k3, k5, hC, hbm⟩ := T.cls
  have hcl : clsIn K C = some { name := nm, bases := bs, mro := .ref C :: bm, ns := N, qualname := q, hasDict := true, slotNames := sn, subclasses := sub, abstract := ab, collection := col, hasDel := false } := by unfold clsIn; rw [hC] <;> rfl
  refine Att.call_fn (binds := [("self", .ref x), ("number", v)]) X hlim ho hcd hroom (BindsTo.of_eq (by first | rfl | with_unfolding_all rfl)) (by first | rfl | decide | with_unfolding_all rfl) (fun s₁ IC => ?_) rfl rfl rfl
  obtain ⟨h₁, tk₁, rfl⟩ := IC.toInCall.same
  have k : ∀ b o, s.heap.get? b = some o → h₁.get? b = some o := IC.toInCall.keep
  have hn := IC.toInCall.ns
  have hxL : s.heap.objs.size ≠ x := Nat.ne_of_gt (Heap.lt_size hx)
  have X₁ : K.In h₁ := X.keeps k
  have hx₁ := k _ _ hx
  -- self.by = by
  show wpAny _ _ (execs _ _) _ _ _
  refine wpAny_execs_cons (plainObj_wpAny_Assign_Attribute ?_)
  refine ldC (v := v) hn (by first | rfl | with_unfolding_all rfl | kernel_rfl) (ldC (v := .ref x) hn (by first | rfl | with_unfolding_all rfl | kernel_rfl) ?_)
  refine set_plain X₁ (ox := excO C t0) (od := none) ⟨hx₁, rfl, rfl, trivial⟩ T.sa ?_
  refine exc_osa X₁ hx₁ hcl (show refsVE (.ref C :: bm) = true from hbm) rfl T.noN (fun h₃ tk₃ dx k₃ dn dne hx₃ hn₃ => ?_)
  show wpAny _ _ (execs _ _) _ _ _
  have z : s.heap.objs.size < h₁.objs.size := hn.lt
  exact wpAny_execs_nil (hq h₃ tk₃ dx ⟨fun b o hb e => k₃ b o hb (k b o e), hx₃, Nat.le_of_lt (Nat.lt_of_lt_of_le z dn), dne, hn₃⟩)
theorem low_made (T : LowTxt K mg C fI) {v : Value} (X : K.In s.heap) (hlim : s.heap.NoLimit) (hroom : A.depth + 1 < recursionLimit)
    (hq : ∀ h' tk e d, OwnMade s.heap h' e C d v → R (.ok (.ret (.ref e))) { s with heap := h', toks := tk }) :
    codeAny (model prog w) A (.call (.ref C) ⟨[v], []⟩) R s := by
  obtain ⟨nm, q, N, bs, bm, sn, sub, ab, col, dd, k0, k1, k2, k3, k5, hC, hbm⟩ := T.cls
  obtain ⟨hp, g, dr, tk, os⟩ := s
  have k : ∀ b o, hp.get? b = some o → ((hp.push (kdv_tup [v])).push (excO C hp.objs.size)).get? b = some o := fun b o e => Heap.get?_push_of_some _ (Heap.get?_push_of_some _ e)
  have hget : ((hp.push (kdv_tup [v])).push (excO C hp.objs.size)).get? (hp.objs.size + 1) = some (excO C hp.objs.size) := by heap_get
  have hnx : K.lookup (hp.objs.size + 1) = none := by
    cases e : K.lookup (hp.objs.size + 1) with
    | none => rfl
    | some o =>
      have z : hp.get? (hp.objs.size + 1) = some o := X _ _ e
      exact absurd (Nat.lt_of_succ_lt (Heap.lt_size z)) (Nat.lt_irrefl _)
  refine call_own F.excBase_ValueError (fun X => refsVE_contains X bm hbm) (X _ _ hC) (looks_findIn X T.iC) (fun self => bind_fn X self T.tC) (one_size v) ?_
  refine low_init (s := ⟨(hp.push (kdv_tup [v])).push (excO C hp.objs.size), g, dr, tk, os⟩) T (X.keeps k) (hlim.keeps k) hget hnx ?_ fun h' tk' dx ⟨k', hx, dn, dne, hns⟩ => ?_
  · show A.depth + 1 < recursionLimit
    exact hroom
  · have old : ∀ b o, hp.get? b = some o → h'.get? b = some o := fun b o e => k' b o (Nat.ne_of_lt (Nat.lt_succ_of_lt (Heap.lt_size e))) (k b o e)
    have z : hp.objs.size + 1 + 1 ≤ dx := by
      first
        | (simpa only [Heap.size_push] using dn)
        | exact dn
        | (have q := dn; rw [Heap.size_push, Heap.size_push] at q; exact q)
    exact ⟨rfl, hq h' tk' (hp.objs.size + 1) dx ⟨old, Nat.le_succ _, ⟨_, _, hx, rfl, rfl, rfl, rfl⟩, Nat.le_trans (Nat.le_trans (Nat.le_succ _) (Nat.le_succ _)) z, dne, hns⟩⟩
end
end LowS
end PySem
namespace L2
open PySem PySem.Spec PyProof.Rows
theorem relO_badS {v : V} {v' : Value} (r : RelV v v') (f : Str) : RelO (List.lookup f [(("number" : Str), v)]) (if f = "number" then some v' else none) := by
  by_cases hw : f = "number"
  · subst hw
    rw [if_pos rfl]
    have q : List.lookup ("number" : Str) [(("number" : Str), v)] = some v := by simp [List.lookup]
    rw [q]
    exact r
  · rw [if_neg hw]
    have qw : (f == ("number" : Str)) = false := by simpa using hw
    have q2 : List.lookup f [(("number" : Str), v)] = none := by simp [List.lookup, qw]
    rw [q2]
    trivial
section
variable {X : Cx} {C fI : Addr}
/-- Low(e) -/
def tMkLowS (C : Addr) (ta : TA) : St → Hp → XK → Prop := fun σ H Q => ta σ H fun vs H1 => ∃ v, vs = [v] ∧ ∀ d, H1 d = none → Q (.ref C) (some d) (upd H1 d (.xd [(("number" : Str), v)]))
theorem pmk_lowS {a : Expr} {ta : TA} {p pos : Pos} {k : Nat} (T : PySem.LowS.LowTxt X.K X.mg C fI) (hr : Room k X.A) (ha : PA X [a] ta) (hg : Gl X "BadStory" := by rfl)
    (he : starEach (a :: []) X.env = (false, eval a X.env) :: starEach [] X.env := by rfl) (hpl : (backTo pos (starEach [] X.env)).any (·.1) = false := by rfl) :
    PMk X (.Call (.Name "BadStory" p) [a] [] pos) (tMkLowS C ta) := by
  intro pins s σ H Q I h
  refine wpAny_Call_Name_kw (ld_glob I hg T.gC ?_)
  refine PySem.W.callWith_K (h₀ := X.base) I.ok.mod.kin T.kC (thn (ha.run pos pins s σ H _ I h) fun us s1 hh => ?_) he hpl
  obtain ⟨vs, H1, I1, r1, v, ev, q1⟩ := hh
  subst ev
  refine ⟨I1.kIn, ?_⟩
  cases r1 with
  | cons rv rn =>
    rename_i v' us'
    cases rn
    show wpAny _ _ (call (.ref C) [v']) _ _ _
    have hlim := I1.nolimit
    obtain ⟨hp, g, dr, tk, os⟩ := s1
    refine wpAny_call (PySem.LowS.low_made T I1.kIn hlim (by have := hr.dp; omega) fun h' tk' e d M => ?_)
    show MkP X pins σ Q (.ref e) ⟨h', g, dr, tk', os⟩
    obtain ⟨oe, fv, hoe, hc, hd, hdat, h1⟩ := M.obj
    have hns := M.ns
    obtain ⟨G', g1, g2⟩ := restrict h' fun b => decide (b ≠ e)
    have gk : ∀ b, b ≠ e → G'.get? b = h'.get? b := fun b hb => g1 b (decide_eq_true hb)
    have ge : G'.get? e = none := g2 e (by simp)
    have old : ∀ b o, hp.get? b = some o → G'.get? b = some o := fun b o q => (gk b (Nat.ne_of_lt (Nat.lt_of_lt_of_le (Heap.lt_size q) M.new))).trans (M.keep b o q)
    have ob : ObjOk X.prog X.w (upd H1 d (.xd [(("number" : Str), v)])) G' d (.xd [(("number" : Str), v)]) :=
      ⟨_, hns.at (fun o q => (gk d M.dne).trans q), fun f => relO_badS rv f⟩
    have J : Inv X pins σ (upd H1 d (.xd [(("number" : Str), v)])) ⟨G', g, dr, tk', os⟩ := I1.laid (t' := tk') old M.dbig ob
    refine ⟨e, oe, fv, ⟨G', g, dr, tk', os⟩, _, .ref C, some d, rfl, J, fun b o q => ?_, ge, hoe, ⟨hc, hd⟩, hdat, h1, ?_, rfl, I1.bare, raises_own T.exC T.tyC, q1 d (I1.hok.fresh M.dbig)⟩
    · by_cases hb : b = e
      · have q' : G'.get? b = some o := q
        rw [hb, ge] at q'; cases q'
      · exact (gk b hb).symm.trans q
    · rw [upd_ne (Ne.symm M.dne)]
      exact I1.hok.fresh M.new
/-- raise Low(e) -/
def tRaiseLowS (C : Addr) (W : WX) (ta : TA) : TS := fun _ σ H => tMkLowS C ta σ H fun cls d H' => W cls d σ H'
theorem ps_raiseLowS {a : Expr} {ta : TA} {W : WX} {p pos pos2 : Pos} {k : Nat} (hc : X.calm = true) (T : PySem.LowS.LowTxt X.K X.mg C fI) (hr : Room k X.A) (tk : Takes X W) (ha : PA X [a] ta) (hg : Gl X "BadStory" := by rfl)
    (he : starEach (a :: []) X.env = (false, eval a X.env) :: starEach [] X.env := by rfl) (hpl : (backTo pos (starEach [] X.env)).any (·.1) = false := by rfl) :
    PS X (.Raise (some (.Call (.Name "BadStory" p) [a] [] pos)) none pos2) (tRaiseLowS C W ta) := ps_raise hc tk (pmk_lowS T hr ha hg he hpl)
/-- low.by, low the exception that the suite holds (at a; its class cls, its dict d) -/
def tByLowS (C : Addr) (a : Addr) (cls : Value) (d : Option Addr) (te : TE) : TE := fun σ H Q => te σ H fun x H1 => x = .ref a ∧ cls = .ref C ∧ ∃ (dd : Addr) (v : V), d = some dd ∧ H1 dd = some (.xd [(("number" : Str), v)]) ∧ Q v H1
theorem pe_byLowS {a : Addr} {oe : Obj} {cls : Value} {d : Option Addr} {pn : List (Addr × Obj)} {e : Expr} {te : TE} {pos : Pos} (T : PySem.LowS.LowTxt X.K X.mg C fI) (hz : Zc cls d oe) (hf : ∃ vs, oe.data = .fields vs) (he : PE (X.suite a ((a, oe) :: pn)) e te)
    (hb : attributeBase e "number" X.env (eval e X.env) = eval e X.env := by rfl) :
    PE (X.suite a ((a, oe) :: pn)) (.Attribute e "number" pos) (tByLowS C a cls d te) := by
  refine ⟨fun pins s σ H Q I h => ?_⟩
  refine attr_of hb (thn (he.run pins s σ H _ I h) fun u s1 hh => ?_)
  obtain ⟨x, H1, I1, rx, ex, ec, dd, v, ed, ea, q⟩ := hh
  subst ex
  obtain rfl : u = Value.ref a := rx
  subst ec
  subst ed
  obtain ⟨ha, _⟩ := I1.pin (a, oe) (List.mem_append_left _ List.mem_cons_self)
  obtain ⟨vs, hd⟩ := hf
  have hx : ObjOk X.prog X.w H1 s1.heap dd (.xd [(("number" : Str), v)]) := I1.hok dd _ ea
  obtain ⟨mA, hns, hr⟩ := hx
  obtain ⟨od, ho, hl⟩ := lookIn_ns hns
  have l : List.lookup ("number" : Str) [(("number" : Str), v)] = some v := by simp [List.lookup]
  obtain ⟨u, hu, ru⟩ := RelO.some_of (v := v) (o := mA "number") (by rw [← l]; exact hr "number")
  have J : PySem.W.InstAt s1.heap a oe C (some od) := ⟨ha, hz.1, by unfold PySem.W.notCls; rw [hd] <;> rfl, by rw [hz.2]; exact ho⟩
  exact HandSPX.exc_get I1.kIn J T.ga T.gg T.exC (PySem.W.findObj_own T.hdC T.noN rfl (by rw [hl, hu])) (handed_of ru) ⟨v, H1, I1.tok _, ru, q⟩
end
end L2

/-! text PV4 -/
set_option Elab.async false
set_option linter.all false
set_option maxRecDepth 100000
set_option maxHeartbeats 1000000
namespace K6
open PySem PySem.Spec PyProof.Rows L2
theorem deed_text : nameL.all (fun x => decide (wrM (.tuple [.str "deed", .str x, .int 0]) = Str.empty ++ "deed " ++ x) && numL.all (fun i => decide (i = 0) || decide (wrM (.tuple [.str "deed", .str x, .int i]) = Txt.join " " [("deed" : Str), x, Str.ofString (toString i)]))) = true := by decide +kernel
section
variable {P : Program} {w : World} {K : PySem.W.Frag} {mg : Str → Option Value} {base : Heap} {CB fB : Addr}
theorem scTextOf : FnScope ["move", "part"] ["move"] (defScope sTextOf) := ⟨rfl, rfl, rfl, by decide +kernel, rfl, by decide +kernel, by decide +kernel⟩
theorem ok_textof {f : Addr} {fd : FuncData} (F : Fun K "text_of_move" "text_of_move" sTextOf f fd) (hT : mg "str" = none) : FnOk P w K mg base CX0 1 f fd ["move"] (spWr K) := by
  refine F.ok scTextOf (fun vs H Q E h => ?_) (fun cdv A outer s0 H vs Q E hr h => ?_)
  · obtain ⟨S, v, d, rfl, _⟩ := h
    rfl
  · obtain ⟨S, v, d, rfl, hd, hz, q⟩ := h
    have hsl := sizeLine_eq
    obtain ⟨tr, hps, rest⟩ : ∃ tr, PSs (cxOf CX0 P w K mg base ["move", "part"] "text_of_move" (defScope sTextOf) f cdv A outer s0 H E).nox ((defBody sTextOf).drop 1) tr ∧ ∀ (t : Addr) (xs : List V) (H0 : Hp), SqT K H0 t xs → xs.length ≤ 10 → (∀ y ∈ xs, ((∃ i : Int, y = .int i ∧ i.natAbs.log2 < 1920) ∨ ∃ x : Str, y = .str x) ∧ (strV y).length ≤ 10) → (∀ H', Same H0 H' → Q (.str (Txt.join " " (xs.map strV))) H') →
        tr { nx := fun _ H' => Q .non H', rt := Q } [some (.ref t), none] H0 := by
      refine ⟨_, pss_one (ps_ret (pe_join pe_str (pe_lc (own := [("part", 1)]) (g := gName 1) (tt := tYes) rfl scTextOf.nd (pi_tup (pv 0)) (blkOk_by (own := [("part", 1)]) (N := ["move", "part"]) (sc := defScope sTextOf) (by decide +kernel)) (fun _ _ _ _ _ => pg_name (i := 1) scTextOf.nd rfl (Or.inl rfl)) (fun _ _ _ _ _ => pts_nil)
        (fun _ _ _ _ _ => pe_callTy call_str2 (by rfl) hT (by decide +kernel) (pa_cons (pv 1) pa_nil))))), ?_⟩
      intro t xs H0 ht hl hx q
      refine ⟨⟨_, rfl⟩, _, rfl, t, rfl, ⟨xs, ht⟩, fun D hD => ?_⟩
      refine lc_tup (K := K) (a := t) (xs := xs) (fun i H' => Same H0 H' ∧ H' D = some (.lst ((xs.take i).map fun y => V.str (strV y)))) ⟨Same.new hD, upd_same⟩ (fun i H' _ h => sqt_same h.1 ht) ?_ ?_
      · rintro i y H' hy ⟨s1, h1⟩
        have hm := hx y (List.mem_of_getElem? hy)
        refine ⟨rfl, ?_⟩
        refine ⟨_, rfl, y, rfl, hm.1, _, h1, (by rw [List.length_map, List.length_take]; omega), fun b o e => ?_, ?_⟩
        · rw [upd_ne (ne_of_none e hD)]
          exact s1 b o e
        · rw [upd_same, List.take_add_one, List.map_append, hy]
          rfl
      rintro H' ⟨s1, h1⟩
      rw [List.take_length] at h1
      refine ⟨" ", D, xs.map strV, rfl, rfl, .inl (SqL.of (by rw [h1, List.map_map]; rfl)), ?_, q H' s1⟩
      have key : ∀ l : List V, (∀ y ∈ l, (strV y).length ≤ 10) → ((l.map strV).map (fun x => x.length)).sum ≤ 10 * l.length := by
        intro l
        induction l with
        | nil => intro _; exact Nat.le_refl _
        | cons y l ih =>
          intro h
          have z1 := ih fun x hx => h x (List.mem_cons_of_mem _ hx)
          have z2 := h y List.mem_cons_self
          rw [List.map_cons, List.map_cons, List.sum_cons, List.length_cons]
          omega
      have z := key xs fun y hy => (hx y hy).2
      rw [List.length_map, show (" " : Str).length = 1 from by decide +kernel]
      omega
    refine ⟨_, pss_cons (ps_if (PW.pt (pw_and (pt_cmpR op_eq (pe_ix ix_tup (pv 0) pe_int (fun _ _ => rfl)) pe_str (nomark _)) (pw_and1 (pt_cmpR op_eq (pe_ix ix_tup (pv 0) pe_int (fun _ _ => rfl)) pe_int (nomark _)))))
        (pss_one (ps_ret (pe_joined (.cons pe_str (.cons (pe_fmt (pe_ix ix_tup (pv 0) pe_int (fun _ _ => rfl))) .nil))))) pss_nil) hps, ?_⟩
    cases hd with
    | deed x i hx hi =>
      obtain ⟨n1, n2, n3⟩ := num_small hi
      have hx8 := name_small hx
      have hw := List.all_eq_true.mp deed_text x hx
      simp only [Bool.and_eq_true, decide_eq_true_eq] at hw
      cases hz with
      | tup hs ha =>
        rename_i t xs
        cases ha with
        | cons r1 ha =>
          cases ha with
          | cons r2 ha =>
            cases ha with
            | cons r3 ha =>
              cases ha
              cases r1
              cases r2
              cases r3
              refine ⟨_, rfl, t, _, _, _, rfl, rfl, hs, atI_nat (j := 0) rfl, rfl, _, rfl, ?_⟩
              rw [decide_eq_true rfl]
              refine iteT ?_
              refine ⟨_, rfl, t, _, _, _, rfl, rfl, hs, atI_nat (j := 2) rfl, rfl, _, rfl, ?_⟩
              refine ite2 (fun c => ?_) (fun c => ?_)
              · have hi0 := V.int.inj (of_decide_eq_true c)
                subst hi0
                refine ⟨_, rfl, ?_, _, rfl, t, _, _, _, rfl, rfl, hs, atI_nat (j := 1) rfl, .inl ⟨x, rfl, by omega, x, rfl, ?_, ?_⟩⟩
                · show (Str.empty ++ ("deed " : Str)).length ≤ sizeLine
                  rw [show (Str.empty ++ ("deed " : Str)).length = 5 from by decide +kernel]
                  omega
                · rw [strLen_append, show (Str.empty ++ ("deed " : Str)).length = 5 from by decide +kernel]
                  omega
                · have z := q H (Same.refl H)
                  rw [hw.1] at z
                  exact z
              · have hi0 : ¬ i = 0 := fun z => c (decide_eq_true (by rw [z]))
                refine rest t _ H hs (by show 3 ≤ 10; decide) (fun y hy => ?_) (fun H' s1 => ?_)
                · rcases List.mem_cons.mp hy with e | hy
                  · rw [e]
                    exact ⟨.inr ⟨_, rfl⟩, by show ("deed" : Str).length ≤ 10; decide +kernel⟩
                  · rcases List.mem_cons.mp hy with e | hy
                    · rw [e]
                      exact ⟨.inr ⟨_, rfl⟩, Nat.le_trans hx8 (by decide)⟩
                    · rw [List.mem_singleton.mp hy]
                      exact ⟨.inl ⟨_, rfl, n1⟩, Nat.le_trans n2 (by decide)⟩
                · have z := q H' s1
                  have z2 := List.all_eq_true.mp hw.2 i hi
                  simp only [Bool.or_eq_true, decide_eq_true_eq] at z2
                  rw [z2.resolve_left hi0] at z
                  exact z
    | over =>
      cases hz with
      | tup hs ha =>
        rename_i t xs
        cases ha with
        | cons r1 ha =>
          cases ha
          cases r1
          refine ⟨_, rfl, t, _, _, _, rfl, rfl, hs, atI_nat (j := 0) rfl, rfl, _, rfl, ?_⟩
          refine ite2 (fun c => ?_) (fun c => ?_)
          · have z := V.str.inj (of_decide_eq_true c)
            exact absurd z (by decide +kernel)
          · refine rest t _ H hs (by show 1 ≤ 10; decide) (fun y hy => ?_) q
            rw [List.mem_singleton.mp hy]
            exact ⟨.inr ⟨_, rfl⟩, by show ("over" : Str).length ≤ 10; decide +kernel⟩
    | word x i hx hi =>
      obtain ⟨n1, n2, n3⟩ := num_small hi
      obtain ⟨hx8, hxd⟩ := four_small hx
      cases hz with
      | tup hs ha =>
        rename_i t xs
        cases ha with
        | cons r1 ha =>
          cases ha with
          | cons r2 ha =>
            cases ha
            cases r1
            cases r2
            refine ⟨_, rfl, t, _, _, _, rfl, rfl, hs, atI_nat (j := 0) rfl, rfl, _, rfl, ?_⟩
            refine ite2 (fun c => ?_) (fun c => ?_)
            · exact absurd (V.str.inj (of_decide_eq_true c)) hxd
            · refine rest t _ H hs (by show 2 ≤ 10; decide) (fun y hy => ?_) q
              rcases List.mem_cons.mp hy with e | hy
              · rw [e]
                exact ⟨.inr ⟨_, rfl⟩, Nat.le_trans hx8 (by decide)⟩
              · rw [List.mem_singleton.mp hy]
                exact ⟨.inl ⟨_, rfl, n1⟩, Nat.le_trans n2 (by decide)⟩
abbrev NSh : List Str := ["story", "number", "move"]
theorem scShow : FnScope NSh ["story"] (defScope sShow) := ⟨rfl, rfl, rfl, by decide +kernel, rfl, by decide +kernel, by decide +kernel⟩
theorem walk_enumST {K : PySem.W.Frag} {a : Addr} {xs : List V} {k : Nat} : Walk (IteT K k a) xs.length (fun H => SqT K H a xs) (YPair (fun i => some (.int (i + k : Nat))) (fun i => xs[i]?)) := by
  refine ⟨fun i _ hi q => ⟨xs, xs[i], q, by simp [hi]⟩, fun _ q => ⟨xs, q, rfl⟩, fun i H v H' _ q y => ?_⟩
  obtain ⟨T, x, h1, h2, h3, h4⟩ := y
  exact ⟨T, .int (i + k : Nat), x, h1, h2, h3, rfl, h4 xs q⟩
theorem wr_len {d : PyData} (h : MvOk d) : (wrM d).length ≤ 40 := by
  have k1 : nameL.all (fun x => numL.all (fun i => decide ((wrM (.tuple [.str "deed", .str x, .int i])).length ≤ 40))) = true := by decide +kernel
  have k2 : (["sends", "does", "comes", "gone"] : List Str).all (fun x => numL.all (fun i => decide ((wrM (.tuple [.str x, .int i])).length ≤ 40))) = true := by decide +kernel
  cases h with
  | deed x i hx hi => exact of_decide_eq_true (List.all_eq_true.mp (List.all_eq_true.mp k1 x hx) i hi)
  | over => decide +kernel
  | word x i hx hi => exact of_decide_eq_true (List.all_eq_true.mp (List.all_eq_true.mp k2 x hx) i hi)
theorem ok_show {f : Addr} {fd : FuncData} (F : Fun K "show_story" "show_story" sShow f fd) (T : PVn mg) (low : PySem.LowS.LowTxt K mg CB fB) (R1 : FnAt P w K mg base CX0 4 "is_move" ["value"] (spIsMove K)) (R2 : FnAt P w K mg base CX0 1 "text_of_move" ["move"] (spWr K)) : FnOk P w K mg base (L2.CX P w) 6 f fd ["story"] (spShow K CB) := by
  refine F.okX scShow (fun vs H Q E h => ?_) (fun cdv A outer s H vs Q E hr h => ?_)
  · obtain ⟨v, r, rfl, _⟩ := h
    rfl
  · obtain ⟨v, r, rfl, hv, k⟩ := h
    obtain ⟨f1, d1, m1, k1, b1, G1⟩ := R1
    obtain ⟨f2, d2, m2, k2, b2, G2⟩ := R2
    have hr4 : Room 4 (A.deeper (envOfC "show_story" (defScope sShow) s.heap.objs.size f cdv)) := hr.mono (by decide)
    have hr1 : Room 1 (A.deeper (envOfC "show_story" (defScope sShow) s.heap.objs.size f cdv)) := hr.mono (by decide)
    have hsl := sizeLine_eq
    refine ⟨_, pss_cons (ps_if (pt_not (pt_val (pe_callB call_isi (by rfl) T.isi (by decide +kernel) (pa_cons (pv 0) (pa_cons (pe_bltn (v := .ty "tuple") (by rfl) T.tup (by decide +kernel) rfl) pa_nil))))) (pss_one (ps_raiseLowS rfl low hr (takes_of rfl rfl rfl rfl) (pa_cons pe_int pa_nil))) pss_nil)
      (pss_cons (ps_for (passes_of rfl) rfl (pi_enumT (k := 1) (by decide) rfl T.enum (pa_cons (pv 0) pa_nil)) (pg_tup (by rfl) (pgs_cons (pg_name (i := 1) scShow.nd rfl (Or.inl rfl)) (pgs_cons (pg_name (i := 2) scShow.nd rfl (Or.inl rfl)) pgs_nil)))
        (pss_one (ps_if (pt_not (pt_val (by exact pe_call G1 hr4 rfl m1 k1 b1 .nil pass0 (pa_cons (pv 2) pa_nil)))) (pss_one (ps_raiseLowS rfl low hr (takes_of rfl rfl rfl rfl) (pa_cons (pv 1) pa_nil))) pss_nil)))
      (pss_one (ps_ret (pe_join pe_str (pe_lc (own := [("move", 2)]) (g := gName 2) (tt := tYes) rfl scShow.nd (pi_tup (pv 0)) (blkOk_by (own := [("move", 2)]) (N := NSh) (sc := defScope sShow) (by decide +kernel)) (fun _ _ _ _ _ => pg_name (i := 2) scShow.nd rfl (Or.inl rfl)) (fun _ _ _ _ _ => pts_nil)
        (fun _ _ _ _ _ => by exact pe_call G2 hr1 rfl m2 k2 b2 .nil pass0 (pa_cons (pv 2) pa_nil))))))), ?_⟩
    have bad : ∀ (n : Int), r = .error n → ∀ H' d, Same H H' → H' d = some (.xd [(("number" : Str), V.int n)]) → E (.ref CB) (some d) H' := fun n e => by
      rw [e] at k
      exact k
    have good : ∀ (x : Str), r = .ok x → ∀ H', Same H H' → Q (.str x) H' := fun x e => by
      rw [e] at k
      exact k
    clear k
    cases hv with
    | @road S t xs ds hsq hdz hall hlen =>
      refine ⟨_, rfl, _, _, .type "tuple", .type "tuple", true, rfl, .ty "tuple", ty_tup hsq, kit_ty (by decide +kernel), _, rfl, ?_⟩
      refine iteF ?_
      have hxl := dzs_len hdz
      refine ⟨_, rfl, t, xs, rfl, hsq, ?_⟩
      refine for_it (walk_enumST (K := K) (a := t) (xs := xs) (k := 1)) (fun i σ H' => (∃ x1 x2, σ = [some (.ref t), x1, x2]) ∧ Same H H' ∧ ∀ d ∈ ds.take i, mvB d = true) ?_ ?_ ?_ ?_
      · exact ⟨⟨none, none, rfl⟩, Same.refl H, fun d hd => by simp at hd⟩
      · rintro i σ H' _ ⟨_, s1, _⟩
        exact sqt_same s1 hsq
      · rintro i v σ H3 H4 hi ⟨⟨x1, x2, rfl⟩, s1, nn⟩ ⟨T', a, b, rfl, hT, rfl, ha, hb⟩
        cases ha
        have hb : xs[i]? = some b := hb
        have hdi : i < ds.length := by omega
        have hde : ds[i]? = some ds[i] := List.getElem?_eq_getElem hdi
        obtain ⟨b', hb', zb⟩ := dzs_get hdz hde
        rw [hb] at hb'
        cases hb'
        have s4 := Same.new (o := .tup [V.int ((i + 1 : Nat) : Int), b]) hT
        refine ⟨T', _, rfl, SqT.of upd_same, rfl, _, _, rfl, _, _, rfl, rfl, ?_⟩
        generalize upd H3 T' (.tup [V.int ((i + 1 : Nat) : Int), b]) = H4 at s4
        have mp := mvP_ok (hall _ (List.getElem_mem hdi))
        refine ⟨_, rfl, S, b, ds[i], rfl, dz_same (s1.trans s4) zb, mp.1, fun H5 s5 => ?_⟩
        have s15 := s1.trans (s4.trans s5)
        rw [mp.2]
        refine ⟨_, rfl, ?_⟩
        have tk : ds.take (i + 1) = ds.take i ++ [ds[i]] := by
          rw [List.take_add_one, hde]
          rfl
        cases c : mvB ds[i] with
        | false =>
          refine iteT ?_
          refine ⟨_, rfl, _, rfl, fun dd hd => ?_⟩
          refine bad ((i + 1 : Nat) : Int) ?_ _ _ (s15.trans (Same.new hd)) upd_same
          unfold showM
          rw [List.findIdx?_eq_some_iff_getElem.mpr ⟨hdi, (by rw [c]; rfl), fun j hj => by
            rw [nn _ (by rw [List.mem_take_iff_getElem]; exact ⟨j, by omega, rfl⟩)]
            exact Bool.false_ne_true⟩]
          all_goals rfl
        | true =>
          refine iteF ?_
          refine ⟨⟨_, _, rfl⟩, s15, fun d hd => ?_⟩
          rw [tk] at hd
          rcases List.mem_append.mp hd with z | z
          · exact nn d z
          · rw [List.mem_singleton.mp z]
            exact c
      · rintro σ H' ⟨⟨x1, x2, rfl⟩, s1, nn⟩
        rw [hxl, List.take_length] at nn
        have hmv : ∀ d ∈ ds, MvOk d := fun d hd => by
          rcases hall d hd with z | z
          · exact z
          · have e := mv_no z
            rw [nn d hd] at e
            cases e
        refine ⟨⟨_, rfl⟩, _, rfl, t, rfl, ⟨xs, sqt_same s1 hsq⟩, fun D hD => ?_⟩
        refine lc_tup (K := K) (a := t) (xs := xs) (fun i H2 => Same H' H2 ∧ H2 D = some (.lst ((ds.take i).map fun d => V.str (wrM d)))) ⟨Same.new hD, upd_same⟩ (fun i H2 _ h => sqt_same (s1.trans h.1) hsq) ?_ ?_
        · rintro i y H2 hy ⟨s2, h2⟩
          have hil := (List.getElem?_eq_some_iff.mp hy).1
          have hdi : i < ds.length := by omega
          have hde : ds[i]? = some ds[i] := List.getElem?_eq_getElem hdi
          obtain ⟨b', hb', zb⟩ := dzs_get hdz hde
          rw [hy] at hb'
          cases hb'
          refine ⟨rfl, ?_⟩
          refine ⟨_, rfl, S, y, ds[i], rfl, hmv _ (List.getElem_mem hdi), dz_same (s1.trans s2) zb, fun H3 s3 => ?_⟩
          refine ⟨_, s3 _ _ h2, (by rw [List.length_map, List.length_take]; omega), fun b o e => ?_, ?_⟩
          · rw [upd_ne (ne_of_none e hD)]
            exact s3 _ _ (s2 b o e)
          · rw [upd_same, List.take_add_one, List.map_append, hde]
            rfl
        · rintro H2 ⟨s2, h2⟩
          rw [hxl, List.take_length] at h2
          refine ⟨"\n", D, ds.map wrM, rfl, rfl, .inl (SqL.of (by rw [h2, List.map_map]; rfl)), ?_, good _ ?_ H2 (s1.trans s2)⟩
          · have key : ∀ l : List PyData, (∀ d ∈ l, MvOk d) → ((l.map wrM).map (fun x => x.length)).sum ≤ 40 * l.length := by
              intro l
              induction l with
              | nil => intro _; exact Nat.le_refl _
              | cons y l ih =>
                intro h
                have z1 := ih fun x hx => h x (List.mem_cons_of_mem _ hx)
                have z2 := wr_len (h y List.mem_cons_self)
                rw [List.map_cons, List.map_cons, List.sum_cons, List.length_cons]
                omega
            have z := key ds hmv
            rw [List.length_map, show ("\n" : Str).length = 1 from by decide +kernel]
            omega
          · unfold showM
            rw [List.findIdx?_eq_none_iff.mpr (fun d hd => by rw [nn d hd]; rfl)]
    | non =>
      refine ⟨_, rfl, _, _, .type "NoneType", .type "tuple", false, rfl, .ty "tuple", .base .non, kit_ty (by decide +kernel), _, rfl, ?_⟩
      exact iteT ⟨_, rfl, fun d hd => bad 0 rfl _ _ (Same.new hd) upd_same⟩
    | int i =>
      refine ⟨_, rfl, _, _, .type "int", .type "tuple", false, rfl, .ty "tuple", .base (.int _), kit_ty (by decide +kernel), _, rfl, ?_⟩
      exact iteT ⟨_, rfl, fun d hd => bad 0 rfl _ _ (Same.new hd) upd_same⟩
    | bl b =>
      refine ⟨_, rfl, _, _, .type "bool", .type "tuple", false, rfl, .ty "tuple", .base (.bl _), kit_ty (by decide +kernel), _, rfl, ?_⟩
      exact iteT ⟨_, rfl, fun d hd => bad 0 rfl _ _ (Same.new hd) upd_same⟩
    | str x =>
      refine ⟨_, rfl, _, _, .type "str", .type "tuple", false, rfl, .ty "tuple", .base (.str _), kit_ty (by decide +kernel), _, rfl, ?_⟩
      exact iteT ⟨_, rfl, fun d hd => bad 0 rfl _ _ (Same.new hd) upd_same⟩
    | lst e =>
      refine ⟨_, rfl, _, _, .type "list", .type "tuple", false, rfl, .ty "tuple", .base (.lst e), kit_ty (by decide +kernel), _, rfl, ?_⟩
      exact iteT ⟨_, rfl, fun d hd => bad 0 rfl _ _ (Same.new hd) upd_same⟩
    | dct e =>
      refine ⟨_, rfl, _, _, .type "dict", .type "tuple", false, rfl, .ty "tuple", .base (.dK e), kit_ty (by decide +kernel), _, rfl, ?_⟩
      exact iteT ⟨_, rfl, fun d hd => bad 0 rfl _ _ (Same.new hd) upd_same⟩
end
end K6

/-! text PJ -/
set_option Elab.async false
set_option linter.all false
set_option maxRecDepth 100000
set_option maxHeartbeats 1000000
namespace K6
open PySem PySem.Spec PyProof.Rows L2 LamX
def shortB (x : Str) : Bool := decide (x.length ≤ 40) && x.cps.toList.all fun c => decide (c < 200)
theorem wr_short {d : PyData} (h : MvOk d) : (wrM d).length ≤ 40 ∧ ∀ c ∈ (wrM d).cps.toList, c < 200 := by
  have k1 : nameL.all (fun x => numL.all fun i => shortB (wrM (.tuple [.str "deed", .str x, .int i]))) = true := by decide +kernel
  have k2 : (["sends", "does", "comes", "gone"] : List Str).all (fun x => numL.all fun i => shortB (wrM (.tuple [.str x, .int i]))) = true := by decide +kernel
  have k3 : shortB (wrM (.tuple [.str "over"])) = true := by decide +kernel
  have fin : ∀ x, shortB x = true → x.length ≤ 40 ∧ ∀ c ∈ x.cps.toList, c < 200 := fun x z => by
    unfold shortB at z
    simp only [Bool.and_eq_true, decide_eq_true_eq, List.all_eq_true] at z
    exact z
  cases h with
  | deed x i hx hi => exact fin _ (List.all_eq_true.mp (List.all_eq_true.mp k1 x hx) i hi)
  | over => exact fin _ k3
  | word x i hx hi => exact fin _ (List.all_eq_true.mp (List.all_eq_true.mp k2 x hx) i hi)
theorem join_small : ∀ (l : List Str), (∀ x ∈ l, x.length ≤ 40 ∧ ∀ c ∈ x.cps.toList, c < 200) → (Str.join "\n" l).length ≤ 41 * l.length ∧ ∀ c ∈ (Str.join "\n" l).cps.toList, c < 200
  | [], _ => ⟨by show 0 ≤ _; omega, fun c hc => by cases hc⟩
  | [x], h => by
    obtain ⟨a, b⟩ := h x List.mem_cons_self
    exact ⟨by show x.length ≤ 41 * 1; omega, b⟩
  | x :: y :: r, h => by
    obtain ⟨a, b⟩ := h x List.mem_cons_self
    obtain ⟨a2, b2⟩ := join_small (y :: r) fun z hz => h z (List.mem_cons_of_mem _ hz)
    have e : Str.join "\n" (x :: y :: r) = x ++ "\n" ++ Str.join "\n" (y :: r) := rfl
    rw [e]
    refine ⟨?_, fun c hc => ?_⟩
    · rw [strLen_append, strLen_append, show (("\n" : String) : Str).length = 1 from by decide +kernel]
      simp only [List.length_cons] at a2 ⊢
      omega
    · have hc2 : c ∈ x.cps.toList ++ (("\n" : String) : Str).cps.toList ++ (Str.join "\n" (y :: r)).cps.toList := by
        have z : (x ++ ("\n" : Str) ++ Str.join "\n" (y :: r)).cps.toList = x.cps.toList ++ (("\n" : String) : Str).cps.toList ++ (Str.join "\n" (y :: r)).cps.toList := by
          show ((x.cps ++ (("\n" : String) : Str).cps) ++ (Str.join "\n" (y :: r)).cps).toList = _
          rw [Array.toList_append, Array.toList_append]
        rw [← z]
        exact hc
      rcases List.mem_append.mp hc2 with hc2 | hc2
      · rcases List.mem_append.mp hc2 with hc2 | hc2
        · exact b c hc2
        · have z : ∀ c ∈ (("\n" : String) : Str).cps.toList, c < 200 := by decide +kernel
          exact z c hc2
      · exact b2 c hc2
/-- the text of a road -/
theorem text_small {ds : List PyData} (h : ∀ d ∈ ds, MvOk d) (hl : ds.length ≤ 10) : (Txt.join "\n" (ds.map wrM)).length ≤ 410 ∧ (reprText (Txt.join "\n" (ds.map wrM))).length ≤ 5000 := by
  rw [TL.join_eq]
  obtain ⟨a, b⟩ := join_small (ds.map wrM) fun x hx => by
    obtain ⟨d, hd, rfl⟩ := List.mem_map.mp hx
    exact wr_short (h d hd)
  rw [List.length_map] at a
  have z := StrLaws.reprText_len (Str.join "\n" (ds.map wrM)) fun c hc => Nat.lt_trans (b c hc) (by decide)
  exact ⟨by omega, by omega⟩
theorem tt_len (ts : List Str) : (tupleText ts).length ≤ piled ts + 3 := by
  have key : (Str.join ", " ts).length ≤ piled ts := by
    cases ts with
    | nil => exact Nat.zero_le _
    | cons a r =>
      have z := join_length_add (a :: r) (by intro z; cases z)
      omega
  unfold tupleText
  rw [strLen_append, strLen_append]
  have h1 : (("(" : Str)).length = 1 := by decide +kernel
  have h2 : ((if ts.length == 1 then ",)" else ")" : String) : Str).length ≤ 2 := by
    split <;> decide +kernel
  have h3 := key
  omega
theorem lt_len (ts : List Str) : (listText ts).length ≤ piled ts + 3 := by
  cases ts with
  | nil =>
    show ((textFrom 0 "[" []) ++ "]" : Str).length ≤ _
    rw [strLen_append]
    show ("[" : Str).length + ("]" : Str).length ≤ _
    have h1 : ("[" : Str).length = 1 := by decide +kernel
    have h2 : ("]" : Str).length = 1 := by decide +kernel
    omega
  | cons a r =>
    have e : listText (a :: r) = textFrom 1 (("[" : Str) ++ (if 0 > 0 then ", " else "" : String) ++ a) r ++ "]" := rfl
    rw [e, strLen_append, textFrom_length_pos r 1 _ (by decide), strLen_append, strLen_append, piled_cons]
    have h1 : ("[" : Str).length = 1 := by decide +kernel
    have h2 : ("]" : Str).length = 1 := by decide +kernel
    have h3 : ((if 0 > 0 then ", " else "" : String) : Str).length = 0 := by decide +kernel
    omega
structure Showy (d : PyData) : Prop where
  sh : d.showable = true
  dp : d.depth ≤ 60
  ln : d.shown.length ≤ 100000
theorem Showy.sz {d : PyData} (h : Showy d) : d.shown.length ≤ sizeLine := Nat.le_trans h.ln (by rw [sizeLine_eq]; decide)
/-- what is told of a road -/
theorem showy_heard {ds : List PyData} {k : Nat} (h : RoadOk ds k) : Showy (heardD (showM ds)) ∧ (heardD (showM ds)).shown.length ≤ 6000 ∧ (heardD (showM ds)).depth ≤ 2 := by
  rw [h.show]
  by_cases c : k > 0
  · rw [if_pos c]
    have k10 : k ≤ 10 := by
      cases h with
      | ok _ _ => omega
      | bad _ _ _ l => omega
    have key : ∀ n ≤ 10, (heardD (.error ((n : Nat) : Int))).showable = true ∧ (heardD (.error ((n : Nat) : Int))).depth ≤ 2 ∧ (heardD (.error ((n : Nat) : Int))).shown.length ≤ 100 := by decide +kernel
    obtain ⟨z1, z2, z3⟩ := key k k10
    exact ⟨⟨z1, by omega, by omega⟩, by omega, z2⟩
  · rw [if_neg c]
    have hall : (∀ d ∈ ds, MvOk d) ∧ ds.length ≤ 10 := by
      cases h with
      | ok a l => exact ⟨a, by omega⟩
      | bad _ _ _ _ => exact absurd (Nat.succ_pos _) c
    obtain ⟨t1, t2⟩ := text_small hall.1 hall.2
    have z2 := tt_len [reprText "told", reprText (Txt.join "\n" (ds.map wrM))]
    rw [piled_cons, piled_cons, piled_nil] at z2
    have z3 : (reprText "told").length ≤ 10 := by decide +kernel
    have hd : (heardD (.ok (Txt.join "\n" (ds.map wrM)))).depth ≤ 2 := by
      simp only [heardD, PyData.depth, PyData.depthAll]
      omega
    have hz : (heardD (.ok (Txt.join "\n" (ds.map wrM)))).shown.length ≤ 6000 := by
      simp only [heardD, PyData.shown, PyData.shownAll]
      omega
    refine ⟨⟨?_, by omega, by omega⟩, hz, hd⟩
    simp only [heardD, PyData.showable, PyData.showableAll]
    rfl
theorem showy_two {d : PyData} (h : Showy d) (hl : d.shown.length ≤ 6000) (hd : d.depth ≤ 2) : Showy (.list [d, d]) := by
  refine ⟨?_, ?_, ?_⟩
  · simp only [PyData.showable, PyData.showableAll]
    rw [h.sh]
    rfl
  · simp only [PyData.depth, PyData.depthAll]
    omega
  · simp only [PyData.shown, PyData.shownAll]
    have z := lt_len [d.shown, d.shown]
    rw [piled_cons, piled_cons, piled_nil] at z
    omega
def movOkB (d : PyData) : Bool := d.showable && (decide (d.depth ≤ 3) && decide (d.shown.length ≤ 100))
theorem part_ok {d : PyData} (h : MvOk d ∨ d ∈ noneL) : d.showable = true ∧ d.depth ≤ 3 ∧ d.shown.length ≤ 100 := by
  have fin : ∀ d, movOkB d = true → d.showable = true ∧ d.depth ≤ 3 ∧ d.shown.length ≤ 100 := fun d z => by
    unfold movOkB at z
    simp only [Bool.and_eq_true, decide_eq_true_eq] at z
    exact z
  have k1 : nameL.all (fun x => numL.all fun i => movOkB (.tuple [.str "deed", .str x, .int i])) = true := by decide +kernel
  have k2 : (["sends", "does", "comes", "gone"] : List Str).all (fun x => numL.all fun i => movOkB (.tuple [.str x, .int i])) = true := by decide +kernel
  have k3 : movOkB (.tuple [.str "over"]) = true := by decide +kernel
  have k4 : noneL.all movOkB = true := by decide +kernel
  rcases h with h | h
  · cases h with
    | deed x i hx hi => exact fin _ (List.all_eq_true.mp (List.all_eq_true.mp k1 x hx) i hi)
    | over => exact fin _ k3
    | word x i hx hi => exact fin _ (List.all_eq_true.mp (List.all_eq_true.mp k2 x hx) i hi)
  · exact fin _ (List.all_eq_true.mp k4 d h)
theorem parts_ok : ∀ (ds : List PyData), (∀ d ∈ ds, MvOk d ∨ d ∈ noneL) → PyData.showableAll ds = true ∧ PyData.depthAll ds ≤ 3 ∧ piled (PyData.shownAll ds) ≤ 102 * ds.length
  | [], _ => ⟨by simp only [PyData.showableAll], by simp only [PyData.depthAll]; omega, by simp only [PyData.shownAll]; exact Nat.le_refl _⟩
  | d :: ds, h => by
    obtain ⟨a1, a2, a3⟩ := parts_ok ds fun x hx => h x (List.mem_cons_of_mem _ hx)
    obtain ⟨b1, b2, b3⟩ := part_ok (h d List.mem_cons_self)
    refine ⟨?_, ?_, ?_⟩
    · simp only [PyData.showableAll]
      rw [a1, b1]
      rfl
    · simp only [PyData.depthAll]
      omega
    · simp only [PyData.shownAll]
      rw [piled_cons, List.length_cons]
      omega
theorem showy_road {ds : List PyData} (h : ∀ d ∈ ds, MvOk d ∨ d ∈ noneL) (hl : ds.length ≤ 10) : Showy (.list ds) := by
  obtain ⟨a1, a2, a3⟩ := parts_ok ds h
  refine ⟨?_, ?_, ?_⟩
  · simp only [PyData.showable]
    exact a1
  · simp only [PyData.depth]
    omega
  · simp only [PyData.shown]
    have z := lt_len (PyData.shownAll ds)
    omega
theorem showy_roads {ds : List PyData} (h : ∀ d ∈ ds, MvOk d ∨ d ∈ noneL) (hl : ds.length ≤ 10) : Showy (.list [.tuple ds, .tuple ds]) := by
  obtain ⟨a1, a2, a3⟩ := parts_ok ds h
  refine ⟨?_, ?_, ?_⟩
  · simp only [PyData.showable, PyData.showableAll]
    rw [a1]
    rfl
  · simp only [PyData.depth, PyData.depthAll]
    omega
  · simp only [PyData.shown, PyData.shownAll]
    have z := tt_len (PyData.shownAll ds)
    have z2 := lt_len [tupleText (PyData.shownAll ds), tupleText (PyData.shownAll ds)]
    rw [piled_cons, piled_cons, piled_nil] at z2
    omega
theorem showy_zero : Showy (heardD (.error 0)) := by
  have key : (heardD (.error 0)).showable = true ∧ (heardD (.error 0)).depth ≤ 2 ∧ (heardD (.error 0)).shown.length ≤ 100 := by decide +kernel
  exact ⟨key.1, by omega, by omega⟩
end K6

/-! text PL -/
set_option Elab.async false
set_option linter.all false
set_option maxRecDepth 100000
set_option maxHeartbeats 2000000
namespace K6
open PySem PySem.Spec PyProof.Rows L2 LamX
abbrev sRight : Stmt := top 35
abbrev NR : List Str := ["_law_pot_here", "_law_road", "_law_bad", "_law_at", "_law_kept", "_law_due", "_law_heard_here", "_law_thing", "_law_value", "_law_turn", "_law_move_here"]
theorem pas {X : Cx} {E : XK} (tk : Takes X fun cls d _ H => E cls d H) : Passes (L2.CX X.prog X.w) X E := passes_call tk fun _ _ _ _ h => h
structure RgN (mg : Str → Option Value) : Prop where
  range : mg "range" = none
  len : mg "len" = none
  tuple : mg "tuple" = none
  repr : mg "repr" = none
abbrev LQ : Str := "_law_right.<locals>.<lambda>"
theorem scRight : FnScope NR ["_law_pot_here"] (defScope sRight) := ⟨rfl, rfl, rfl, by decide +kernel, rfl, by decide +kernel, by decide +kernel⟩
def FrN (a : Addr) (H H' : Hp) : Prop := ∀ b o, b ≠ a → H b = some o → (∀ ps, o ≠ .tbl ps) → H' b = some o
def spRight (pT : Addr) : Sp := fun vs H Q _ => ∃ (a : Addr) (p0 p1 p2 : Int), vs = [.ref a] ∧ Pot a p0 p1 p2 H ∧ p2 ≤ 550 ∧ SysH H ∧ Tabs [(pT, LQ)] H ∧ ∀ q0 q2 H', q2 ≤ p2 + 31 → FrN a H H' → Pot a q0 p1 q2 H' → SysH H' → Tabs [(pT, LQ)] H' → Q (.bl true) H'
theorem FrN.same {a : Addr} {H H1 H2 : Hp} (h : FrN a H H1) (k : Same H1 H2) : FrN a H H2 := fun b o n e z => k b o (h b o n e z)
theorem FrN.fr {a : Addr} {H H1 H2 : Hp} (h : FrN a H H1) (k : Fr a H1 H2) : FrN a H H2 := fun b o n e z => k b o n (h b o n e z)
theorem FrN.ext {a : Addr} {H H1 H2 : Hp} (h : FrN a H H1) (k : ExtN H1 H2) : FrN a H H2 := fun b o n e z => k b o (h b o n e z) z
theorem sys_fr {a : Addr} {q0 q1 q2 : Int} {H H' : Hp} (h : SysH H) (p : Pot a q0 q1 q2 H) (k : Fr a H H') : SysH H' := by
  obtain ⟨o, e⟩ := h
  exact ⟨o, k _ _ (fun z => by
    rw [z, p.1] at e
    cases e) e⟩
theorem sys_ext {H H' : Hp} (h : SysH H) (k : ExtN H H') : SysH H' := by
  obtain ⟨o, e⟩ := h
  exact ⟨o, k _ _ e (fun _ z => by cases z)⟩
theorem tabs_fr {a : Addr} {q0 q1 q2 : Int} {T : List (Addr × Str)} {H H' : Hp} (h : Tabs T H) (p : Pot a q0 q1 q2 H) (k : Fr a H H') : Tabs T H' := fun y hy => by
  obtain ⟨ps, h1, h2, h3⟩ := h y hy
  refine ⟨ps, k _ _ (fun z => ?_) h1, h2, fun pos cv hc => ?_⟩
  · rw [z, p.1] at h1
    cases h1
  · obtain ⟨c, e1, e2⟩ := h3 pos cv hc
    refine ⟨c, e1, k _ _ (fun z => ?_) e2⟩
    rw [z, p.1] at e2
    cases e2
theorem inS_ext {K : PySem.W.Frag} {H H' : Hp} {v : V} {r : Except Int Str} (k : ExtN H H') (h : InS K H v r) : InS K H' v r := by
  cases h with
  | road a b c d => exact .road (sqt_hold (S := fun _ => True) (Hold.tbl k) a) (dzs_hold (Hold.tbl k) _ _ b) c d
  | non => exact .non
  | int i => exact .int i
  | bl b => exact .bl b
  | str x => exact .str x
  | lst e => exact .lst (k _ _ e (fun _ z => by cases z))
  | dct e => exact .dct (k _ _ e (fun _ z => by cases z))
theorem pot_ext {a : Addr} {q0 q1 q2 : Int} {H H' : Hp} (p : Pot a q0 q1 q2 H) (k : ExtN H H') : Pot a q0 q1 q2 H' := ⟨k _ _ p.1 (fun _ z => by cases z), p.2⟩
theorem all_true {K : PySem.W.Frag} {S : Addr → Prop} {H : Hp} {v : V} {d : PyData} (h : Dz K S H v d) : Dz K (fun _ => True) H v d := dz_hold ⟨fun _ _ => trivial, fun _ _ _ e => e, fun _ _ _ _ e => e⟩ d v h
theorem alls_true {K : PySem.W.Frag} {S : Addr → Prop} {H : Hp} {vs : List V} {ds : List PyData} (h : DzAll K S H vs ds) : DzAll K (fun _ => True) H vs ds := dzs_hold ⟨fun _ _ => trivial, fun _ _ _ e => e, fun _ _ _ _ e => e⟩ ds vs h
theorem heard_ref {K : PySem.W.Frag} {S : Addr → Prop} {H : Hp} {v : V} {r : Except Int Str} (h : Dz K S H v (heardD r)) : ∃ p, v = .ref p := by
  cases r with
  | ok x => cases h with | tup _ _ => exact ⟨_, rfl⟩
  | error l => cases h with | tup _ _ => exact ⟨_, rfl⟩
theorem cut_to (xs : List V) (k : Nat) : cutV xs none (some (k : Int)) = xs.take k := by
  unfold cutV
  rw [HT.sIx_none, HT.sIx_nat, List.drop_zero, Nat.sub_zero, List.take_eq_take_min]
  simp
theorem cut_fr (xs : List V) (k : Nat) : cutV xs (some (k : Int)) none = xs.drop k := by
  unfold cutV
  rw [HT.sIx_none, HT.sIx_nat]
  rcases Nat.le_total k xs.length with h | h
  · rw [Nat.min_eq_left h]
    exact List.take_of_length_le (by rw [List.length_drop]; omega)
  · rw [Nat.min_eq_right h, List.drop_of_length_le h, List.drop_of_length_le (Nat.le_refl _), List.take_nil]
structure Rd (K : PySem.W.Frag) (pT a D : Addr) (p1 r0 r2 : Int) (H H3 : Hp) (xs : List V) (ds : List PyData) : Prop where
  hD : H3 D = some (.lst xs)
  da : D ≠ a
  z : DzAll K (fun b => b ≠ a) H3 xs ds
  f : FrN a H H3
  p : Pot a r0 p1 r2 H3
  s : SysH H3
  t : Tabs [(pT, LQ)] H3
section
variable {K : PySem.W.Frag} {pT a D : Addr} {p1 r0 r2 : Int} {H H3 H4 : Hp} {xs : List V} {ds : List PyData}
theorem Rd.same (h : Rd K pT a D p1 r0 r2 H H3 xs ds) (k : Same H3 H4) : Rd K pT a D p1 r0 r2 H H4 xs ds := ⟨k _ _ h.hD, h.da, dzs_same k h.z, h.f.same k, h.p.same k, h.s.same k, h.t.ext k⟩
theorem Rd.fr {u0 u2 : Int} (h : Rd K pT a D p1 r0 r2 H H3 xs ds) (k : Fr a H3 H4) (p : Pot a u0 p1 u2 H4) : Rd K pT a D p1 u0 u2 H H4 xs ds := ⟨k _ _ h.da h.hD, h.da, dzs_hold (Hold.fr k (fun _ z => z) h.p.1) _ _ h.z, h.f.fr k, p, sys_fr h.s h.p k, tabs_fr h.t h.p k⟩
theorem sys_upd {D : Addr} {xs : List V} {H : Hp} {o : HO} (h : SysH H) (hD : H D = some (.lst xs)) : SysH (upd H D o) := by
  obtain ⟨u, e⟩ := h
  refine ⟨u, ?_⟩
  rw [upd_ne (fun z => by rw [z, hD] at e; cases e)]
  exact e
theorem tabs_upd {T : List (Addr × Str)} {D : Addr} {xs : List V} {H : Hp} {o : HO} (h : Tabs T H) (hD : H D = some (.lst xs)) : Tabs T (upd H D o) := fun y hy => by
  obtain ⟨ps, h1, h2, h3⟩ := h y hy
  refine ⟨ps, ?_, h2, fun pos cv hc => ?_⟩
  · rw [upd_ne (fun z => by rw [z, hD] at h1; cases h1)]
    exact h1
  · obtain ⟨c, e1, e2⟩ := h3 pos cv hc
    refine ⟨c, e1, ?_⟩
    rw [upd_ne (fun z => by rw [z, hD] at e2; cases e2)]
    exact e2
theorem Rd.other {D' : Addr} {ys : List V} {es : List PyData} (h : Rd K pT a D p1 r0 r2 H H3 xs ds) (hd : H3 D' = some (.lst ys)) (hn : D' ≠ a) (hz : DzAll K (fun b => b ≠ a) H3 ys es) : Rd K pT a D' p1 r0 r2 H H3 ys es := ⟨hd, hn, hz, h.f, h.p, h.s, h.t⟩
end
end K6

/-! text PX3 -/
set_option Elab.async false
set_option linter.all false
set_option maxRecDepth 100000
set_option maxHeartbeats 2000000
namespace K6
open PySem PySem.Spec PyProof.Rows L2 LamX
section
variable {P : Program} {w : World} {K : PySem.W.Frag} {mg : Str → Option Value} {base : Heap} {c pT CB CL : Addr}
theorem ok_right {j : Nat} (hj : 4 ≤ j) {f : Addr} {fd : FuncData} (F : FunC K "_law_right" "_law_right" sRight f fd c) (T : RgN mg) (HN : HdN K mg CB CL) (TB : TabB base mg c pT)
    (RT : FnAt P w K mg base CX0 1 "_law_take" ["_law_pot_here", "_law_upto"] spTake) (RO : FnAt P w K mg base CX0 2 "_law_of" ["_law_pot_here", "_law_some"] spOf) (RM : FnAt P w K mg base CX0 4 "_law_move" ["_law_pot_here"] (spMove K)) (RN : FnAt P w K mg base CX0 3 "_law_none" ["_law_pot_here"] (spNone K)) (RW : FnAt P w K mg base CX0 1 "_law_written" ["_law_move_here"] (spWr K))
    {fH : Addr} {dH : FuncData} (FH : Fun K "_law_heard" "_law_heard" sHeard fH dH) (mH : mg "_law_heard" = some (.ref fH)) (bH : Binds K dH ["_law_call"] [])
    {fS : Addr} {dS : FuncData} (mS : mg "show_story" = some (.ref fS)) (kS : PySem.W.keepIn K (.ref fS) = true) (bS : Binds K dS ["story"] []) (bSk : KBinds K dS ["story"] ["story"] (fun us ws => us ++ ws) (fun us ws => us ++ ws)) (GS : FnOk P w K mg base (L2.CX P w) j fS dS ["story"] (spShow K CB))
    {fR : Addr} {dR : FuncData} (mR : mg "read_story" = some (.ref fR)) (kR : PySem.W.keepIn K (.ref fR) = true) (bR : Binds K dR ["text"] []) (bRk : KBinds K dR ["text"] ["text"] (fun us ws => us ++ ws) (fun us ws => us ++ ws)) (GR : FnOk P w K mg base CX0 j fR dR ["text"] (spRead K)) : FnG P w K mg base CX0 (j + 3) f fd ["_law_pot_here"] (spRight pT) := by
  refine okGc F scRight (fun h => ?_) (fun {A os st H vs Q E} hG hr h => ?_)
  · obtain ⟨a, p0, p1, p2, rfl, _⟩ := h
    rfl
  · obtain ⟨a, p0, p1, p2, rfl, hp, h2, hS, hTb, q⟩ := h
    obtain ⟨f1, d1, m1, k1, b1, G1⟩ := RT
    obtain ⟨f2, d2, m2, k2, b2, G2⟩ := RO
    obtain ⟨f3, d3, m3, k3, b3, G3⟩ := RM
    obtain ⟨f4, d4, m4, k4, b4, G4⟩ := RN
    obtain ⟨f5, d5, m5, k5, b5, G5⟩ := RW
    obtain ⟨ocH, odH, kVH, docH, pmH, anH, cdvH, ctH, oslH, eH, lkH, hcH⟩ := FH.ex
    subst eH
    have hr1 : Room 1 _ := hr.mono (by omega)
    have hr2 : Room 2 _ := hr.mono (by omega)
    have hr3 : Room 3 _ := hr.mono (by omega)
    have hr4 : Room 4 _ := hr.mono (by omega)
    have hrj : Room j _ := hr.mono (by omega)
    have hu := hr.units
    obtain ⟨tr9, hps9, last9⟩ : ∃ tr, PSs (cxOf CX0 P w K mg base NR "_law_right" (defScope sRight) f (.ref c) A os st H E).nox ((defBody sRight).drop 8) tr ∧ ∀ (ds : List PyData) (kk : Nat) (xs : List V) (D t : Addr) (x3 : Option V) (r0 r2 : Int) (H3 : Hp), RoadOk ds kk → H3 D = some (.lst xs) → D ≠ a → DzAll K (fun b => b ≠ a) H3 xs ds → H3 t = some (.tup xs) → FrN a H H3 → Pot a r0 p1 r2 H3 → r2 ≤ p2 + 30 → SysH H3 → Tabs [(pT, LQ)] H3 → ∀ x5 x6 : V,
        tr { nx := fun _ H' => Q .non H', rt := Q } [some (.ref a), some (.ref D), some (.int (kk : Nat)), x3, some (.str (PyData.list ds).shown), some x5, some x6, none, some (.ref t), none, none] H3 := by
      refine ⟨_, pss_cons (ps_set (i := 7) scRight.nd rfl (Or.inr rfl) (by exact pe_call G2 hr2 rfl m2 k2 b2 .nil pass0 (pa_cons (pv 0) (pa_cons (pe_lst (pa_cons pe_non (pa_cons (pv 1) (pa_cons pe_str (pa_cons pe_int (pa_cons pe_dnewK (pa_cons pe_bl (pa_cons pe_str pa_nil)))))))) pa_nil)))) (pss_one (ps_ret (pe_and (pe_cmpR op_eq (pe_callB (call_reprZ hG hu) (by rfl) T.repr (by decide +kernel) (pa_cons (by exact pe_lamcall (T := [(pT, LQ)]) (TT := TTheard CB) (k := j) rfl mH FH.kp lkH hcH bH scHeard rfl (Or.inl rfl) (heard_gives HN) TB rfl (List.mem_singleton.mpr rfl) (fun p hp _ => by rw [List.mem_singleton.mp hp]; rfl) hr (lamS_by (sc := defScope sRight) (by decide +kernel)) rfl (fun _ _ _ _ _ => rfl) (fun A outer s H E f c' hr' => pe_call GS hr' rfl mS kS bS .nil (pas (takes_of rfl rfl rfl rfl)) (pa_cons (pv 7) pa_nil))) pa_nil)) (pe_callB (call_reprZ hG hu) (by rfl) T.repr (by decide +kernel) (pa_cons (pe_tup (pa_cons pe_str (pa_cons pe_int pa_nil))) pa_nil)) (nomark _)) (pe_one (pe_cmpR op_eq (pe_callB (call_reprZ hG hu) (by rfl) T.repr (by decide +kernel) (pa_cons (pv 1) pa_nil)) (pv 4) (nomark _)))))), ?_⟩
      intro ds kk xs D t x3 r0 r2 H3 hR hD hDa hz ht hf hp3 hr2' hs3 ht3 x5 x6
      refine ⟨_, rfl, _, rfl, fun dd hdd => ?_⟩
      have s1 := Same.new (o := .dK []) hdd
      refine ⟨(by show 7 ≤ sizeLine; decide), fun l hl => ?_⟩
      have s2 := Same.new (o := .lst [V.non, V.ref D, V.str "over", V.int 0, V.ref dd, V.bl true, V.str "deed a"]) hl
      have sA := s1.trans s2
      have eDd := s2 dd (.dK []) upd_same
      have hpA := hp3.same sA
      refine ⟨a, l, r0, p1, r2, _, rfl, hpA, by omega, upd_same, (hp3.same s1).ne hl, (by show 0 < 7; decide), (by show 7 ≤ 100; decide), fun x u0 u2 HB hx hu2 frB hpB => ?_⟩
      have inv : InS K HB x (.error 0) := by
        simp only [List.mem_cons, List.not_mem_nil, or_false] at hx
        rcases hx with rfl | rfl | rfl | rfl | rfl | rfl | rfl
        · exact .non
        · exact .lst (frB _ _ hDa (sA _ _ hD))
        · exact .str _
        · exact .int _
        · exact .dct (frB _ _ (hp3.ne hdd) eDd)
        · exact .bl _
        · exact .str _
      have sysB := sys_fr (hs3.same sA) hpA frB
      have tabB := tabs_fr (ht3.ext sA) hpA frB
      have hzB := dzs_hold (Hold.fr frB (fun _ z => z) hpA.1) _ _ (dzs_same sA hz)
      have hDB := frB _ _ hDa (sA _ _ hD)
      refine ⟨tabB, fun H4 e4 t4 => heard_go (K := K) (CB := CB) (r := .error 0) (fun E H1 Q1 h => ⟨_, rfl, h⟩) (inS_ext e4 inv) (fun p H5 s5 hd => ?_)⟩
      have sys5 := (sys_ext sysB e4).same s5
      refine ⟨fun _ => True, p, heardD (.error 0), rfl, sys5, hd _, showy_zero.sh, showy_zero.dp, showy_zero.sz, ?_⟩
      refine ⟨(by show 2 ≤ sizeLine; decide), fun p3 hp3' => ?_⟩
      have s6 := Same.new (o := .tup [V.str "bad", V.int 0]) hp3'
      refine ⟨fun _ => True, p3, heardD (.error 0), rfl, sys5.same s6, .tup (SqT.of upd_same) (.cons (.str _) (.cons (.int _) .nil)), showy_zero.sh, showy_zero.dp, showy_zero.sz, rfl, ?_⟩
      have s56 := s5.trans s6
      refine ⟨true, ?_, iteT ?_⟩
      · exact congrArg V.bl (decide_eq_true rfl)
      have hD6 := s56 _ _ (e4 _ _ hDB (fun _ z => by cases z))
      have hz6 := dzs_same s56 (dzs_hold (Hold.tbl e4) _ _ hzB)
      obtain ⟨ra, rl⟩ := hR.all
      have sR := showy_road ra rl
      refine ⟨_, rfl, fun b => b ≠ a, D, .list ds, rfl, sys5.same s6, .lst hDa hD6 hz6, sR.sh, sR.dp, sR.sz, _, rfl, rfl, ?_⟩
      show Q (V.bl (decide (V.str (PyData.list ds).shown = V.str (PyData.list ds).shown))) _
      rw [decide_eq_true rfl]
      exact q u0 u2 _ (by omega) (((((hf.same sA).fr frB).ext e4).same s56)) ((pot_ext hpB e4).same s56) (sys5.same s6) (t4.ext s56)
    obtain ⟨tr7, hps7, last7⟩ : ∃ tr, PSs (cxOf CX0 P w K mg base NR "_law_right" (defScope sRight) f (.ref c) A os st H E).nox ((defBody sRight).drop 6) tr ∧ ∀ (ds : List PyData) (kk : Nat) (xs : List V) (D t : Addr) (x3 : Option V) (r0 r2 : Int) (H3 : Hp), RoadOk ds kk → H3 D = some (.lst xs) → D ≠ a → DzAll K (fun b => b ≠ a) H3 xs ds → H3 t = some (.tup xs) → FrN a H H3 → Pot a r0 p1 r2 H3 → r2 ≤ p2 + 30 → SysH H3 → Tabs [(pT, LQ)] H3 → ∀ (l6 : Addr) (v5 : V) (ys : List V), H3 l6 = some (.lst ys) → l6 ≠ a → DzAll K (fun _ => True) H3 ys [heardD (showM ds), heardD (showM ds)] → Dz K (fun _ => True) H3 v5 (heardD (showM ds)) →
        tr { nx := fun _ H' => Q .non H', rt := Q } [some (.ref a), some (.ref D), some (.int (kk : Nat)), x3, some (.str (PyData.list ds).shown), some v5, some (.ref l6), none, some (.ref t), none, none] H3 := by
      refine ⟨_, pss_cons (ps_if (pt_cmpR op_ne (pe_callB (call_reprZ hG hu) (by rfl) T.repr (by decide +kernel) (pa_cons (pv 6) pa_nil)) (pe_callB (call_reprZ hG hu) (by rfl) T.repr (by decide +kernel) (pa_cons (pe_lst (pa_cons (pv 5) (pa_cons (pv 5) pa_nil))) pa_nil)) (nomark _)) (pss_one (ps_ret pe_bl)) pss_nil) (pss_cons (ps_if (PW.pt (pw_and (pt_cmpR op_eq (pv 2) pe_int (nomark _)) (pw_and1 (pt_cmpR op_ne (pe_callB (call_reprZ hG hu) (by rfl) T.repr (by decide +kernel) (pa_cons (pe_lst (pa_cons (by exact pe_call GR hrj rfl mR kR bR .nil pass0 (pa_cons (pe_ix ix_tup (pv 5) pe_int (fun _ _ => rfl)) pa_nil)) (pa_cons (by exact pe_callK0 GR hrj rfl mR kR bRk pass0 (pk_cons (pe_ix ix_tup (pv 5) pe_int (fun _ _ => rfl)) pk_nil)) pa_nil))) pa_nil)) (pe_callB (call_reprZ hG hu) (by rfl) T.repr (by decide +kernel) (pa_cons (pe_lst (pa_cons (pv 8) (pa_cons (pv 8) pa_nil))) pa_nil)) (nomark _))))) (pss_one (ps_ret pe_bl)) pss_nil) hps9), ?_⟩
      intro ds kk xs D t x3 r0 r2 H3 hR hD hDa hz ht hf hp3 hr2' hs3 ht3 l6 v5 ys h6 h6a hys h5
      obtain ⟨w1, w2, w3⟩ := showy_heard hR
      have w4 := showy_two w1 w2 w3
      refine ⟨_, rfl, fun _ => True, l6, .list [heardD (showM ds), heardD (showM ds)], rfl, hs3, .lst trivial h6 hys, w4.sh, w4.dp, w4.sz, ?_⟩
      refine ⟨_, rfl, _, rfl, (by show 2 ≤ sizeLine; decide), fun l hl => ?_⟩
      have s4 := Same.new (o := .lst [v5, v5]) hl
      refine ⟨fun _ => True, l, .list [heardD (showM ds), heardD (showM ds)], rfl, hs3.same s4, .lst trivial upd_same (.cons (dz_same s4 h5) (.cons (dz_same s4 h5) .nil)), w4.sh, w4.dp, w4.sz, rfl, _, rfl, ?_⟩
      rw [decide_eq_true rfl]
      refine iteF ?_
      refine ⟨_, rfl, rfl, _, rfl, ?_⟩
      have go : ∀ H4, Same H3 H4 → tr9 { nx := fun _ H' => Q .non H', rt := Q } [some (.ref a), some (.ref D), some (.int (kk : Nat)), x3, some (.str (PyData.list ds).shown), some v5, some (.ref l6), none, some (.ref t), none, none] H4 := fun H4 k => last9 ds kk xs D t x3 r0 r2 H4 hR (k _ _ hD) hDa (dzs_same k hz) (k _ _ ht) (hf.same k) (hp3.same k) hr2' (hs3.same k) (ht3.ext k) v5 (.ref l6)
      refine ite2 (fun c => ?_) (fun c => go _ s4)
      have k0 : kk = 0 := by
        have z := V.int.inj (of_decide_eq_true c)
        omega
      subst k0
      obtain ⟨hall, hl8⟩ : (∀ d ∈ ds, MvOk d) ∧ ds.length ≤ 8 := by
        cases hR with
        | ok a l => exact ⟨a, l⟩
      have eS : showM ds = .ok (Txt.join "\n" (ds.map wrM)) := by
        rw [hR.show]
        rfl
      rw [eS] at h5
      cases h5 with
      | tup hs5 ha5 =>
        rename_i t5 ys5
        cases ha5 with
        | cons g1 ha5 =>
          cases ha5 with
          | cons g2 ha5 =>
            cases ha5
            cases g1
            cases g2
            have q5 := sqt_same s4 hs5
            refine ⟨_, rfl, t5, _, _, _, rfl, rfl, q5, atI_nat (j := 1) rfl, ds, rfl, hall, hl8, fun y1 H5 s5 z1 => ?_⟩
            refine ⟨_, rfl, t5, _, _, _, rfl, rfl, sqt_same s5 q5, atI_nat (j := 1) rfl, ds, rfl, hall, hl8, fun y2 H6 s6 z2 => ?_⟩
            refine ⟨(by show 2 ≤ sizeLine; decide), fun l2 hl2 => ?_⟩
            have s7 := Same.new (o := .lst [y1, y2]) hl2
            have sT := s4.trans (s5.trans (s6.trans s7))
            obtain ⟨ra, rl⟩ := hR.all
            have sR := showy_roads ra rl
            refine ⟨fun _ => True, l2, .list [.tuple ds, .tuple ds], rfl, hs3.same sT, .lst trivial upd_same (.cons (dz_same (s6.trans s7) (z1 _)) (.cons (dz_same s7 (z2 _)) .nil)), sR.sh, sR.dp, sR.sz, ?_⟩
            refine ⟨_, rfl, _, rfl, (by show 2 ≤ sizeLine; decide), fun l3 hl3 => ?_⟩
            have s8 := Same.new (o := .lst [V.ref t, V.ref t]) hl3
            have sU := sT.trans s8
            have zt : Dz K (fun _ => True) (upd (upd H6 l2 (.lst [y1, y2])) l3 (.lst [V.ref t, V.ref t])) (.ref t) (.tuple ds) := .tup (SqT.of (sU _ _ ht)) (dzs_same sU (alls_true hz))
            refine ⟨fun _ => True, l3, .list [.tuple ds, .tuple ds], rfl, hs3.same sU, .lst trivial upd_same (.cons zt (.cons zt .nil)), sR.sh, sR.dp, sR.sz, rfl, _, rfl, ?_⟩
            rw [decide_eq_true rfl]
            exact iteF (go _ sU)
    obtain ⟨tr5, hps5, last5⟩ : ∃ tr, PSs (cxOf CX0 P w K mg base NR "_law_right" (defScope sRight) f (.ref c) A os st H E).nox ((defBody sRight).drop 4) tr ∧ ∀ (ds : List PyData) (kk : Nat) (xs : List V) (D t : Addr) (x3 : Option V) (r0 r2 : Int) (H3 : Hp), RoadOk ds kk → H3 D = some (.lst xs) → D ≠ a → DzAll K (fun b => b ≠ a) H3 xs ds → H3 t = some (.tup xs) → FrN a H H3 → Pot a r0 p1 r2 H3 → r2 ≤ p2 + 30 → SysH H3 → Tabs [(pT, LQ)] H3 → ∀ v5 : V, Dz K (fun _ => True) H3 v5 (heardD (showM ds)) →
        tr { nx := fun _ H' => Q .non H', rt := Q } [some (.ref a), some (.ref D), some (.int (kk : Nat)), x3, some (.str (PyData.list ds).shown), some v5, none, none, some (.ref t), none, none] H3 := by
      refine ⟨_, pss_cons (ps_set (i := 6) scRight.nd rfl (Or.inl rfl) (pe_lst (pa_cons (by exact pe_lamcall (T := [(pT, LQ)]) (TT := TTheard CB) (k := j) rfl mH FH.kp lkH hcH bH scHeard rfl (Or.inl rfl) (heard_gives HN) TB rfl (List.mem_singleton.mpr rfl) (fun p hp _ => by rw [List.mem_singleton.mp hp]; rfl) hr (lamS_by (sc := defScope sRight) (by decide +kernel)) rfl (fun _ _ _ _ _ => rfl) (fun A outer s H E f c' hr' => pe_call GS hr' rfl mS kS bS .nil (pas (takes_of rfl rfl rfl rfl)) (pa_cons (pv 8) pa_nil))) pa_nil))) (pss_cons (ps_expr (pe_bm PySem.F.plainAttrs_list PySem.F.slot_list_append PySem.F.type_list_append mt_append (pv 6) (pa_cons (by exact pe_lamcall (T := [(pT, LQ)]) (TT := TTheard CB) (k := j) rfl mH FH.kp lkH hcH bH scHeard rfl (Or.inl rfl) (heard_gives HN) TB rfl (List.mem_singleton.mpr rfl) (fun p hp _ => by rw [List.mem_singleton.mp hp]; rfl) hr (lamS_by (sc := defScope sRight) (by decide +kernel)) rfl (fun _ _ _ _ _ => rfl) (fun A outer s H E f c' hr' => pe_callK0 GS hr' rfl mS kS bSk (pas (takes_of rfl rfl rfl rfl)) (pk_cons (pv 8) pk_nil))) pa_nil))) hps7), ?_⟩
      intro ds kk xs D t x3 r0 r2 H3 hR hD hDa hz ht hf hp3 hr2' hs3 ht3 v5 h5
      obtain ⟨ra, rl⟩ := hR.all
      refine ⟨ht3, fun H4 e4 t4 => heard_go (K := K) (CB := CB) (r := showM ds) (fun E H1 Q1 h => ⟨_, rfl, h⟩) (inS_ext e4 (.road (SqT.of ht) hz ra rl)) (fun p H5 s5 hd => ?_)⟩
      refine ⟨(by show 1 ≤ sizeLine; decide), fun l hl => ?_⟩
      have s6 := Same.new (o := .lst [V.ref p]) hl
      have e6 : (upd H5 l (.lst [V.ref p])) l = some (.lst [V.ref p]) := upd_same
      have s56 := s5.trans s6
      have t6 := t4.ext s56
      have hla : l ≠ a := ((pot_ext hp3 e4).same s5).ne hl
      refine ⟨_, rfl, .inl ⟨rfl, _, SqL.of e6⟩, ?_⟩
      refine ⟨t6, fun H7 e7 t7 => heard_go (K := K) (CB := CB) (r := showM ds) (fun E H1 Q1 h => ⟨_, rfl, h⟩) (inS_ext e7 (inS_same s56 (inS_ext e4 (.road (SqT.of ht) hz ra rl)))) (fun p2 H8 s8 hd2 => ?_)⟩
      have e8 := s8 _ _ (e7 _ _ e6 (fun _ z => by cases z))
      refine ⟨l, _, _, rfl, rfl, e8, (by show 1 < sizeLine; decide), ?_⟩
      have up : ∀ b o, b ≠ l → H8 b = some o → (upd H8 l (.lst ([V.ref p] ++ [V.ref p2]))) b = some o := fun b o n e => by
        rw [upd_ne n]
        exact e
      have to8 : ∀ {b : Addr} {o : HO}, (∀ ps, o ≠ .tbl ps) → H3 b = some o → H8 b = some o := fun n e => s8 _ _ (e7 _ _ (s56 _ _ (e4 _ _ e n)) n)
      have nl : ∀ {b : Addr} {o : HO}, (∀ ps, o ≠ .tbl ps) → H3 b = some o → b ≠ l := fun n e z => by
        rw [z] at e
        have z2 := s5 _ _ (e4 _ _ e n)
        rw [z2] at hl
        cases hl
      have hd8 : Dz K (fun _ => False) H8 (.ref p) (heardD (showM ds)) := dz_same s8 (dz_hold (Hold.tbl e7) _ _ (dz_same s6 (hd _)))
      have fl : ∀ {v : V}, Dz K (fun _ => False) H8 v (heardD (showM ds)) → Dz K (fun _ => True) (upd H8 l (.lst ([V.ref p] ++ [V.ref p2]))) v (heardD (showM ds)) := fun h => dz_hold (Hold.any fun b o n1 n2 e => up b o (fun z => by
        rw [z, e8] at e
        exact n1 _ (Option.some.inj e).symm) e) _ _ h
      refine last7 ds kk xs D t x3 r0 r2 _ hR (up _ _ (nl (fun _ z => by cases z) hD) (to8 (fun _ z => by cases z) hD)) hDa ?_ (up _ _ (nl (fun _ z => by cases z) ht) (to8 (fun _ z => by cases z) ht)) ?_ ?_ hr2' ?_ ?_ l v5 [V.ref p, V.ref p2] upd_same hla (.cons (fl hd8) (.cons (fl (hd2 _)) .nil)) ?_
      · refine dzs_hold ⟨fun _ h => h, fun b ys s e => up _ _ (nl (fun _ z => by cases z) e) (to8 (fun _ z => by cases z) e), fun b o n1 n2 e => up _ _ (nl n2 e) (to8 n2 e)⟩ _ _ hz
      · exact fun b o n e z => up _ _ (nl z (hf b o n e z)) (to8 z (hf b o n e z))
      · exact ⟨up _ _ (Ne.symm hla) (to8 (fun _ z => by cases z) hp3.1), hp3.2⟩
      · obtain ⟨o, e⟩ := hs3
        exact ⟨o, up _ _ (nl (fun _ z => by cases z) e) (to8 (fun _ z => by cases z) e)⟩
      · intro y hy
        obtain ⟨ps, g1, g2, g3⟩ := (t7.ext s8) y hy
        refine ⟨ps, up _ _ (fun z => ?_) g1, g2, fun pos cv hc => ?_⟩
        · rw [z, e8] at g1
          cases g1
        · obtain ⟨c, q1, q2⟩ := g3 pos cv hc
          refine ⟨c, q1, up _ _ (fun z => ?_) q2⟩
          rw [z, e8] at q2
          cases q2
      · exact dz_hold ⟨fun _ _ => trivial, fun b ys s e => up _ _ (nl (fun _ z => by cases z) e) (to8 (fun _ z => by cases z) e), fun b o n1 n2 e => up _ _ (nl n2 e) (to8 n2 e)⟩ _ _ h5
    obtain ⟨tr4, hps4, last4⟩ : ∃ tr, PSs (cxOf CX0 P w K mg base NR "_law_right" (defScope sRight) f (.ref c) A os st H E).nox ((defBody sRight).drop 3) tr ∧ ∀ (ds : List PyData) (kk : Nat) (xs : List V) (D t : Addr) (x3 : Option V) (r0 r2 : Int) (H3 : Hp), RoadOk ds kk → H3 D = some (.lst xs) → D ≠ a → DzAll K (fun b => b ≠ a) H3 xs ds → H3 t = some (.tup xs) → FrN a H H3 → Pot a r0 p1 r2 H3 → r2 ≤ p2 + 30 → SysH H3 → Tabs [(pT, LQ)] H3 → 
        tr { nx := fun _ H' => Q .non H', rt := Q } [some (.ref a), some (.ref D), some (.int (kk : Nat)), x3, some (.str (PyData.list ds).shown), none, none, none, some (.ref t), none, none] H3 := by
      refine ⟨_, pss_cons (ps_set (i := 5) scRight.nd rfl (Or.inl rfl) (pe_ifExp (pt_cmpR op_gt (pv 2) pe_int (nomark _)) (pe_tup (pa_cons pe_str (pa_cons (pv 2) pa_nil))) (pe_tup (pa_cons pe_str (pa_cons (pe_join pe_str (pe_lc (own := [("_law_move_here", 10)]) (g := gName 10) (tt := tYes) rfl scRight.nd (pi_list (pv 1)) (blkOk_by (own := [("_law_move_here", 10)]) (N := NR) (sc := defScope sRight) (by decide +kernel)) (fun _ _ _ _ _ => pg_name (i := 10) scRight.nd rfl (Or.inl rfl)) (fun _ _ _ _ _ => pts_nil) (fun _ _ _ _ _ => by exact pe_call G5 hr1 rfl m5 k5 b5 .nil pass0 (pa_cons (pv 10) pa_nil)))) pa_nil))))) hps5, ?_⟩
      intro ds kk xs D t x3 r0 r2 H3 hR hD hDa hz ht hf hp3 hr2' hs3 ht3
      refine ⟨_, rfl, _, _, rfl, rfl, _, rfl, ?_⟩
      have eS := hR.show
      refine ite2 (fun c => ?_) (fun c => ?_)
      · have k0 : kk > 0 := by
          have z := of_decide_eq_true c
          omega
        rw [if_pos k0] at eS
        refine ⟨_, rfl, (by show 2 ≤ sizeLine; decide), fun p hp => ?_⟩
        have k := Same.new (o := .tup [V.str "bad", V.int (kk : Nat)]) hp
        exact last5 ds kk xs D t x3 r0 r2 _ hR (k _ _ hD) hDa (dzs_same k hz) (k _ _ ht) (hf.same k) (hp3.same k) hr2' (hs3.same k) (ht3.ext k) (.ref p) (eS ▸ .tup (SqT.of upd_same) (.cons (.str _) (.cons (.int _) .nil)))
      · have k0 : ¬ kk > 0 := fun z => c (decide_eq_true (show (0 : Int) < (kk : Int) by omega))
        rw [if_neg k0] at eS
        have e0 : kk = 0 := by omega
        subst e0
        obtain ⟨hall, hl8⟩ : (∀ d ∈ ds, MvOk d) ∧ ds.length ≤ 8 := by
          cases hR with
          | ok a l => exact ⟨a, l⟩
        have hxl := dzs_len hz
        refine ⟨⟨_, rfl⟩, _, rfl, D, rfl, ⟨xs, SqL.of hD⟩, fun B hB => ?_⟩
        refine lc_list (K := K) (a := D) (xs := xs) (fun i H' => Same H3 H' ∧ H' B = some (.lst ((ds.take i).map fun d => V.str (wrM d)))) ⟨Same.new hB, upd_same⟩ (fun i H' _ h => SqL.of (h.1 _ _ hD)) ?_ ?_
        · rintro i v H' hv ⟨s1, h1⟩
          obtain ⟨d, hd, rd⟩ := dzs_at hz hv
          refine ⟨rfl, ?_⟩
          refine ⟨_, rfl, _, v, d, rfl, hall d (List.mem_of_getElem? hd), dz_same s1 rd, fun H'' s2 => ?_⟩
          refine ⟨_, s2 _ _ h1, (by rw [List.length_map, List.length_take, sizeLine_eq]; omega), fun b o e => ?_, ?_⟩
          · rw [upd_ne (ne_of_none e hB)]
            exact s2 _ _ (s1 b o e)
          · rw [upd_same, List.take_add_one, List.map_append, hd]
            rfl
        rintro H' ⟨k1, h1⟩
        rw [hxl, List.take_length] at h1
        refine ⟨"\n", B, ds.map wrM, rfl, rfl, .inl (SqL.of (by rw [h1, List.map_map]; rfl)), ?_, ?_⟩
        · have key : ∀ l : List PyData, (∀ d ∈ l, MvOk d) → ((l.map wrM).map (fun x => x.length)).sum ≤ 40 * l.length := by
            intro l
            induction l with
            | nil => intro _; exact Nat.le_refl _
            | cons y l ih =>
              intro h
              have z1 := ih fun x hx => h x (List.mem_cons_of_mem _ hx)
              have z2 := (wr_short (h y List.mem_cons_self)).1
              rw [List.map_cons, List.map_cons, List.sum_cons, List.length_cons]
              omega
          have z := key ds hall
          rw [List.length_map, show ("\n" : Str).length = 1 from by decide +kernel]
          omega
        refine ⟨(by show 2 ≤ sizeLine; decide), fun p hp => ?_⟩
        have k := k1.trans (Same.new (o := .tup [V.str "told", V.str (Txt.join "\n" (ds.map wrM))]) hp)
        exact last5 ds 0 xs D t x3 r0 r2 _ hR (k _ _ hD) hDa (dzs_same k hz) (k _ _ ht) (hf.same k) (hp3.same k) hr2' (hs3.same k) (ht3.ext k) (.ref p) (eS ▸ .tup (SqT.of upd_same) (.cons (.str _) (.cons (.str _) .nil)))
    obtain ⟨tr3, hps3, last3⟩ : ∃ tr, PSs (cxOf CX0 P w K mg base NR "_law_right" (defScope sRight) f (.ref c) A os st H E).nox ((defBody sRight).drop 2) tr ∧ ∀ (ds : List PyData) (kk : Nat) (xs : List V) (D : Addr) (x3 : Option V) (r0 r2 : Int) (H3 : Hp), RoadOk ds kk → H3 D = some (.lst xs) → D ≠ a → DzAll K (fun b => b ≠ a) H3 xs ds → FrN a H H3 → Pot a r0 p1 r2 H3 → r2 ≤ p2 + 30 → SysH H3 → Tabs [(pT, LQ)] H3 →
        tr { nx := fun _ H' => Q .non H', rt := Q } [some (.ref a), some (.ref D), some (.int (kk : Nat)), x3, none, none, none, none, none, none, none] H3 := by
      refine ⟨_, pss_cons (ps_asg (pe_tup (pa_cons (pe_callTy call_tuple_of (by rfl) T.tuple (by decide +kernel) (pa_cons (pv 1) pa_nil)) (pa_cons (pe_callB (call_reprZ hG hu) (by rfl) T.repr (by decide +kernel) (pa_cons (pv 1) pa_nil)) pa_nil))) (pg_tup (by rfl) (pgs_cons (pg_name (i := 8) scRight.nd rfl (Or.inr rfl)) (pgs_cons (pg_name (i := 4) scRight.nd rfl (Or.inl rfl)) pgs_nil)))) hps4, ?_⟩
      intro ds kk xs D x3 r0 r2 H3 hR hD hDa hz hf hp3 hr2' hs3 ht3
      obtain ⟨ra, rl⟩ := hR.all
      have sR := showy_road ra rl
      refine ⟨_, rfl, D, xs, rfl, .inl ⟨SqL.of hD, fun t htn => ?_⟩⟩
      have s1 := Same.new (o := .tup xs) htn
      refine ⟨_, rfl, fun b => b ≠ a, D, .list ds, rfl, hs3.same s1, .lst hDa (s1 _ _ hD) (dzs_same s1 hz), sR.sh, sR.dp, sR.sz, ?_⟩
      refine ⟨(by show 2 ≤ sizeLine; decide), fun p hp => ?_⟩
      have s2 := s1.trans (Same.new (o := .tup [V.ref t, V.str (PyData.list ds).shown]) hp)
      have et := Same.new (o := .tup [V.ref t, V.str (PyData.list ds).shown]) hp t _ upd_same
      refine ⟨p, _, rfl, SqT.of upd_same, rfl, ?_⟩
      exact ⟨_, _, rfl, _, _, rfl, rfl, last4 ds kk xs D t x3 r0 r2 _ hR (s2 _ _ hD) hDa (dzs_same s2 hz) et (hf.same s2) (hp3.same s2) hr2' (hs3.same s2) (ht3.ext s2)⟩
    obtain ⟨tr2, hps2, last2⟩ : ∃ tr, PSs (cxOf CX0 P w K mg base NR "_law_right" (defScope sRight) f (.ref c) A os st H E).nox ((defBody sRight).drop 1) tr ∧ ∀ (ds : List PyData) (xs : List V) (D : Addr) (r0 r2 : Int) (H3 : Hp), (∀ d ∈ ds, MvOk d) → ds.length ≤ 8 → H3 D = some (.lst xs) → D ≠ a → DzAll K (fun b => b ≠ a) H3 xs ds → FrN a H H3 → Pot a r0 p1 r2 H3 → r2 ≤ p2 + 25 → SysH H3 → Tabs [(pT, LQ)] H3 →
        tr { nx := fun _ H' => Q .non H', rt := Q } [some (.ref a), some (.ref D), some (.int 0), none, none, none, none, none, none, none, none] H3 := by
      refine ⟨_, pss_cons (ps_if (pt_cmpR op_eq (by exact pe_call G1 hr1 rfl m1 k1 b1 .nil pass0 (pa_cons (pv 0) (pa_cons pe_int pa_nil))) pe_int (nomark _))
          (pss_cons (ps_set (i := 3) scRight.nd rfl (Or.inl rfl) (by exact pe_call G1 hr1 rfl m1 k1 b1 .nil pass0 (pa_cons (pv 0) (pa_cons (pe_op op_add (pe_callB call_len_seq (by rfl) T.len PySem.boot_len (pa_cons (pv 1) pa_nil)) pe_int) pa_nil))))
          (pss_cons (ps_par (i := 1) (j := 2) (by rfl) scRight.nd rfl rfl (by decide) rfl rfl (pa_cons (pe_op op_cat (pe_op op_cat (pe_slice sl_list (pv 1) po_none (po_some (pv 3))) (pe_lst (pa_cons (by exact pe_call G4 hr3 rfl m4 k4 b4 .nil pass0 (pa_cons (pv 0) pa_nil)) pa_nil))) (pe_slice sl_list (pv 1) (po_some (pv 3)) po_none)) (pa_cons (pe_op op_add (pv 3) pe_int) pa_nil)) (by rfl))
          (pss_one (ps_set (i := 1) scRight.nd rfl (Or.inl rfl) (pe_op op_cat (pv 1) (pe_op op_rep (pe_lst (pa_cons (by exact pe_call G4 hr3 rfl m4 k4 b4 .nil pass0 (pa_cons (pv 0) pa_nil)) pa_nil)) (by exact pe_call G1 hr1 rfl m1 k1 b1 .nil pass0 (pa_cons (pv 0) (pa_cons pe_int pa_nil))))))))) pss_nil) hps3, ?_⟩
      intro ds xs D r0 r2 H3 hall hl8 hD hDa hz hf hp3 hr2' hs3 ht3
      have hxl := dzs_len hz
      refine ⟨_, rfl, a, r0, p1, r2, 3, rfl, hp3, by omega, by omega, by omega, fun d u0 u2 HA hd0 hd3 hu2 frA hpA => ?_⟩
      have RA : Rd K pT a D p1 u0 u2 H HA xs ds := Rd.fr ⟨hD, hDa, hz, hf, hp3, hs3, ht3⟩ frA hpA
      refine ⟨rfl, _, rfl, ite2 (fun c => ?_) (fun c => ?_)⟩
      · refine ⟨_, rfl, _, rfl, D, xs, rfl, .inl (SqL.of RA.hD), _, _, rfl, rfl, a, u0, p1, u2, _, rfl, hpA, by omega, by omega, by omega, fun n0 v0 v2 HB hn0 hn1 hv2 frB hpB => ?_⟩
        have RB := RA.fr frB hpB
        obtain ⟨n, rfl⟩ : ∃ n : Nat, n0 = n := ⟨n0.toNat, by omega⟩
        have hn : n ≤ xs.length := by omega
        refine ⟨_, rfl, _, rfl, n, rfl, D, xs, rfl, SqL.of RB.hD, fun l1 hl1 => ?_⟩
        rw [cut_to]
        have s1 := Same.new (o := .lst (xs.take n)) hl1
        have R1 := RB.same s1
        have e1 : (upd HB l1 (.lst (xs.take n))) l1 = some (.lst (xs.take n)) := upd_same
        have n1 : l1 ≠ a := hpB.ne hl1
        generalize upd HB l1 (.lst (xs.take n)) = HC at s1 R1 e1
        have Z1 : Rd K pT a l1 p1 v0 v2 H HC (xs.take n) (ds.take n) := R1.other e1 n1 (dzs_take n R1.z)
        refine ⟨_, rfl, a, v0, p1, v2, rfl, R1.p, by omega, fun y w0 w2 HD ⟨d1, hd1, zy⟩ hw2 frD hpD => ?_⟩
        have RD' := R1.fr frD hpD
        have Z1 := Z1.fr frD hpD
        refine ⟨(by show 1 ≤ sizeLine; decide), fun l2 hl2 => ?_⟩
        have s2 := Same.new (o := .lst [y]) hl2
        have e2 : (upd HD l2 (.lst [y])) l2 = some (.lst [y]) := upd_same
        have RE := RD'.same s2
        have Z1 := Z1.same s2
        have zy := dz_same s2 zy
        generalize upd HD l2 (.lst [y]) = HE at s2 e2 RE Z1 zy
        refine ⟨l1, l2, _, _, rfl, rfl, Z1.hD, e2, (by rw [List.length_take, sizeLine_eq]; simp only [List.length_singleton]; omega), fun l3 hl3 => ?_⟩
        have s3 := Same.new (o := .lst (xs.take n ++ [y])) hl3
        have e3 : (upd HE l3 (.lst (xs.take n ++ [y]))) l3 = some (.lst (xs.take n ++ [y])) := upd_same
        have n3 : l3 ≠ a := RE.p.ne hl3
        have RF := RE.same s3
        have Z1 := Z1.same s3
        have zy := dz_same s3 zy
        generalize upd HE l3 (.lst (xs.take n ++ [y])) = HF at s3 e3 RF Z1 zy
        have Z3 := RF.other e3 n3 (dzs_app Z1.z (.cons zy .nil))
        refine ⟨_, rfl, _, rfl, n, rfl, D, xs, rfl, SqL.of RF.hD, fun l4 hl4 => ?_⟩
        rw [cut_fr]
        have s4 := Same.new (o := .lst (xs.drop n)) hl4
        have e4 : (upd HF l4 (.lst (xs.drop n))) l4 = some (.lst (xs.drop n)) := upd_same
        have RG := RF.same s4
        have Z3 := Z3.same s4
        generalize upd HF l4 (.lst (xs.drop n)) = HG at s4 e4 RG Z3
        refine ⟨l3, l4, _, _, rfl, rfl, Z3.hD, e4, (by rw [List.length_append, List.length_take, List.length_drop, sizeLine_eq]; simp only [List.length_singleton]; omega), fun l5 hl5 => ?_⟩
        have s5 := Same.new (o := .lst (xs.take n ++ [y] ++ xs.drop n)) hl5
        have e5 : (upd HG l5 (.lst (xs.take n ++ [y] ++ xs.drop n))) l5 = some (.lst (xs.take n ++ [y] ++ xs.drop n)) := upd_same
        have n5 : l5 ≠ a := RG.p.ne hl5
        have RH := RG.same s5
        have Z3 := Z3.same s5
        generalize upd HG l5 (.lst (xs.take n ++ [y] ++ xs.drop n)) = HH at s5 e5 RH Z3
        have Z5 := RH.other e5 n5 (dzs_app Z3.z (dzs_drop n RH.z))
        refine ⟨_, rfl, _, _, rfl, rfl, _, _, rfl, ?_⟩
        refine ⟨_, rfl, _, rfl, a, w0, p1, w2, rfl, Z5.p, by omega, fun y2 t0 t2 HI ⟨d2, hd2, zy2⟩ ht2 frI hpI => ?_⟩
        have Z5 := Z5.fr frI hpI
        refine ⟨(by show 1 ≤ sizeLine; decide), fun l6 hl6 => ?_⟩
        have s6 := Same.new (o := .lst [y2]) hl6
        have e6 : (upd HI l6 (.lst [y2])) l6 = some (.lst [y2]) := upd_same
        have n6 : l6 ≠ a := hpI.ne hl6
        have Z5 := Z5.same s6
        have zy2 := dz_same s6 zy2
        generalize upd HI l6 (.lst [y2]) = HJ at s6 e6 Z5 zy2
        refine ⟨_, rfl, a, t0, p1, t2, 2, rfl, Z5.p, by omega, by omega, by omega, fun k q0 q2 HK hk0 hk1 hq2 frK hpK => ?_⟩
        have zy2 := dz_hold (Hold.fr frK (fun _ z => z) Z5.p.1) _ _ zy2
        have Z5 := Z5.fr frK hpK
        have e6 := frK _ _ n6 e6
        obtain ⟨m, rfl⟩ : ∃ m : Nat, k = m := ⟨k.toNat, by omega⟩
        have hm : m ≤ 1 := by omega
        have rep : ∀ m : Nat, DzAll K (fun b => b ≠ a) HK (List.replicate m [y2]).flatten (List.replicate m [d2]).flatten := by
          intro m
          induction m with
          | zero => exact .nil
          | succ m ih => exact .cons zy2 ih
        have lenr : ((List.replicate m [y2]).flatten).length = m := by simp
        have lend : ((List.replicate m [d2]).flatten).length = m := by simp
        have memd : ∀ d ∈ (List.replicate m [d2]).flatten, d = d2 := by
          intro d hd
          obtain ⟨l, hl, hd⟩ := List.mem_flatten.mp hd
          rw [List.eq_of_mem_replicate hl] at hd
          exact List.mem_singleton.mp hd
        have rz := rep m
        refine ⟨l6, _, _, rfl, rfl, e6, by omega, by omega, (by rw [sizeLine_eq, Int.toNat_natCast]; simp only [List.length_singleton]; omega), fun l7 hl7 => ?_⟩
        rw [Int.toNat_natCast]
        generalize (List.replicate m [y2]).flatten = ys at lenr rz
        generalize (List.replicate m [d2]).flatten = es at lend memd rz
        have s7 := Same.new (o := .lst ys) hl7
        have e7 : (upd HK l7 (.lst ys)) l7 = some (.lst ys) := upd_same
        have Z5 := Z5.same s7
        have rz := dzs_same s7 rz
        generalize upd HK l7 (.lst ys) = HL at s7 e7 Z5 rz
        have lenx : (xs.take n ++ [y] ++ xs.drop n).length = xs.length + 1 := by
          rw [List.length_append, List.length_append, List.length_take, List.length_drop, List.length_singleton]
          omega
        refine ⟨l5, l7, _, _, rfl, rfl, Z5.hD, e7, (by rw [lenx, lenr, sizeLine_eq]; omega), fun l8 hl8 => ?_⟩
        have s8 := Same.new (o := .lst (xs.take n ++ [y] ++ xs.drop n ++ ys)) hl8
        have e8 : (upd HL l8 (.lst (xs.take n ++ [y] ++ xs.drop n ++ ys))) l8 = some (.lst (xs.take n ++ [y] ++ xs.drop n ++ ys)) := upd_same
        have n8 : l8 ≠ a := Z5.p.ne hl8
        have Z5 := Z5.same s8
        have rz := dzs_same s8 rz
        generalize upd HL l8 (.lst (xs.take n ++ [y] ++ xs.drop n ++ ys)) = HM at s8 e8 Z5 rz
        have Z8 := Z5.other e8 n8 (dzs_app Z5.z rz)
        have hlt : (ds.take n).length = n := by
          rw [List.length_take]
          omega
        have hR : RoadOk (ds.take n ++ [d1] ++ ds.drop n ++ es) (n + 1) := by
          have z := RoadOk.bad (A := ds.take n) (B := ds.drop n ++ es) (n := d1) (fun d hd => hall d (List.mem_of_mem_take hd)) hd1 (fun d hd => ?_) (by rw [hlt, List.length_append, List.length_drop, lend]; omega)
          · rw [hlt, ← List.append_assoc] at z
            exact z
          · rcases List.mem_append.mp hd with hd | hd
            · exact .inl (hall d (List.mem_of_mem_drop hd))
            · rw [memd d hd]
              exact .inr hd2
        exact last3 _ (n + 1) _ l8 (some (.int n)) q0 q2 HM hR Z8.hD n8 Z8.z Z8.f Z8.p (by omega) Z8.s Z8.t
      · exact last3 ds 0 xs D none u0 u2 HA (.ok hall hl8) RA.hD hDa RA.z RA.f hpA (by omega) RA.s RA.t
    refine ⟨_, pss_cons (ps_par (i := 1) (j := 2) (by rfl) scRight.nd rfl rfl (by decide) rfl rfl (pa_cons (pe_lc (own := [("_law_turn", 9)]) (g := gName 9) (tt := tYes) rfl scRight.nd (pi_range1 rfl T.range (pa_cons (by exact pe_call G1 hr1 rfl m1 k1 b1 .nil pass0 (pa_cons (pv 0) (pa_cons pe_int pa_nil))) pa_nil)) (blkOk_by (own := [("_law_turn", 9)]) (N := NR) (sc := defScope sRight) (by decide +kernel)) (fun _ _ _ _ _ => pg_name (i := 9) scRight.nd rfl (Or.inl rfl)) (fun _ _ _ _ _ => pts_nil)
          (fun _ _ _ _ _ => (by exact pe_call G3 hr4 rfl m3 k3 b3 .nil pass0 (pa_cons (pv 0) pa_nil)))) (pa_cons pe_int pa_nil)) (by rfl)) hps2, ?_⟩
    refine ⟨_, rfl, a, p0, p1, p2, 9, rfl, hp, by omega, by omega, by omega, fun n0 r0 r2 HA hn0 hn1 hr2' frA hpA => ?_⟩
    refine ⟨n0, rfl, by omega, by omega, fun D hD => ?_⟩
    have hDa : D ≠ a := hpA.ne hD
    have s0 := Same.new (o := .lst []) hD
    have f0 : FrN a H HA := fun b o n e _ => frA b o n e
    have up : ∀ {b : Addr} {o : HO} {H' : Hp} {u : HO}, b ≠ a → H b = some o → H' b = some o → (upd H' D u) b = some o := fun {b o H' u} n e e' => by
      rw [upd_ne (fun z => by
        have q := frA b o n e
        rw [z, hD] at q
        cases q)]
      exact e'
    refine lc_range (lo := 0) (n := n0.toNat) (fun i H' => ∃ u0 u2 acc ds, H' D = some (.lst acc) ∧ DzAll K (fun _ => False) H' acc ds ∧ (∀ d ∈ ds, MvOk d) ∧ ds.length = i ∧ FrN a H H' ∧ Pot a u0 p1 u2 H' ∧ u2 ≤ r2 + 3 * i ∧ SysH H' ∧ Tabs [(pT, LQ)] H')
      ⟨r0, r2, [], [], upd_same, .nil, (fun d hd => by cases hd), rfl, f0.same s0, hpA.same s0, by omega, (sys_fr hS hp frA).same s0, (tabs_fr hTb hp frA).ext s0⟩ ?_ ?_
    · rintro i H' hi ⟨u0, u2, acc, ds, eD, hz, hm, hl, hf, hpo, hu, hs, ht⟩
      have hi8 : i < 8 := by omega
      refine ⟨rfl, ?_⟩
      refine ⟨_, rfl, a, u0, p1, u2, rfl, hpo, by omega, fun y v0 v2 HB hy hv2 frB hpB => ?_⟩
      obtain ⟨d, hd, zy⟩ := hy
      have eB := frB _ _ hDa eD
      have hlen := dzs_len hz
      have hzB := dzs_hold (Hold.fr (S := fun _ => False) frB (fun _ z => z.elim) hpo.1) _ _ hz
      refine ⟨acc, eB, (by rw [sizeLine_eq]; omega), v0, v2, acc ++ [y], ds ++ [d], upd_same, dzs_hold (Hold.upd (S := fun _ => False) eB (fun _ z => z.elim)) _ _ (dzs_app hzB (.cons (zy _) .nil)), fun x hx => ?_, (by rw [List.length_append, hl]; rfl), fun b o n e z => up n e (hf.fr frB b o n e z), ⟨by rw [upd_ne hDa.symm]; exact hpB.1, hpB.2⟩, by omega, sys_upd (sys_fr hs hpo frB) eB, tabs_upd (tabs_fr ht hpo frB) eB⟩
      rcases List.mem_append.mp hx with hx | hx
      · exact hm x hx
      · rw [List.mem_singleton.mp hx]
        exact hd
    rintro H' ⟨u0, u2, acc, ds, eD, hz, hm, hl, hf, hpo, hu, hs, ht⟩
    exact ⟨_, _, rfl, last2 ds acc D u0 u2 H' hm (by omega) eD hDa (dzs_hold (Hold.any fun b o _ _ e => e) _ _ hz) hf hpo (by omega) hs ht⟩
end
end K6

/-! text PY -/
set_option Elab.async false
set_option linter.all false
set_option maxRecDepth 100000
set_option maxHeartbeats 1000000
namespace K6
open PySem PySem.Spec PyProof.Rows L2 LamX
abbrev sLaw : Stmt := top 36
abbrev NL : List Str := ["_law_script", "_law_k", "_law_pot_here", "_law_turn"]
structure LwN (mg : Str → Option Value) : Prop where
  len : mg "len" = none
  max : mg "max" = none
  min : mg "min" = none
  range : mg "range" = none
  all : mg "all" = none
theorem seq_ext {K : PySem.W.Frag} {H H' : Hp} {a : Addr} {xs : List V} (k : ExtN H H') (h : SqL K H a xs) : SqL K H' a xs := by
  rcases h with h | h
  · exact .inl (by
      rcases h with h | ⟨o, h⟩
      · exact .inl (k _ _ h (fun _ z => by cases z))
      · exact .inr ⟨o, k _ _ h (fun _ z => by cases z)⟩)
  · exact .inr h
section
variable {P : Program} {w : World} {K : PySem.W.Frag} {mg : Str → Option Value} {base : Heap} {pT : Addr}
theorem scLaw : FnScope NL ["_law_script"] (defScope sLaw) := ⟨rfl, rfl, rfl, by decide +kernel, rfl, by decide +kernel, by decide +kernel⟩
def spLaw (K : PySem.W.Frag) (pT : Addr) : Sp := fun vs H Q _ => ∃ (a : Addr) (ns : List Int), vs = [.ref a] ∧ SqL K H a (ns.map V.int) ∧ ns.length ≤ 63 ∧ SysH H ∧ Tabs [(pT, LQ)] H ∧ ∀ H', Q (.bl true) H'
def FnGAt (P : Program) (w : World) (K : PySem.W.Frag) (mg : Str → Option Value) (base : Heap) (k : Nat) (x : Str) (ps : List Str) (sp : Sp) : Prop := ∃ f fd, mg x = some (.ref f) ∧ PySem.W.keepIn K (.ref f) = true ∧ Binds K fd ps [] ∧ FnG P w K mg base CX0 k f fd ps sp
theorem ok_law {j : Nat} {f : Addr} {fd : FuncData} (F : Fun K "law" "law" sLaw f fd) (T : LwN mg) (hj : 1 ≤ j) (RP : FnAt P w K mg base CX0 1 "_law_pot" ["_law_script", "_law_k"] (spPot K)) (RR : FnGAt P w K mg base j "_law_right" ["_law_pot_here"] (spRight pT)) : FnG P w K mg base CX0 (j + 1) f fd ["_law_script"] (spLaw K pT) := by
  refine okG F scLaw (fun h => ?_) (fun {cdv A os st H vs Q E} hG hr h => ?_)
  · obtain ⟨a, ns, rfl, _⟩ := h
    rfl
  · obtain ⟨a, ns, rfl, ha, hn, hS, hT, q⟩ := h
    obtain ⟨f1, d1, m1, k1, b1, G1⟩ := RP
    obtain ⟨f2, d2, m2, k2, b2, G2⟩ := RR
    have hr1 : Room 1 _ := hr.mono hj
    refine ⟨_, pss_cons (ps_for PassesOwn.never rfl (pi_range1 rfl T.range (pa_cons (pe_callB (call_max2 rfl) (by rfl) T.max (by decide +kernel) (pa_cons pe_int (pa_cons (pe_callB (call_min2 rfl) (by rfl) T.min (by decide +kernel) (pa_cons pe_int (pa_cons (pe_callB call_len_seq (by rfl) T.len PySem.boot_len (pa_cons (pv 0) pa_nil)) pa_nil))) pa_nil))) pa_nil)) (pg_name (i := 1) scLaw.nd rfl (Or.inl rfl))
        (pss_cons (ps_set (i := 2) scLaw.nd rfl (Or.inr rfl) (pe_call G1 hr1 rfl m1 k1 b1 .nil pass0 (pa_cons (pv 0) (pa_cons (pv 1) pa_nil))))
        (pss_one (ps_if (pt_not (pt_val (pe_callB (cr_all rfl) (by rfl) T.all (by decide +kernel) (pa_cons (pe_lc (own := [("_law_turn", 3)]) (g := gName 3) (tt := tYes) rfl scLaw.nd (pi_range1 rfl T.range (pa_cons pe_int pa_nil)) (blkOk_by (own := [("_law_turn", 3)]) (N := NL) (sc := defScope sLaw) (by decide +kernel)) (fun _ _ _ _ _ => pg_name (i := 3) scLaw.nd rfl (Or.inl rfl)) (fun _ _ _ _ _ => pts_nil)
            (fun _ _ _ _ _ => by exact pe_callG hG G2 hr rfl m2 k2 b2 .nil pass0 (pa_cons (pv 2) pa_nil))) pa_nil)))) (pss_one (ps_ret pe_bl)) pss_nil))))
      (pss_one (ps_ret pe_bl)), ?_⟩
    refine ⟨_, rfl, a, _, rfl, .inl ha, _, _, rfl, _, _, rfl, ?_⟩
    have bnd : ∀ z : Int, -2 ^ 62 ≤ (if (if z < 3 then z else 3) > 1 then (if z < 3 then z else 3) else 1) ∧ (if (if z < 3 then z else 3) > 1 then (if z < 3 then z else 3) else 1) ≤ 3 := fun z => by
      constructor <;> split <;> split <;> omega
    refine ⟨_, rfl, ?_, ?_, ?_⟩
    · exact (bnd _).1
    · exact Int.lt_of_le_of_lt (bnd _).2 (by decide)
    have b3 := (bnd ((ns.map V.int).length : Int)).2
    refine for_range (lo := 0) (n := _) (fun i σ H' => (∃ x y, σ = [some (.ref a), x, y, none]) ∧ ExtN H H' ∧ SysH H' ∧ Tabs [(pT, LQ)] H') ⟨⟨_, _, rfl⟩, ExtN.refl H, hS, hT⟩ ?_ ?_
    · rintro i σ H' hi ⟨⟨x, y, rfl⟩, s1, hS1, hT1⟩
      have hi2 : i ≤ 2 := by
        have z : (i : Int) < _ := Int.lt_toNat.mp hi
        omega
      refine ⟨_, rfl, _, rfl, a, i, ns, ?_, seq_ext s1 ha, hi2, fun p p0 p1 H2 hp s2 hpot => ?_⟩
      · rw [Int.zero_add]
        rfl
      refine ⟨15, rfl, by decide, by decide, fun D hD => ?_⟩
      have hDp : D ≠ p := hpot.ne hD
      have sD := Same.new (o := .lst []) hD
      refine lc_range (lo := 0) (n := _) (fun i H3 => ∃ r0 r2, FrN p H2 H3 ∧ Pot p r0 p1 r2 H3 ∧ r2 ≤ 31 * i ∧ SysH H3 ∧ Tabs [(pT, LQ)] H3 ∧ H3 D = some (.lst ((List.replicate i true).map V.bl))) ⟨p0, 0, fun b o hb e _ => sD b o e, hpot.same sD, by omega, (hS1.same s2).same sD, (hT1.ext s2).ext sD, upd_same⟩ ?_ ?_
      · rintro i H3 hi3 ⟨r0, r2, fr3, hp3, hr2', hS3, hT3, hacc⟩
        have hi4 : i < 15 := hi3
        refine ⟨rfl, ?_⟩
        refine ⟨_, rfl, p, r0, p1, r2, rfl, hp3, by omega, hS3, hT3, fun t0 t2 H4 ht2 fr4 hp4 hS4 hT4 => ?_⟩
        have eD := fr4 D _ hDp hacc (fun _ z => by cases z)
        refine ⟨_, eD, (by rw [List.length_map, List.length_replicate, sizeLine_eq]; omega), t0, t2, fun b o hb e z => ?_, ⟨by rw [upd_ne hDp.symm]; exact hp4.1, hp4.2⟩, by omega, sys_upd hS4 eD, tabs_upd hT4 eD, ?_⟩
        · rw [upd_ne (ne_of_none e hD)]
          exact fr4 b o hb (fr3 b o hb e z) z
        · rw [upd_same, List.replicate_succ', List.map_append]
          rfl
      rintro H3 ⟨r0, r2, fr3, hp3, _, hS3, hT3, hacc⟩
      refine ⟨D, List.replicate 15 true, rfl, SqL.of hacc, ?_⟩
      refine ⟨true, rfl, ?_⟩
      exact ⟨⟨_, _, rfl⟩, fun b o e z => fr3 b o (ne_of_none (s1 b o e z) hp) (s2 b o (s1 b o e z)) z, hS3, hT3⟩
    · rintro σ H' _
      exact q H'
end
end K6

/-! text PZ -/
set_option Elab.async false
set_option linter.all false
set_option maxRecDepth 100000
set_option maxHeartbeats 4000000
namespace K6
open PySem PySem.Spec PyProof.Rows L2 LamX
/-- the head of a law whose defs make lambdas and call repr: the tables cs are tracked, and so is the dict of the loaded modules -/
theorem headTG {P : Program} {w : World} {K : PySem.W.Frag} {mg mb mm : Str → Option Value} {CX : CXT} {k : Nat} {fa a : Addr} {cs : List (Addr × Addr)} {fd : FuncData} {x : Str} {sp : Sp} {st : Shared} {us : List Value} {ns : List Int}
    (hK : K.In st.heap) (hm : st.heap.Ns mainGlobals mg) (hB : st.heap.Ns builtinsNs mb) (hbb : ∀ y : Str, y ≠ "__name__" → mb y = bootBuiltins y) (nl : st.heap.NoLimit) (hgen : st.gens = #[])
    (hM : st.heap.Ns sysModules mm) (nM : K.lookup sysModules = none)
    (hT : ∀ p ∈ cs, st.heap.get? p.2 = some { cls := .none, data := .fields #[] }) (nT : ∀ p ∈ cs, K.lookup p.2 = none) (C : ∀ p ∈ cs, PySem.W.CodeHd st.heap p.1 p.2)
    (hbm : ∃ (bm : Addr) (ob : Obj), mg "__builtins__" = some (.ref bm) ∧ bm ≠ builtinsNs ∧ st.heap.get? bm = some ob ∧ ob.cls = .type "module" ∧ ob.dict = some builtinsNs ∧ ob.data = .plain)
    (ho : st.heap.get? a = some { cls := .type "list", data := .seq us.toArray }) (hi : IntsAre us ns) (hz : ns.length ≤ sizeLine) (hr : Room k callerA)
    (F : ∀ b : Heap, K.In b → b.Ns mainGlobals mg → (∀ p ∈ cs, TabB b mg p.1 p.2) → FnG P w K mg b CX k fa fd [x] sp) (bind : ∀ (s : Shared) (u : Value), BindsTo s fd ⟨[u], []⟩ [(x, u)])
    (hs : ∀ H : Hp, (∀ p ∈ cs, H p.2 = some (.tbl #[])) → SysH H → SqL K H a (ns.map V.int) → sp [.ref a] H (fun v _ => v = .bl true) fun _ _ _ => False)
    (hC : ∀ H e s2, CX [] H st (fun _ _ _ => False) e s2 → False) :
    codeAny (model P w) callerA (.call (.ref fa) ⟨[.ref a], []⟩) (fun r s2 => r = .ok (.ret (.bool true)) ∧ OldK st.heap s2.heap ∧ s2.os = st.os ∧ AllBare s2.gens) st := by
  have rv := vals_ints hi
  have hL := hi.length
  obtain ⟨oM, esM, epM, eM, dM, rM⟩ := hM
  have isT : ∀ b : Addr, b ∈ cs.map (·.2) → st.heap.get? b = some { cls := .none, data := .fields #[] } := fun b hb => by
    obtain ⟨p, hp, e⟩ := List.mem_map.mp hb
    rw [← e]
    exact hT p hp
  have memT : ∀ p ∈ cs, p.2 ∈ cs.map (·.2) := fun p hp => List.mem_map.mpr ⟨p, hp, rfl⟩
  have aT : a ∉ cs.map (·.2) := fun z => by
    have q := isT a z
    rw [ho] at q
    have z' : Data.seq us.toArray _ = Data.fields #[] := congrArg Obj.data (Option.some.inj q)
    cases z'
  have mT : sysModules ∉ cs.map (·.2) := fun z => by
    have q := isT _ z
    rw [eM] at q
    rw [Option.some.inj q] at dM
    cases dM
  have ma : sysModules ≠ a := fun z => by
    rw [z, ho] at eM
    rw [← Option.some.inj eM] at dM
    cases dM
  have notM : ∀ {b : Addr} {o : Obj}, st.heap.get? b = some o → (∀ es ep, o.data ≠ .dict es ep) → b ≠ sysModules := fun {b o} e n z => by
    rw [z, eM] at e
    exact n _ _ (by rw [← Option.some.inj e]; exact dM)
  have main : ∀ H : Hp, (∀ p ∈ cs, H p.2 = some (.tbl #[])) → SysH H → (∀ b, H b = none ∨ b ∈ cs.map (·.2) ∨ ∃ o u, H b = some (.frz o u)) → SqL K H a (ns.map V.int) → HOk P w H st.heap → (∀ b, H b ≠ none → b = a ∨ b = sysModules ∨ b ∈ cs.map (·.2)) → (H a ≠ none → K.lookup a = none) →
      codeAny (model P w) callerA (.call (.ref fa) ⟨[.ref a], []⟩) (fun r s2 => r = .ok (.ret (.bool true)) ∧ OldK st.heap s2.heap ∧ s2.os = st.os ∧ AllBare s2.gens) st := fun H hH hY hO hS hok hA hKa => by
    have free : ∀ {b : Addr} {o : Obj}, st.heap.get? b = some o → b ≠ sysModules → (∀ vs n, o.data ≠ .seq vs n) → o.data ≠ .fields #[] → H b = none := fun {b o} e h0 h1 h2 => Classical.byContradiction fun n => by
      rcases hA b n with z | z | z
      · rw [z, ho] at e
        cases e
        exact h1 _ _ rfl
      · exact h0 z
      · rw [isT b z] at e
        cases e
        exact h2 rfl
    have keepN : ∀ {b : Addr} {m : Str → Option Value}, b ≠ sysModules → st.heap.Ns b m → (hidT st.heap H).Ns b m := fun {b m} n ⟨o, es, ep, e, d, r⟩ => ⟨o, es, ep, hidT_get e (free e n (fun vs n z => by rw [d] at z; cases z) fun z => by rw [d] at z; cases z), d, r⟩
    have kin : K.In (hidT st.heap H) := fun b o e => hidT_get (hK b o e) (Classical.byContradiction fun n => by
      rcases hA b n with z | z | z
      · rw [z] at e n
        rw [hKa n] at e
        cases e
      · rw [z, nM] at e
        cases e
      · obtain ⟨p, hp, ep⟩ := List.mem_map.mp z
        rw [← ep, nT p hp] at e
        cases e)
    have nl2 : (hidT st.heap H).NoLimit := by
      obtain ⟨mc, h1, h2⟩ := nl
      exact ⟨mc, keepN (by decide) h1, h2⟩
    have TB : ∀ p ∈ cs, TabB (hidT st.heap H) mg p.1 p.2 := fun p hp => by
      have hTp := hT p hp
      refine ⟨?_, ?_, fun z => ?_⟩
      · obtain ⟨o, us, file, tf, flags, tg, inF, text, tt, e1, r1, r2, r3, r4, r5, r6, r7, r8, hne⟩ := C p hp
        refine ⟨o, us, file, tf, flags, tg, inF, text, tt, hidT_get e1 (free e1 (notM e1 fun es ep z => ?_) (fun vs n z => ?_) fun z => ?_), r1, r2, r3, r4, r5, r6, r7, r8, hne⟩
        · rw [r2] at z
          cases z
        · rw [r2] at z
          cases z
        · rw [r2] at z
          cases z
          simp at r3
      · obtain ⟨bm, ob, b1, b2, b3, b4, b5, b6⟩ := hbm
        have nG : bm ≠ mainGlobals := fun q => by
          obtain ⟨o, es, ep, e, hd, _⟩ := hm
          rw [q, e] at b3
          cases b3
          rw [hd] at b6
          cases b6
        have nP : bm ≠ p.2 := fun q => by
          rw [q, hTp] at b3
          cases b3
          cases b6
        refine ⟨bm, ob, b1, b2, nG, nP, hidT_get b3 (free b3 (notM b3 fun es ep z => ?_) (fun vs n z => ?_) fun z => ?_), b4, b5, b6⟩
        · rw [b6] at z
          cases z
        · rw [b6] at z
          cases z
        · rw [b6] at z
          cases z
      · obtain ⟨o, es, ep, e, hd, _⟩ := hm
        rw [z, hTp] at e
        cases e
        cases hd
    have e0 : Env0 P w K mg (hidT st.heap H) callerA [] st H := { frames := rfl, mod := ⟨kin, keepN (by decide) hm, ⟨mb, keepN (by decide) hB, hbb⟩, nl2⟩, bs := fun b o e => of_hidT e, bsz := Nat.le_of_eq (hidT_size _ _), funs := trivial, frf := (fun b hb => by cases hb), hok := hok, bare := .of_eq hgen }
    refine codeAny_mono ((F _ kin (keepN (by decide) hm) TB).go (ar := ⟨[.ref a], []⟩) (us := [.ref a]) (vs := [.ref a]) rfl hr e0 (bind st (.ref a)) (.cons rfl .nil) (hs H hH hY hS)) fun r s2 h => ?_
    match r, h with
    | .error e, h => exact (hC H e s2 h).elim
    | .ok (.ret u), ⟨v, H2, os, bare, un, hok2, rl, q⟩ =>
      have q : v = .bl true := q
      subst q
      have eu : u = Value.bool true := rl
      subst eu
      have key : ∀ b o, b ∉ cs.map (·.2) → st.heap.get? b = some o → s2.heap.get? b = some o := fun b o nb e => by
        rcases hO b with z | z | ⟨ob, u, z⟩
        · exact un.keep b o e z (by intro z; cases z) (by simp)
        · exact absurd z nb
        · have z2 := un.frzs b ob _ z
          obtain ⟨e1, _⟩ := hok b _ z
          obtain ⟨e2, _⟩ := hok2 b _ z2
          rw [e] at e1
          cases e1
          exact e2
      have grown : ∀ p ∈ cs, ∃ more : Array Value, s2.heap.get? p.2 = some { cls := .none, data := .fields more } := fun p hp => by
        obtain ⟨more, z⟩ := un.tbls p.2 #[] (hH p hp)
        exact ⟨_, hok2 p.2 _ z⟩
      refine ⟨rfl, ⟨fun b o e => ?_, fun b o e => ?_⟩, os, bare⟩
      · by_cases hb : b ∈ cs.map (·.2)
        · obtain ⟨p, hp, ep⟩ := List.mem_map.mp hb
          obtain ⟨more, hm⟩ := grown p hp
          rw [← ep] at e ⊢
          rw [hT p hp] at e
          cases e
          exact .inr (.inl ⟨((C p hp).tab (hT p hp)).isCodeTable, rfl, #[], more, rfl, by rw [Array.empty_append]; exact hm⟩)
        · exact .inl (key b o hb e)
      · by_cases hb : b ∈ cs.map (·.2)
        · obtain ⟨p, hp, ep⟩ := List.mem_map.mp hb
          obtain ⟨more, hm⟩ := grown p hp
          rw [← ep]
          exact ⟨_, hm⟩
        · exact ⟨o, key b o hb e⟩
  -- the heap with the tables and the modules; the script besides, where it is not written
  let G : (Addr → Option HO) → Hp := fun f b => if b = sysModules then some (.frz oM (.ext fun _ => True)) else if b ∈ cs.map (·.2) then some (.tbl #[]) else f b
  have gM : ∀ f, G f sysModules = some (.frz oM (.ext fun _ => True)) := fun f => if_pos rfl
  have gT : ∀ f b, b ∈ cs.map (·.2) → G f b = some (.tbl #[]) := fun f b hb => (if_neg (show ¬ b = sysModules from fun z => mT (z ▸ hb))).trans (if_pos hb)
  have gO : ∀ f b, b ≠ sysModules → b ∉ cs.map (·.2) → G f b = f b := fun f b h1 h2 => (if_neg h1).trans (if_neg h2)
  have each : ∀ (f : Addr → Option HO), (∀ b, f b = none ∨ ∃ o u, f b = some (.frz o u)) → (∀ b u, f b = some u → b ∉ cs.map (·.2) → b ≠ sysModules → ObjOk P w (G f) st.heap b u) → (∀ b, f b ≠ none → b = a) → (f a ≠ none → K.lookup a = none) → SqL K (G f) a (ns.map V.int) → codeAny (model P w) callerA (.call (.ref fa) ⟨[.ref a], []⟩) (fun r s2 => r = .ok (.ret (.bool true)) ∧ OldK st.heap s2.heap ∧ s2.os = st.os ∧ AllBare s2.gens) st := by
    intro f hf hfo hfa hfK hS
    refine main (G f) (fun p hp => gT f _ (memT p hp)) ⟨oM, gM f⟩ (fun b => ?_) hS (fun b u z => ?_) (fun b z => ?_) (fun z => hfK ?_)
    · by_cases h1 : b = sysModules
      · exact .inr (.inr ⟨_, _, by rw [h1]; exact gM f⟩)
      · by_cases h2 : b ∈ cs.map (·.2)
        · exact .inr (.inl h2)
        · rw [gO f b h1 h2]
          rcases hf b with q | q
          · exact .inl q
          · exact .inr (.inr q)
    · by_cases h1 : b = sysModules
      · rw [h1, gM f] at z
        cases z
        rw [h1]
        exact ⟨eM, trivial, ⟨oM, eM⟩, fun _ _ _ _ => trivial⟩
      · by_cases h2 : b ∈ cs.map (·.2)
        · rw [gT f b h2] at z
          cases z
          exact isT b h2
        · rw [gO f b h1 h2] at z
          exact hfo b u z h2 h1
    · by_cases h1 : b = sysModules
      · exact .inr (.inl h1)
      · by_cases h2 : b ∈ cs.map (·.2)
        · exact .inr (.inr h2)
        · rw [gO f b h1 h2] at z
          exact .inl (hfa b z)
    · rw [gO f a ma.symm aT] at z
      exact z
  cases hk : K.lookup a with
  | some o =>
    have e := hK a o hk
    rw [ho] at e
    cases e
    exact each (fun _ => none) (fun _ => .inl rfl) (fun _ _ z => nomatch z) (fun _ z => absurd rfl z) (fun z => absurd rfl z) (.inr ⟨_, us.toArray, _, hk, rfl, rfl, rfl, by rw [List.size_toArray, hL]; exact hz, by simpa using rv⟩)
  | none =>
    refine each (fun b => if b = a then some (.frz { cls := .type "list", data := .seq us.toArray } (.lst (ns.map V.int))) else none) (fun b => ?_) (fun b u z _ _ => ?_) (fun b z => ?_) (fun _ => hk) (.inl (.inr ⟨{ cls := .type "list", data := .seq us.toArray }, (gO (fun b => if b = a then some (.frz { cls := .type "list", data := .seq us.toArray } (.lst (ns.map V.int))) else none) a ma.symm aT).trans (if_pos rfl)⟩))
    · by_cases hb : b = a
      · exact .inr ⟨_, _, if_pos hb⟩
      · exact .inl (if_neg hb)
    · by_cases hb : b = a
      · have z' := (if_pos hb).symm.trans z
        cases z'
        rw [hb]
        exact ⟨ho, by rw [List.length_map]; exact hz, us, _, rv, ho⟩
      · have z' := (if_neg hb).symm.trans z
        cases z'
    · by_cases hb : b = a
      · exact hb
      · exact absurd (if_neg hb) z
/-- what is known of the law's promise at the head's heap h -/
def LawAtG (l : PySem.W.OpenLaw) (w : World) (K : PySem.W.Frag) (CX : CXT) (k n : Nat) (x : Str) (mg : Str → Option Value) (fa : Addr) (h : Heap) : Prop :=
  ∃ (fd : FuncData) (cs : List (Addr × Addr)) (sp : Sp), (∀ p ∈ cs, h.get? p.2 = some { cls := .none, data := .fields #[] }) ∧ (∀ p ∈ cs, K.lookup p.2 = none) ∧ K.lookup sysModules = none ∧ (∀ p ∈ cs, PySem.W.CodeHd h p.1 p.2) ∧ (∀ (s : Shared) (u : Value), BindsTo s fd ⟨[u], []⟩ [(x, u)]) ∧
    (∀ (H : Hp) (a : Addr) (ns : List Int), ns.length ≤ n → (∀ p ∈ cs, H p.2 = some (.tbl #[])) → SysH H → SqL K H a (ns.map V.int) → sp [.ref a] H (fun v _ => v = .bl true) fun _ _ _ => False) ∧
    ∀ base : Heap, K.In base → base.Ns mainGlobals mg → (∀ p ∈ cs, TabB base mg p.1 p.2) → FnG l.prog w K mg base CX k fa fd [x] sp
theorem walkTG {l : PySem.W.OpenLaw} {n k : Nat} {q : Program} {loose : List Str} {XP : (Str → Option Value) → Heap → Prop} {YP : World → Heap → Prop} {d : DefRec} {K : Params → PySem.W.Frag} {CX : World → CXT} {x : Str}
    (hn : l.most = some n) (hn2 : n ≤ sizeLine) (hdf : d.params.defaults = []) (hr : Room k callerA) (hY : ∀ (w : World) (h : Heap), YP w h → (K w.params).In h) (hi : importsNone q = true)
    (F : ∀ (w : World) (mg : Str → Option Value) (fa : Addr) (h : Heap), YP w h → (K w.params).In h → h.Ns mainGlobals mg → mg d.name = some (.ref fa) → LawAtG l w (K w.params) (CX w) k n x mg fa h)
    (hC : ∀ (w : World) (H : Hp) (s : Shared) (e : Value) (s2 : Shared), CX w [] H s (fun _ _ _ => False) e s2 → False) : PySem.W.WalkO q loose XP YP l.row.toRowW d [] (fun f vs => PySem.call f vs) := by
  refine Att.attach_callB hn hdf fun w s₀ s₁ mg mb fa o pm cd doc a vs ns G Y ho hd hcd hmg hobj hints hlen hbits hg => ?_
  have KX := hY w _ Y
  obtain ⟨fd, cs, sp, hT, nT, nM, C, hb, hsp, hF⟩ := F w mg fa _ Y KX G.T.g hmg
  obtain ⟨mm, hM, _⟩ := (G.T.seer hi).mods
  exact headTG KX G.T.g G.T.b G.T.builtins G.T.nolimit hg hM nM hT nT C G.T.bmain hobj hints (Nat.le_trans hlen hn2) hr hF hb (fun H hH hS hq => hsp H a ns hlen hH hS hq) fun H e s' => hC w H s₁ e s'
end K6

/-! text PQ -/
set_option Elab.async false
set_option linter.all false
set_option maxRecDepth 100000
set_option maxHeartbeats 4000000
namespace K6
open PySem PySem.Spec PyProof.Rows L2 LamX
/-! ### what the top has written -/
structure FA (K : PySem.W.Frag) (x : Str) (st : Stmt) : Prop where
  ex : ∃ (f : Addr) (fd : FuncData), PySem.W.nsIn K mainGlobals x = some (some (.ref f)) ∧ Fun K x x st f fd
theorem fa_mk {K : PySem.W.Frag} {x : Str} {st : Stmt} {f : Addr} {oc : Value} {od an : Option Addr} {osl : Array (Option Value)} {kV doc pm cdv ct : Value} (a : PySem.W.nsIn K mainGlobals x = some (some (.ref f))) (l : K.lookup f = some ⟨oc, od, .func (PySem.W.fnOf x x (defArgs st) (defBody st) (defScope st) .none kV doc pm an cdv ct), osl⟩)
    (c : PySem.W.codeIn K cdv x = true) (k : PySem.W.keepIn K (.ref f) = true) : FA K x st := ⟨⟨f, _, a, fun_mk l c k⟩⟩
theorem exm_two {K : PySem.W.Frag} {S R : Addr} (h1 : PySem.W.subIn K (.ref R) (.type "BaseException") = some true) (h2 : PySem.W.isClsIn K R = true) (h3 : PySem.W.typeIn K (.ref R) = some (.type "type")) (h4 : PySem.W.subIn K (.ref S) (.ref R) = some true) :
    PySem.W.exmOne K (.ref S) (.ref R) = some true := by
  have e1 : (PySem.W.subIn K (.ref R) (.type "BaseException") == some true) = true := by rw [h1] <;> rfl
  have e2 : ((PySem.W.clsIn K R).isSome && PySem.W.typeIn K (.ref R) == some (.type "type")) = true := by
    have h2' : (PySem.W.clsIn K R).isSome = true := h2
    rw [h2', h3] <;> rfl
  show (if (PySem.W.subIn K (.ref R) (.type "BaseException") == some true) = true then (if ((PySem.W.clsIn K R).isSome && PySem.W.typeIn K (.ref R) == some (.type "type")) = true then PySem.W.subIn K (.ref S) (.ref R) else none) else none) = some true
  rw [if_pos e1, if_pos e2]
  exact h4
theorem kit_self {K : PySem.W.Frag} {S : Addr} : PySem.W.kitOne K (.ref S) (.ref S) = some true := by
  unfold PySem.W.kitOne
  rw [if_pos (beq_iff_eq.mpr rfl)]
theorem isD2_mk {K : PySem.W.Frag} {C : Addr} {gt : Option Value} (c1 : PySem.W.isClsIn K C = true) (c2 : PySem.W.findIn K (.ref C) "__getattribute__" = some (some (.builtin "BaseException.__getattribute__"))) (c3 : PySem.W.findIn K (.ref C) "__getattr__" = some gt) (c4 : PySem.W.subIn K (.ref C) (.type "BaseException") = some true)
    (c5 : PySem.W.findIn K (.ref C) "__class__" = some (some (.builtin "object.__class__"))) (c6 : PySem.W.specialIn K (.builtin "object.__class__") "__get__" = some (some (.builtin "getset_descriptor.__get__"))) (c7 : PySem.W.takesIn K (.builtin "object.__class__") = some true) (c8 : PySem.W.mroIn K C (.type "object") = some true) : IsD2 K C := ⟨c1, c2, ⟨_, c3⟩, c4, c5, c6, c7, c8⟩
theorem xf_mk {K : PySem.W.Frag} {C : Addr} (c1 : PySem.W.findIn K (.ref C) "__getattribute__" = some (some (.builtin "BaseException.__getattribute__"))) (c2 : PySem.W.findIn K (.ref C) "__getattr__" = some none) (c3 : PySem.W.subIn K (.ref C) (.type "BaseException") = some true) (c4 : PySem.W.hasDictIn K C = true) : XfC K C := ⟨c1, c2, c3, c4⟩
structure FAc (K : PySem.W.Frag) (x : Str) (st : Stmt) (c : Addr) : Prop where
  ex : ∃ (f : Addr) (fd : FuncData), PySem.W.nsIn K mainGlobals x = some (some (.ref f)) ∧ FunC K x x st f fd c
theorem fac_mk {K : PySem.W.Frag} {x : Str} {st : Stmt} {f c : Addr} {oc : Value} {od an : Option Addr} {osl : Array (Option Value)} {kV doc pm ct : Value} (a : PySem.W.nsIn K mainGlobals x = some (some (.ref f))) (l : K.lookup f = some ⟨oc, od, .func (PySem.W.fnOf x x (defArgs st) (defBody st) (defScope st) .none kV doc pm an (.ref c) ct), osl⟩)
    (cd : PySem.W.codeIn K (.ref c) x = true) (k : PySem.W.keepIn K (.ref f) = true) : FAc K x st c := ⟨⟨f, _, a, ⟨⟨_, _, _, _, _, _, _, _, rfl, l, cd⟩, k⟩⟩⟩
structure Facts (K : PySem.W.Frag) (CB CL c : Addr) : Prop where
  gCB : PySem.W.nsIn K mainGlobals "BadStory" = some (some (.ref CB))
  gCL : PySem.W.nsIn K mainGlobals "LateError" = some (some (.ref CL))
  fpot : FA K "_law_pot" sPot
  ftake : FA K "_law_take" sTake
  fof : FA K "_law_of" sOf
  fname : FA K "_law_name" sName
  fnum : FA K "_law_number" sNum
  fmove : FA K "_law_move" sMove
  fnone : FA K "_law_none" sNone
  fwr : FA K "_law_written" sWr
  fheard : FA K "_law_heard" sHeard
  fright : FAc K "_law_right" sRight c
  flaw : FA K "law" sLaw
  zlen : PySem.W.nsIn K mainGlobals "len" = some none
  zall : PySem.W.nsIn K mainGlobals "all" = some none
  zint : PySem.W.nsIn K mainGlobals "int" = some none
  zabs : PySem.W.nsIn K mainGlobals "abs" = some none
  zmax : PySem.W.nsIn K mainGlobals "max" = some none
  zmin : PySem.W.nsIn K mainGlobals "min" = some none
  zrange : PySem.W.nsIn K mainGlobals "range" = some none
  ztuple : PySem.W.nsIn K mainGlobals "tuple" = some none
  zrepr : PySem.W.nsIn K mainGlobals "repr" = some none
  zstr : PySem.W.nsIn K mainGlobals "str" = some none
  zisi : PySem.W.nsIn K mainGlobals "isinstance" = some none
  zval : PySem.W.nsIn K mainGlobals "ValueError" = some none
  isD : IsD2 K CB
  xf : XfC K CB
  noL : PySem.W.findIn K (.ref CB) "number" = some none
  ex : PySem.W.exmOne K (.ref CB) (.ref CL) = some true
  k1 : PySem.W.kitOne K (.ref CB) (.ref CB) = some true
  k2 : PySem.W.kitOne K (.ref CB) (.type "ValueError") = some true
section
variable {P : Program} {w : World} {K : PySem.W.Frag} {mg : Str → Option Value} {base : Heap} {CB CL c pT : Addr}
theorem fnAt {CX : CXT} {k : Nat} {x : Str} {st : Stmt} {ps : List Str} {sp : Sp} {h : Heap} (X : K.In h) (G : h.Ns mainGlobals mg) (A : FA K x st) (hb : ∀ f fd, Fun K x x st f fd → Binds K fd ps []) (ok : ∀ f fd, Fun K x x st f fd → FnOk P w K mg base CX k f fd ps sp) : FnAt P w K mg base CX k x ps sp := by
  obtain ⟨f, fd, a, F⟩ := A.ex
  exact ⟨f, fd, PySem.W.mg_of X G a, F.kp, hb f fd F, ok f fd F⟩
/-- a def of one parameter that is called by position and by its name -/
def FnKAt (P : Program) (w : World) (K : PySem.W.Frag) (mg : Str → Option Value) (base : Heap) (CX : CXT) (k : Nat) (x p : Str) (sp : Sp) : Prop := ∃ f fd, mg x = some (.ref f) ∧ PySem.W.keepIn K (.ref f) = true ∧ Binds K fd [p] [] ∧ KBinds K fd [p] [p] (fun us ws => us ++ ws) (fun us ws => us ++ ws) ∧ FnOk P w K mg base CX k f fd [p] sp
/-- the law, from what the program's writer and reader promise -/
theorem all_of {j : Nat} (hj : 4 ≤ j) {h : Heap} {fa : Addr} (X : K.In h) (G : h.Ns mainGlobals mg) (A : Facts K CB CL c)
    (RS : ∀ base : Heap, K.In base → base.Ns mainGlobals mg → FnKAt P w K mg base (L2.CX P w) j "show_story" "story" (spShow K CB))
    (RR : ∀ base : Heap, K.In base → base.Ns mainGlobals mg → FnKAt P w K mg base CX0 j "read_story" "text" (spRead K)) (hfa : mg "law" = some (.ref fa)) :
    ∃ fd : FuncData, (∀ (s : Shared) (v : Value), BindsTo s fd ⟨[v], []⟩ [("_law_script", v)]) ∧ ∀ base : Heap, K.In base → base.Ns mainGlobals mg → TabB base mg c pT → FnG P w K mg base CX0 (j + 4) fa fd ["_law_script"] (spLaw K pT) := by
  obtain ⟨fl, fdl, al, FL⟩ := A.flaw.ex
  have e := hfa.symm.trans (PySem.W.mg_of X G al)
  cases e
  refine ⟨fdl, fun s v => ?_, fun base hk hn hTB => ?_⟩
  · obtain ⟨oc, od, kV, doc, pm, an, cdv, ct, osl, rfl, _⟩ := FL.ex
    exact .of_eq rfl
  have mn : ∀ {x : Str}, PySem.W.nsIn K mainGlobals x = some none → mg x = none := fun z => PySem.W.mg_none_of X G z
  have rTake : FnAt P w K mg base CX0 1 "_law_take" ["_law_pot_here", "_law_upto"] spTake := fnAt X G A.ftake (fun _ _ F => F.binds (ps := ["_law_pot_here", "_law_upto"]) fun _ _ _ _ _ _ us hl => match us, hl with | [_, _], _ => rfl) fun _ _ F => ok_take F (mn A.zint)
  have rOf : FnAt P w K mg base CX0 2 "_law_of" ["_law_pot_here", "_law_some"] spOf := fnAt X G A.fof (fun _ _ F => F.binds (ps := ["_law_pot_here", "_law_some"]) fun _ _ _ _ _ _ us hl => match us, hl with | [_, _], _ => rfl) fun _ _ F => ok_of F (mn A.zlen) rTake
  have rPot : FnAt P w K mg base CX0 1 "_law_pot" ["_law_script", "_law_k"] (spPot K) := fnAt X G A.fpot (fun _ _ F => F.binds (ps := ["_law_script", "_law_k"]) fun _ _ _ _ _ _ us hl => match us, hl with | [_, _], _ => rfl) fun _ _ F => ok_pot F (mn A.zlen) (mn A.zint) (mn A.zabs)
  have rName : FnAt P w K mg base CX0 3 "_law_name" ["_law_pot_here"] spName := fnAt X G A.fname (fun _ _ F => F.binds (ps := ["_law_pot_here"]) fun _ _ _ _ _ _ us hl => match us, hl with | [_], _ => rfl) fun _ _ F => ok_name F rOf
  have rNum : FnAt P w K mg base CX0 3 "_law_number" ["_law_pot_here"] spNum := fnAt X G A.fnum (fun _ _ F => F.binds (ps := ["_law_pot_here"]) fun _ _ _ _ _ _ us hl => match us, hl with | [_], _ => rfl) fun _ _ F => ok_num F rOf
  have rMove : FnAt P w K mg base CX0 4 "_law_move" ["_law_pot_here"] (spMove K) := fnAt X G A.fmove (fun _ _ F => F.binds (ps := ["_law_pot_here"]) fun _ _ _ _ _ _ us hl => match us, hl with | [_], _ => rfl) fun _ _ F => ok_move F rOf rName rNum
  have rNone : FnAt P w K mg base CX0 3 "_law_none" ["_law_pot_here"] (spNone K) := fnAt X G A.fnone (fun _ _ F => F.binds (ps := ["_law_pot_here"]) fun _ _ _ _ _ _ us hl => match us, hl with | [_], _ => rfl) fun _ _ F => ok_none F rOf
  have rWr : FnAt P w K mg base CX0 1 "_law_written" ["_law_move_here"] (spWr K) := fnAt X G A.fwr (fun _ _ F => F.binds (ps := ["_law_move_here"]) fun _ _ _ _ _ _ us hl => match us, hl with | [_], _ => rfl) fun _ _ F => ok_wr F ⟨mn A.zstr⟩
  have HN : HdN K mg CB CL := ⟨PySem.W.mg_of X G A.gCL, PySem.W.mg_of X G A.gCB, mn A.zisi, mn A.zval, A.ex, A.k1, A.k2, A.isD, A.xf, A.noL⟩
  obtain ⟨fS, dS, mS, kS, bS, bSk, GS⟩ := RS base hk hn
  obtain ⟨fR, dR, mR, kR, bR, bRk, GR⟩ := RR base hk hn
  obtain ⟨fH, dH, aH, FH⟩ := A.fheard.ex
  have rRight : FnGAt P w K mg base (j + 3) "_law_right" ["_law_pot_here"] (spRight pT) := by
    obtain ⟨f, fd, a, F⟩ := A.fright.ex
    refine ⟨f, fd, PySem.W.mg_of X G a, F.kp, ?_, ok_right hj F ⟨mn A.zrange, mn A.zlen, mn A.ztuple, mn A.zrepr⟩ HN hTB rTake rOf rMove rNone rWr FH (PySem.W.mg_of X G aH) (FH.binds (ps := ["_law_call"]) fun _ _ _ _ _ _ us hl => match us, hl with | [_], _ => rfl) mS kS bS bSk GS mR kR bR bRk GR⟩
    obtain ⟨oc, od, kV, doc, pm, an, ct, osl, rfl, lk, cd⟩ := F.ex
    exact (fun_mk lk cd F.kp).binds (ps := ["_law_pot_here"]) fun _ _ _ _ _ _ us hl => match us, hl with | [_], _ => rfl
  exact ok_law FL ⟨mn A.zlen, mn A.zmax, mn A.zmin, mn A.zrange, mn A.zall⟩ (by omega) rPot rRight
theorem lawAt_of {l : PySem.W.OpenLaw} {j : Nat} (hj : 4 ≤ j) {h : Heap} {fa : Addr} (X : K.In h) (G : h.Ns mainGlobals mg) (A : Facts K CB CL c)
    (RS : ∀ base : Heap, K.In base → base.Ns mainGlobals mg → FnKAt l.prog w K mg base (L2.CX l.prog w) j "show_story" "story" (spShow K CB))
    (RR : ∀ base : Heap, K.In base → base.Ns mainGlobals mg → FnKAt l.prog w K mg base CX0 j "read_story" "text" (spRead K)) (hfa : mg "law" = some (.ref fa))
    (hT : ∀ p ∈ [pT], h.get? p = some (PySem.W.tabObj #[])) (nT : K.lookup pT = none) (nM : K.lookup sysModules = none) (C : PySem.W.codeHdIn K c pT = true) : LawAtG l w K CX0 (j + 4) 63 "_law_script" mg fa h := by
  obtain ⟨fd, hb, hF⟩ := all_of (pT := pT) hj X G A RS RR hfa
  refine ⟨fd, [(c, pT)], spLaw K pT, fun p hp => ?_, fun p hp => ?_, nM, fun p hp => ?_, hb, fun H a ns hl hH hS hq => ⟨a, ns, rfl, hq, hl, hS, fun p hp => ?_, fun _ => rfl⟩, fun base hk hn hTB => hF base hk hn (hTB (c, pT) (List.mem_singleton.mpr rfl))⟩
  · rw [List.mem_singleton.mp hp]
    exact hT pT (List.mem_singleton.mpr rfl)
  · rw [List.mem_singleton.mp hp]
    exact nT
  · rw [List.mem_singleton.mp hp]
    exact PySem.W.codeHd_of_K X C
  · rw [List.mem_singleton.mp hp]
    exact LamX.TabS.nil (hH (c, pT) (List.mem_singleton.mpr rfl))
end
end K6

/-! text PD8 -/
set_option Elab.async false
set_option linter.all false
set_option maxRecDepth 100000
set_option maxHeartbeats 1000000
namespace K6
open PySem PySem.Spec PyProof.Rows L2
theorem FnOk.quiet {P : Program} {w : World} {K : PySem.W.Frag} {mg : Str → Option Value} {base : Heap} {k : Nat} {f : Addr} {fd : FuncData} {ps : List Str} {sp sp' : Sp} (F : FnOk P w K mg base (L2.CX P w) k f fd ps sp) (h : ∀ vs H Q E, sp' vs H Q E → sp vs H Q E0) : FnOk P w K mg base CX0 k f fd ps sp' := by
  refine ⟨fun vs H Q E z => F.len _ _ _ _ (h _ _ _ _ z), fun A os s H ar us vs Q E a b c d e => codeAny_mono (F.run A os s H ar us vs Q E0 a b c d (h _ _ _ _ e)) fun r s2 z => ?_⟩
  match r, z with
  | .error y, z =>
    obtain ⟨_, _, _, _, _, _, _, _, _, _, _, _, z⟩ := z
    exact z.elim
  | .ok (.ret u), z => exact z
theorem kbinds1 {K : PySem.W.Frag} {x p : Str} {st : Stmt} {f : Addr} {fd : FuncData} (F : Fun K x x st f fd)
    (h : ∀ (kV doc pm : Value) (an : Option Addr) (cdv ct : Value) (u : Value), bindArgs (PySem.W.fnOf x x (defArgs st) (defBody st) (defScope st) .none kV doc pm an cdv ct) ⟨[u], []⟩ = pure ([p].zip [u]))
    (h' : ∀ (kV doc pm : Value) (an : Option Addr) (cdv ct : Value) (u : Value), bindArgs (PySem.W.fnOf x x (defArgs st) (defBody st) (defScope st) .none kV doc pm an cdv ct) ⟨[], [(p, u)]⟩ = pure ([p].zip [u])) : KBinds K fd [p] [p] (fun us ws => us ++ ws) (fun us ws => us ++ ws) := by
  obtain ⟨oc, od, kV, doc, pm, an, cdv, ct, osl, rfl, lk, hcd⟩ := F.ex
  refine ⟨fun s us ws _ hl => ?_, fun r1 r2 => r1.append r2⟩
  match us, ws, hl with
  | [u], [], _ => exact .of_eq (h kV doc pm an cdv ct u)
  | [], [u], _ => exact .of_eq (h' kV doc pm an cdv ct u)
  | [], [], hl => cases hl
  | [], _ :: _ :: _, hl => exact absurd hl (by simp)
  | _ :: _, _ :: _, hl => exact absurd hl (by simp)
  | _ :: _ :: _, [], hl => exact absurd hl (by simp)
theorem fl_dz {K : PySem.W.Frag} {S : Addr → Prop} {H : Hp} : ∀ {vs : List V} {ds : List PyData}, FlAll vs ds → DzAll K S H vs ds
  | _, _, .nil => .nil
  | _, _, .int i r => .cons (.int i) (fl_dz r)
  | _, _, .str x r => .cons (.str x) (fl_dz r)
theorem mv_dz {K : PySem.W.Frag} {S : Addr → Prop} {H : Hp} {v : V} {d : PyData} (h : PMv K H v d) : Dz K S H v d := by
  cases h with
  | non => exact .non
  | tup a b => exact .tup a (fl_dz b)
theorem mvs_dz {K : PySem.W.Frag} {S : Addr → Prop} {H : Hp} : ∀ {vs : List V} {ds : List PyData}, PMvAll K H vs ds → DzAll K S H vs ds
  | _, _, .nil => .nil
  | _, _, .cons a r => .cons (mv_dz a) (mvs_dz r)
def wrOkB (d : PyData) : Bool := pRowB (wrM d) && (flT (pMov (wrM d)) d && (decide ((10 : Nat) ∉ TL.tl (wrM d)) && (!pIsNo (pMov (wrM d)) && !decide (wrM d = ""))))
theorem wr_ok {d : PyData} (h : MvOk d) : wrOkB d = true := by
  have k1 : nameL.all (fun x => numL.all (fun i => wrOkB (.tuple [.str "deed", .str x, .int i]))) = true := by decide +kernel
  have k2 : (["sends", "does", "comes", "gone"] : List Str).all (fun x => numL.all (fun i => wrOkB (.tuple [.str x, .int i]))) = true := by decide +kernel
  cases h with
  | deed x i hx hi => exact List.all_eq_true.mp (List.all_eq_true.mp k1 x hx) i hi
  | over => decide +kernel
  | word x i hx hi => exact List.all_eq_true.mp (List.all_eq_true.mp k2 x hx) i hi
theorem wr_ok' {d : PyData} (h : MvOk d) : PRow (wrM d) ∧ pMov (wrM d) = d ∧ (10 : Nat) ∉ TL.tl (wrM d) ∧ pIsNo (pMov (wrM d)) = false ∧ ¬ wrM d = "" := by
  have z := wr_ok h
  unfold wrOkB at z
  simp only [Bool.and_eq_true, decide_eq_true_eq, Bool.not_eq_true', decide_eq_false_iff_not] at z
  exact ⟨prow_of z.1, flT_eq z.2.1, z.2.2.1, z.2.2.2.1, z.2.2.2.2⟩
theorem read_k88 {K : PySem.W.Frag} {CB : Addr} {vs : List V} {H : Hp} {Q : VK} {E : XK} (h : spRead K vs H Q E) : spPRead K CB vs H Q E0 := by
  obtain ⟨ds, rfl, hd, hl, k⟩ := h
  have hrows : pRows (Txt.join "\n" (ds.map wrM)) = ds.map wrM := by
    by_cases hne : ds = []
    · rw [hne]
      decide +kernel
    · rw [prows_join (rs := ds.map wrM) (fun z => hne (List.map_eq_nil_iff.mp z)) fun r hr => by
        obtain ⟨d, hd', rfl⟩ := List.mem_map.mp hr
        exact (wr_ok' (hd d hd')).2.2.1]
      rw [if_neg]
      intro z
      obtain ⟨d, ds'⟩ : ∃ d, d ∈ ds := by
        cases ds with
        | nil => exact absurd rfl hne
        | cons d r => exact ⟨d, List.mem_cons_self⟩
      have q : wrM d ∈ ([""] : List Str) := z ▸ List.mem_map_of_mem ds'
      exact (wr_ok' (hd d ds')).2.2.2.2 (List.mem_singleton.mp q)
  refine .inl ⟨_, rfl, ?_, ?_, ?_, ?_⟩
  · have z := StrLaws.join_length_le "\n" (ds.map wrM)
    have key : ∀ l : List PyData, (∀ d ∈ l, MvOk d) → ((l.map wrM).map (fun x => x.length)).sum ≤ 40 * l.length := by
      intro l
      induction l with
      | nil => intro _; exact Nat.le_refl _
      | cons y l ih =>
        intro h
        have z1 := ih fun x hx => h x (List.mem_cons_of_mem _ hx)
        have z2 := wr_len (h y List.mem_cons_self)
        rw [List.map_cons, List.map_cons, List.sum_cons, List.length_cons]
        omega
    have z2 := key ds hd
    have z3 : (("\n" : Str)).length = 1 := by decide +kernel
    rw [TL.join_eq]
    rw [z3, List.length_map] at z
    omega
  · rw [hrows, List.length_map]
    omega
  · intro r hr
    rw [hrows] at hr
    obtain ⟨d, hd', rfl⟩ := List.mem_map.mp hr
    exact (wr_ok' (hd d hd')).1
  · rw [hrows]
    have e : pRead (ds.map wrM) = .ok ds := by
      unfold pRead
      rw [List.findIdx?_eq_none_iff.mpr (fun r hr => by
        obtain ⟨d, hd', rfl⟩ := List.mem_map.mp hr
        exact (wr_ok' (hd d hd')).2.2.2.1)]
      show Except.ok ((ds.map wrM).map pMov) = _
      rw [List.map_map, show ds.map (pMov ∘ wrM) = ds.map id from List.map_congr_left fun d hd' => (wr_ok' (hd d hd')).2.1, List.map_id]
    rw [e]
    exact fun a xs H' s1 ha pm => k _ _ s1 fun S => .tup (SqT.of ha) (mvs_dz pm)
end K6

/-! text PF -/
set_option Elab.async false
set_option linter.all false
set_option maxRecDepth 100000
set_option maxHeartbeats 4000000
namespace K6
open PySem PySem.Spec PyProof.Rows L2
theorem psqt_mk {K : PySem.W.Frag} {a : Addr} {o : Obj} {its : Array Value} {n : Nat} {xs : List V} (l : K.lookup a = some o) (hc : o.cls = .type "tuple") (hd : o.data = .seq its n) (hz : Nat.ble its.size 100 = true) (r : Vals xs its.toList) : ∀ H, SqT K H a xs := fun H => by
  refine .inr ⟨o, its, n, l, hc, hd, ?_, r⟩
  have z := sizeLine_eq
  have q := Nat.le_of_ble_eq_true hz
  omega
theorem pw1_mk {K : PySem.W.Frag} {a : Addr} {x1 : Str} {o : Option Addr} {u1 : Tok} {n : Nat} {sl : Array (Option Value)} (l : K.lookup a = some ⟨.type "tuple", o, .seq #[.str x1 u1] n, sl⟩) : ∀ H, SqT K H a [.str x1] := psqt_mk l rfl rfl rfl (.cons ⟨_, rfl⟩ .nil)
theorem pw4_mk {K : PySem.W.Frag} {a : Addr} {x1 x2 x3 x4 : Str} {o : Option Addr} {u1 u2 u3 u4 : Tok} {n : Nat} {sl : Array (Option Value)} (l : K.lookup a = some ⟨.type "tuple", o, .seq #[.str x1 u1, .str x2 u2, .str x3 u3, .str x4 u4] n, sl⟩) : ∀ H, SqT K H a [.str x1, .str x2, .str x3, .str x4] := psqt_mk l rfl rfl rfl (.cons ⟨_, rfl⟩ (.cons ⟨_, rfl⟩ (.cons ⟨_, rfl⟩ (.cons ⟨_, rfl⟩ .nil))))
theorem pint_mk {K : PySem.W.Frag} {a : Addr} {x : Str} {n : Int} {t : Tok} (h : PySem.W.nsIn K a x = some (some (.int n t))) : ∃ t, PySem.W.nsIn K a x = some (some (.int n t)) := ⟨t, h⟩
theorem pstr_mk {K : PySem.W.Frag} {a : Addr} {x n : Str} {t : Tok} (h : PySem.W.nsIn K a x = some (some (.str n t))) : ∃ t, PySem.W.nsIn K a x = some (some (.str n t)) := ⟨t, h⟩
theorem ptw_mk {K : PySem.W.Frag} {a : Addr} {x : Str} {xs : List V} (h : PySem.W.nsIn K mainGlobals x = some (some (.ref a))) (g : ∀ H, SqT K H a xs) : ∃ a, PySem.W.nsIn K mainGlobals x = some (some (.ref a)) ∧ ∀ H, SqT K H a xs := ⟨a, h, g⟩
/-- what the top has written of the program's reader -/
structure PFacts (K : PySem.W.Frag) : Prop where
  fname : FA K "is_name" sPIsName
  fnum : FA K "is_number" sPNum
  fmov : FA K "move_of_text" sPMov
  fread : FA K "read_story" sPRead
  zlen : PySem.W.nsIn K mainGlobals "len" = some none
  zall : PySem.W.nsIn K mainGlobals "all" = some none
  zint : PySem.W.nsIn K mainGlobals "int" = some none
  zisi : PySem.W.nsIn K mainGlobals "isinstance" = some none
  zstr : PySem.W.nsIn K mainGlobals "str" = some none
  zenum : PySem.W.nsIn K mainGlobals "enumerate" = some none
  ztup : PySem.W.nsIn K mainGlobals "tuple" = some none
  iL : ∃ t, PySem.W.nsIn K mainGlobals "LETTERS" = some (some (.str pLETT t))
  iD : ∃ t, PySem.W.nsIn K mainGlobals "DIGITS" = some (some (.str pDIGS t))
  iM : ∃ t, PySem.W.nsIn K mainGlobals "MOST_FIGURES" = some (some (.int 3 t))
  iT : ∃ a, PySem.W.nsIn K mainGlobals "TASK_WORDS" = some (some (.ref a)) ∧ ∀ H, SqT K H a [.str "sends", .str "does", .str "comes", .str "gone"]
  iO : ∃ a, PySem.W.nsIn K mainGlobals "OVER" = some (some (.ref a)) ∧ ∀ H, SqT K H a [.str "over"]
section
variable {P : Program} {w : World} {K : PySem.W.Frag} {mg : Str → Option Value} {base : Heap} {CB CL fB : Addr}
theorem pnm_of {h : Heap} (X : K.In h) (G : h.Ns mainGlobals mg) (A : PFacts K) : PNm K mg := by
  have mn : ∀ {x : Str}, PySem.W.nsIn K mainGlobals x = some none → mg x = none := fun z => PySem.W.mg_none_of X G z
  have ms : ∀ {x n : Str}, (∃ t, PySem.W.nsIn K mainGlobals x = some (some (.str n t))) → ∃ t, mg x = some (.str n t) := fun ⟨t, z⟩ => ⟨t, PySem.W.mg_of X G z⟩
  obtain ⟨aT, zT, sT⟩ := A.iT
  obtain ⟨aO, zO, sO⟩ := A.iO
  obtain ⟨tM, zM⟩ := A.iM
  exact ⟨mn A.zlen, mn A.zall, mn A.zint, ms A.iL, ms A.iD, ⟨tM, PySem.W.mg_of X G zM⟩, ⟨aT, PySem.W.mg_of X G zT, sT⟩, ⟨aO, PySem.W.mg_of X G zO, sO⟩⟩
theorem rPName {h : Heap} (X : K.In h) (G : h.Ns mainGlobals mg) (A : PFacts K) : FnAt P w K mg base CX0 1 "is_name" ["word"] spPName := fnAt X G A.fname (fun _ _ F => F.binds (ps := ["word"]) fun _ _ _ _ _ _ us hl => match us, hl with | [_], _ => rfl) fun _ _ F => ok_pname F (pnm_of X G A)
theorem rPNum {h : Heap} (X : K.In h) (G : h.Ns mainGlobals mg) (A : PFacts K) : FnAt P w K mg base CX0 1 "is_number" ["word"] spPNum := fnAt X G A.fnum (fun _ _ F => F.binds (ps := ["word"]) fun _ _ _ _ _ _ us hl => match us, hl with | [_], _ => rfl) fun _ _ F => ok_pnum F (pnm_of X G A)
theorem rPMov {h : Heap} (X : K.In h) (G : h.Ns mainGlobals mg) (A : PFacts K) : FnAt P w K mg base CX0 2 "move_of_text" ["row"] (spPMov K) := fnAt X G A.fmov (fun _ _ F => F.binds (ps := ["row"]) fun _ _ _ _ _ _ us hl => match us, hl with | [_], _ => rfl) fun _ _ F => ok_pmov F (pnm_of X G A) (rPName X G A) (rPNum X G A)
/-- what the top has written of the program's writer -/
structure WFacts (K : PySem.W.Frag) : Prop where
  fint : FA K "is_integer" sIsInt
  fbel : FA K "is_below" sBelow
  fword : FA K "is_word" sWord
  frow : FA K "is_row" sRowF
  fsame : FA K "is_same" sSame
  fmove : FA K "is_move" sIsMove
  ftext : FA K "text_of_move" sTextOf
  fshow : FA K "show_story" sShow
  zbool : PySem.W.nsIn K mainGlobals "bool" = some none
  zzip : PySem.W.nsIn K mainGlobals "zip" = some none
  iN : ∃ t, PySem.W.nsIn K mainGlobals "NUMBERS" = some (some (.int 1000 t))
theorem rPRead {h : Heap} (X : K.In h) (G : h.Ns mainGlobals mg) (A : PFacts K) (low : PySem.LowX.LowTxt K mg CB fB) : FnKAt P w K mg base CX0 20 "read_story" "text" (spRead K) := by
  have mn : ∀ {x : Str}, PySem.W.nsIn K mainGlobals x = some none → mg x = none := fun z => PySem.W.mg_none_of X G z
  obtain ⟨f, fd, a, F⟩ := A.fread.ex
  exact ⟨f, fd, PySem.W.mg_of X G a, F.kp, F.binds (ps := ["text"]) (fun _ _ _ _ _ _ us hl => match us, hl with | [_], _ => rfl), kbinds1 F (fun _ _ _ _ _ _ _ => rfl) (fun _ _ _ _ _ _ _ => rfl),
    FnOk.quiet ((ok_pread F ⟨mn A.zisi, mn A.zstr, mn A.zenum, mn A.ztup, low⟩ (rPMov X G A)).mono (k := 20) (by decide)) fun _ _ _ _ h => read_k88 h⟩
theorem rPShow {h : Heap} (X : K.In h) (G : h.Ns mainGlobals mg) (A : PFacts K) (B : WFacts K) (low : PySem.LowS.LowTxt K mg CB fB) : FnKAt P w K mg base (L2.CX P w) 20 "show_story" "story" (spShow K CB) := by
  have mn : ∀ {x : Str}, PySem.W.nsIn K mainGlobals x = some none → mg x = none := fun z => PySem.W.mg_none_of X G z
  have T : PVn mg := ⟨mn A.zisi, mn A.zlen, mn A.zstr, mn A.zint, mn A.ztup, mn B.zbool, mn B.zzip, mn A.zall, mn A.zenum⟩
  have rInt : FnAt P w K mg base CX0 1 "is_integer" ["value"] (spIsInt K) := fnAt X G B.fint (fun _ _ F => F.binds (ps := ["value"]) fun _ _ _ _ _ _ us hl => match us, hl with | [_], _ => rfl) fun _ _ F => ok_isint F T
  have rBel : FnAt P w K mg base CX0 2 "is_below" ["value", "bound"] (spBelow K) := fnAt X G B.fbel (fun _ _ F => F.binds (ps := ["value", "bound"]) fun _ _ _ _ _ _ us hl => match us, hl with | [_, _], _ => rfl) fun _ _ F => ok_below F rInt
  have rWord : FnAt P w K mg base CX0 1 "is_word" ["value", "words"] (spWord K) := fnAt X G B.fword (fun _ _ F => F.binds (ps := ["value", "words"]) fun _ _ _ _ _ _ us hl => match us, hl with | [_, _], _ => rfl) fun _ _ F => ok_word F T
  have rRow : FnAt P w K mg base CX0 1 "is_row" ["value", "length"] (spRowF K) := fnAt X G B.frow (fun _ _ F => F.binds (ps := ["value", "length"]) fun _ _ _ _ _ _ us hl => match us, hl with | [_, _], _ => rfl) fun _ _ F => ok_rowf F T
  have rSame0 : FnAt P w K mg base CX0 1 "is_same" ["value", "told"] (fun _ _ _ _ => False) := fnAt X G B.fsame (fun _ _ F => F.binds (ps := ["value", "told"]) fun _ _ _ _ _ _ us hl => match us, hl with | [_, _], _ => rfl) fun _ _ F => FnOk.none
  have rSame1 : FnAt P w K mg base CX0 2 "is_same" ["value", "told"] (spSame1 K) := fnAt X G B.fsame (fun _ _ F => F.binds (ps := ["value", "told"]) fun _ _ _ _ _ _ us hl => match us, hl with | [_, _], _ => rfl) fun _ _ F => ok_same1 F T rRow rSame0
  have rSame2 : FnAt P w K mg base CX0 3 "is_same" ["value", "told"] (spSame2 K) := fnAt X G B.fsame (fun _ _ F => F.binds (ps := ["value", "told"]) fun _ _ _ _ _ _ us hl => match us, hl with | [_, _], _ => rfl) fun _ _ F => ok_same2 F T rRow rSame1
  have gN : ∃ t, mg "NUMBERS" = some (.int 1000 t) := by
    obtain ⟨t, z⟩ := B.iN
    exact ⟨t, PySem.W.mg_of X G z⟩
  have rMove : FnAt P w K mg base CX0 4 "is_move" ["value"] (spIsMove K) := fnAt X G B.fmove (fun _ _ F => F.binds (ps := ["value"]) fun _ _ _ _ _ _ us hl => match us, hl with | [_], _ => rfl) fun _ _ F => ok_ismove F T (pnm_of X G A) gN rRow rBel rWord (rPName X G A) rSame2
  have rText : FnAt P w K mg base CX0 1 "text_of_move" ["move"] (spWr K) := fnAt X G B.ftext (fun _ _ F => F.binds (ps := ["move"]) fun _ _ _ _ _ _ us hl => match us, hl with | [_], _ => rfl) fun _ _ F => ok_textof F (mn A.zstr)
  obtain ⟨f, fd, a, F⟩ := B.fshow.ex
  exact ⟨f, fd, PySem.W.mg_of X G a, F.kp, F.binds (ps := ["story"]) (fun _ _ _ _ _ _ us hl => match us, hl with | [_], _ => rfl), kbinds1 F (fun _ _ _ _ _ _ _ => rfl) (fun _ _ _ _ _ _ _ => rfl),
    (ok_show F T low rMove rText).mono (by decide)⟩
end
end K6

/-! text LSm -/
set_option Elab.async false
set_option linter.all false
set_option maxRecDepth 100000
namespace K6
open PySem PySem.Spec PyProof.Rows L2
theorem low_mkS {K : PySem.W.Frag} {CB CL f1 : Addr} {nm q : Str} {N : Addr} {bs : List Value} {sn : List Str} {sub : List Value} {ab : Bool} {col : Option Bool} {dd : Option Addr} {m0 m1 m2 m3 m5 : Option Value} {od1 an1 : Option Addr} {sl1 : Array (Option Value)} {oc1 dc1 pm1 cd1 ct1 : Value} {p1 p2 q1 q2 q3 q4 : Pos}
    (aC : PySem.W.nsIn K mainGlobals "BadStory" = some (some (.ref CB)))
    (xL : K.lookup CB = some (excClassObj nm q CB N bs [.ref CL, .type "ValueError", .type "Exception", .type "BaseException", .type "object"] true sn sub ab col dd m0 m1 m2 m3 m5 "ValueError.__new__"))
    (sa : PySem.W.findIn K (.ref CB) "__setattr__" = some (some (.builtin "object.__setattr__"))) (ga : PySem.W.findIn K (.ref CB) "__getattribute__" = some (some (.builtin "BaseException.__getattribute__"))) (gg : PySem.W.findIn K (.ref CB) "__getattr__" = some none) (nb : PySem.W.findIn K (.ref CB) "number" = some none)
    (a1 : PySem.W.findIn K (.ref CB) "__init__" = some (some (.ref f1))) (t1 : PySem.W.typeIn K (.ref f1) = some (.type "function"))
    (l1 : K.lookup f1 = some ⟨oc1, od1, .func (PySem.W.fnOf "__init__" "BadStory.__init__" (PySem.LowS.iA p1 p2) (PySem.LowS.iB q1 q2 q3 q4) PySem.LowS.iS .none .none dc1 pm1 an1 cd1 ct1), sl1⟩) (c1 : PySem.W.codeIn K cd1 "BadStory.__init__" = true)
    (kC : PySem.W.keepIn K (.ref CB) = true) (eC : PySem.W.subIn K (.ref CB) (.type "BaseException") = some true) (tC : PySem.W.typeIn K (.ref CB) = some (.type "type")) (hC : PySem.W.hasDictIn K CB = true) (iC : PySem.W.isClsIn K CB = true) (sC : PySem.W.subIn K (.ref CB) (.ref CB) = some true) :
    ∀ {h : Heap} {mg : Str → Option Value}, K.In h → h.Ns mainGlobals mg → ∃ fB, PySem.LowS.LowTxt K mg CB fB := fun X G =>
  ⟨f1, { gC := PySem.W.mg_of X G aC, cls := ⟨nm, q, N, bs, _, sn, sub, ab, col, dd, m0, m1, m2, m3, m5, xL, rfl⟩, sa := sa, ga := ga, gg := gg, noN := nb, iC := a1, tC := t1, kC := kC, exC := eC, tyC := tC, hdC := hC, te := exm_two eC iC tC sC, fn := ⟨_, _, _, _, _, _, _, _, _, _, _, _, _, _, l1, c1⟩ }⟩
end K6

/-! text PG -/
set_option Elab.async false
set_option linter.all false
set_option maxRecDepth 100000
set_option maxHeartbeats 4000000
namespace K6
open PySem PySem.Spec PyProof.Rows L2 LamX
theorem low_mk {K : PySem.W.Frag} {CB CL f1 : Addr} {nm q : Str} {N : Addr} {bs : List Value} {sn : List Str} {sub : List Value} {ab : Bool} {col : Option Bool} {dd : Option Addr} {m0 m1 m2 m3 m5 : Option Value} {od1 an1 : Option Addr} {sl1 : Array (Option Value)} {oc1 dc1 pm1 cd1 ct1 : Value} {p1 p2 q1 q2 q3 q4 : Pos}
    (aC : PySem.W.nsIn K mainGlobals "BadText" = some (some (.ref CB)))
    (xL : K.lookup CB = some (excClassObj nm q CB N bs [.ref CL, .type "ValueError", .type "Exception", .type "BaseException", .type "object"] true sn sub ab col dd m0 m1 m2 m3 m5 "ValueError.__new__"))
    (sa : PySem.W.findIn K (.ref CB) "__setattr__" = some (some (.builtin "object.__setattr__"))) (ga : PySem.W.findIn K (.ref CB) "__getattribute__" = some (some (.builtin "BaseException.__getattribute__"))) (gg : PySem.W.findIn K (.ref CB) "__getattr__" = some none) (nb : PySem.W.findIn K (.ref CB) "line" = some none)
    (a1 : PySem.W.findIn K (.ref CB) "__init__" = some (some (.ref f1))) (t1 : PySem.W.typeIn K (.ref f1) = some (.type "function"))
    (l1 : K.lookup f1 = some ⟨oc1, od1, .func (PySem.W.fnOf "__init__" "BadText.__init__" (PySem.LowX.iA p1 p2) (PySem.LowX.iB q1 q2 q3 q4) PySem.LowX.iS .none .none dc1 pm1 an1 cd1 ct1), sl1⟩) (c1 : PySem.W.codeIn K cd1 "BadText.__init__" = true)
    (kC : PySem.W.keepIn K (.ref CB) = true) (eC : PySem.W.subIn K (.ref CB) (.type "BaseException") = some true) (tC : PySem.W.typeIn K (.ref CB) = some (.type "type")) (hC : PySem.W.hasDictIn K CB = true) (iC : PySem.W.isClsIn K CB = true) (sC : PySem.W.subIn K (.ref CB) (.ref CB) = some true) :
    ∀ {h : Heap} {mg : Str → Option Value}, K.In h → h.Ns mainGlobals mg → ∃ fB, PySem.LowX.LowTxt K mg CB fB := fun X G =>
  ⟨f1, { gC := PySem.W.mg_of X G aC, cls := ⟨nm, q, N, bs, _, sn, sub, ab, col, dd, m0, m1, m2, m3, m5, xL, rfl⟩, sa := sa, ga := ga, gg := gg, noN := nb, iC := a1, tC := t1, kC := kC, exC := eC, tyC := tC, hdC := hC, te := exm_two eC iC tC sC, fn := ⟨_, _, _, _, _, _, _, _, _, _, _, _, _, _, l1, c1⟩ }⟩
theorem lawAt_k88 {l : PySem.W.OpenLaw} {w : World} {K : PySem.W.Frag} {mg : Str → Option Value} {CB CL CT c pT : Addr} {h : Heap} {fa : Addr} (X : K.In h) (G : h.Ns mainGlobals mg) (A : Facts K CB CL c) (B : PFacts K) (W : WFacts K)
    (lowS : ∀ {h : Heap} {mg : Str → Option Value}, K.In h → h.Ns mainGlobals mg → ∃ fB, PySem.LowS.LowTxt K mg CB fB) (lowX : ∀ {h : Heap} {mg : Str → Option Value}, K.In h → h.Ns mainGlobals mg → ∃ fB, PySem.LowX.LowTxt K mg CT fB) (hfa : mg "law" = some (.ref fa))
    (hT : ∀ p ∈ [pT], h.get? p = some (PySem.W.tabObj #[])) (nT : K.lookup pT = none) (nM : K.lookup sysModules = none) (C : PySem.W.codeHdIn K c pT = true) : LawAtG l w K CX0 24 63 "_law_script" mg fa h := by
  obtain ⟨f1, l1⟩ := lowS X G
  obtain ⟨f2, l2⟩ := lowX X G
  exact lawAt_of (j := 20) (by decide) X G A (fun base hk hn => rPShow X G B W l1) (fun base hk hn => rPRead X G B l2) hfa hT nT nM C
end K6

/-! text PT -/
set_option Elab.async false
open PySem PySem.W PyProof.Rows
set_option maxRecDepth 100000 in
set_option maxHeartbeats 0 in
theorem PySem.Challenge.cw_lastasked_k88_stories_written_and_read_holds : PySem.Challenge.rw_lastasked_k88_stories_written_and_read.Holds := by
  w_on; o_law; k_head; (case hw => w_witness2)
  k_fill
  refine K6.walkTG (n := 63) (k := 24) (x := "_law_script") (CX := fun _ => L2.CX0) (l := PySem.Challenge.rw_lastasked_k88_stories_written_and_read) rfl (by decide) rfl ⟨rfl, by decide, by decide⟩ (fun w h Y => PySem.W.km_in_of Y) (by decide +kernel) ?F (fun _ _ _ _ _ z => z)
  case F =>
    intro w mg fa h Y KX G hmg
    refine' K6.lawAt_k88 KX G (K6.Facts.mk ?gCB ?gCL ?fpot ?ftake ?fof ?fname ?fnum ?fmove ?fnone ?fwr ?fheard ?fright ?flaw ?zlen ?zall ?zint ?zabs ?zmax ?zmin ?zrange ?ztuple ?zrepr ?zstr ?zisi ?zval ?isD ?xf ?noL ?ex ?k1 ?k2) (K6.PFacts.mk ?pfname ?pfnum ?pfmov ?pfread ?pzlen ?pzall ?pzint ?pzisi ?pzstr ?pzenum ?pztup ?piL ?piD ?piM ?piT ?piO) (K6.WFacts.mk ?wfint ?wfbel ?wfword ?wfrow ?wfsame ?wfmove ?wftext ?wfshow ?wzbool ?wzzip ?wiN) ?lowS ?lowX hmg (PySem.W.km_tabs_of Y) ?nT ?nM ?C
    (case gCB => k_is)
    (case gCL => k_is)
    (case fpot => refine' K6.fa_mk ?a ?l ?c ?k; (case a => k_is); (case l => k_is); (case c => k_is); (case k => k_is))
    (case ftake => refine' K6.fa_mk ?a ?l ?c ?k; (case a => k_is); (case l => k_is); (case c => k_is); (case k => k_is))
    (case fof => refine' K6.fa_mk ?a ?l ?c ?k; (case a => k_is); (case l => k_is); (case c => k_is); (case k => k_is))
    (case fname => refine' K6.fa_mk ?a ?l ?c ?k; (case a => k_is); (case l => k_is); (case c => k_is); (case k => k_is))
    (case fnum => refine' K6.fa_mk ?a ?l ?c ?k; (case a => k_is); (case l => k_is); (case c => k_is); (case k => k_is))
    (case fmove => refine' K6.fa_mk ?a ?l ?c ?k; (case a => k_is); (case l => k_is); (case c => k_is); (case k => k_is))
    (case fnone => refine' K6.fa_mk ?a ?l ?c ?k; (case a => k_is); (case l => k_is); (case c => k_is); (case k => k_is))
    (case fwr => refine' K6.fa_mk ?a ?l ?c ?k; (case a => k_is); (case l => k_is); (case c => k_is); (case k => k_is))
    (case fheard => refine' K6.fa_mk ?a ?l ?c ?k; (case a => k_is); (case l => k_is); (case c => k_is); (case k => k_is))
    (case fright => refine' K6.fac_mk ?a ?l ?cd ?k; (case a => k_is); (case l => k_is); (case cd => k_is); (case k => k_is))
    (case flaw => refine' K6.fa_mk ?a ?l ?c ?k; (case a => k_is); (case l => k_is); (case c => k_is); (case k => k_is))
    (case zlen => k_is)
    (case zall => k_is)
    (case zint => k_is)
    (case zabs => k_is)
    (case zmax => k_is)
    (case zmin => k_is)
    (case zrange => k_is)
    (case ztuple => k_is)
    (case zrepr => k_is)
    (case zstr => k_is)
    (case zisi => k_is)
    (case zval => k_is)
    (case isD => refine' K6.isD2_mk ?c1 ?c2 ?c3 ?c4 ?c5 ?c6 ?c7 ?c8; (case c1 => k_is); (case c2 => k_is); (case c3 => k_is); (case c4 => k_is); (case c5 => k_is); (case c6 => k_is); (case c7 => k_is); (case c8 => k_is))
    (case xf => refine' K6.xf_mk ?c1 ?c2 ?c3 ?c4; (case c1 => k_is); (case c2 => k_is); (case c3 => k_is); (case c4 => k_is))
    (case noL => k_is)
    (case ex => refine' K6.exm_two ?h1 ?h2 ?h3 ?h4; (case h1 => k_is); (case h2 => k_is); (case h3 => k_is); (case h4 => k_is))
    (case k1 => exact K6.kit_self)
    (case k2 => kit_is)
    (case pfname => refine' K6.fa_mk ?a ?l ?c ?k; (case a => k_is); (case l => k_is); (case c => k_is); (case k => k_is))
    (case pfnum => refine' K6.fa_mk ?a ?l ?c ?k; (case a => k_is); (case l => k_is); (case c => k_is); (case k => k_is))
    (case pfmov => refine' K6.fa_mk ?a ?l ?c ?k; (case a => k_is); (case l => k_is); (case c => k_is); (case k => k_is))
    (case pfread => refine' K6.fa_mk ?a ?l ?c ?k; (case a => k_is); (case l => k_is); (case c => k_is); (case k => k_is))
    (case pzlen => k_is)
    (case pzall => k_is)
    (case pzint => k_is)
    (case pzisi => k_is)
    (case pzstr => k_is)
    (case pzenum => k_is)
    (case pztup => k_is)
    (case piL => refine' K6.pstr_mk ?e; (case e => k_is))
    (case piD => refine' K6.pstr_mk ?e; (case e => k_is))
    (case piM => refine' K6.pint_mk ?e; (case e => k_is))
    (case piT => refine' K6.ptw_mk ?z (K6.pw4_mk ?l); (case z => k_is); (case l => k_is))
    (case piO => refine' K6.ptw_mk ?z (K6.pw1_mk ?l); (case z => k_is); (case l => k_is))
    (case wfint => refine' K6.fa_mk ?a ?l ?c ?k; (case a => k_is); (case l => k_is); (case c => k_is); (case k => k_is))
    (case wfbel => refine' K6.fa_mk ?a ?l ?c ?k; (case a => k_is); (case l => k_is); (case c => k_is); (case k => k_is))
    (case wfword => refine' K6.fa_mk ?a ?l ?c ?k; (case a => k_is); (case l => k_is); (case c => k_is); (case k => k_is))
    (case wfrow => refine' K6.fa_mk ?a ?l ?c ?k; (case a => k_is); (case l => k_is); (case c => k_is); (case k => k_is))
    (case wfsame => refine' K6.fa_mk ?a ?l ?c ?k; (case a => k_is); (case l => k_is); (case c => k_is); (case k => k_is))
    (case wfmove => refine' K6.fa_mk ?a ?l ?c ?k; (case a => k_is); (case l => k_is); (case c => k_is); (case k => k_is))
    (case wftext => refine' K6.fa_mk ?a ?l ?c ?k; (case a => k_is); (case l => k_is); (case c => k_is); (case k => k_is))
    (case wfshow => refine' K6.fa_mk ?a ?l ?c ?k; (case a => k_is); (case l => k_is); (case c => k_is); (case k => k_is))
    (case wzbool => k_is)
    (case wzzip => k_is)
    (case wiN => refine' K6.pint_mk ?e; (case e => k_is))
    (case lowS => refine' K6.low_mkS ?aC ?xL ?sa ?ga ?gg ?nb ?a1 ?t1 ?l1 ?c1 ?kC ?eC ?tC ?hC ?iC ?sC; (case aC => k_is); (case xL => k_is); (case sa => k_is); (case ga => k_is); (case gg => k_is); (case nb => k_is); (case a1 => k_is); (case t1 => k_is); (case l1 => k_is); (case c1 => k_is); (case kC => k_is); (case eC => k_is); (case tC => k_is); (case hC => k_is); (case iC => k_is); (case sC => k_is))
    (case lowX => refine' K6.low_mk ?aC ?xL ?sa ?ga ?gg ?nb ?a1 ?t1 ?l1 ?c1 ?kC ?eC ?tC ?hC ?iC ?sC; (case aC => k_is); (case xL => k_is); (case sa => k_is); (case ga => k_is); (case gg => k_is); (case nb => k_is); (case a1 => k_is); (case t1 => k_is); (case l1 => k_is); (case c1 => k_is); (case kC => k_is); (case eC => k_is); (case tC => k_is); (case hC => k_is); (case iC => k_is); (case sC => k_is))
    (case nT => kernel_rfl)
    (case nM => kernel_rfl)
    (case C => kernel_rfl)
