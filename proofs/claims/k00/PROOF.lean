import PyProof.Rows.All
import Wide.All
import OpenK.AllK
import Wide.FinOn
import KE.KStateDown
import HandS.ForMost
import HandS.ExcInit
import HandS.Defaults
import HandS.HeadHook1
import HandS.HeadHook2
import HandS.IsInst
import HandS.ExcValue
import KE.KExcIs
import PyProof.ReprRoads
import HandS.HeadEnd
import HandS.Head0
import HandS.Head1
import HandS.Head2
import HandS.MakeKw
import HandS.WideBits
import PySem.Challenge.RW_millpapers_k00_errors
set_option Elab.async false
set_option linter.all false
set_option maxRecDepth 100000
set_option maxHeartbeats 8000000
section
/-! A call C(.., f = v) of an own exception class over ValueError: its maker lets the keywords by, its own __init__ is handed them. -/
namespace Xv
open PySem PySem.W PySem.Calls PyProof.Rows PySem.HandSPX
/-- the class object that is meant, behind names of its parts -/
structure Kls where
  nm : Str
  qn : Str
  ns : Addr
  bases : List Value
  tail : List Value
  sn : List Str
  sub : List Value
  ab : Bool
  col : Option Bool
  dd : Option Addr
  s0 : Option Value
  s1 : Option Value
  s2 : Option Value
  s3 : Option Value
  s5 : Option Value
abbrev Kls.obj (k : Kls) (C : Addr) : Obj := excClassObj k.nm k.qn C k.ns k.bases k.tail true k.sn k.sub k.ab k.col k.dd k.s0 k.s1 k.s2 k.s3 k.s5 "ValueError.__new__"
/-- what its mro holds of the built-in classes -/
theorem Kls.holds {k : Kls} (hk : refsVE k.tail = true) (C : Addr) (T : String) : (Value.ref C :: k.tail).contains (.type T) = veTail.contains (.type T) := by
  rw [List.contains_cons, refsVE_contains T _ hk]
  rfl
/-- the fresh exception, and what was there -/
abbrev newHeap (h : Heap) (C : Addr) (us : List Value) : Heap := (h.push (kdv_tup us)).push (excO C h.objs.size)
theorem newHeap_keeps {h : Heap} {C : Addr} {us : List Value} (b : Addr) (o : Obj) (e : h.get? b = some o) : (newHeap h C us).get? b = some o := Heap.get?_push_of_some _ (Heap.get?_push_of_some _ e)
theorem newHeap_at {h : Heap} {C : Addr} {us : List Value} : (newHeap h C us).get? (h.objs.size + 1) = some (excO C h.objs.size) := by
  unfold newHeap
  heap_get
section
variable {M : Model} {prog : Program} {w : World} {A : Around} {E : Value → Shared → Prop} {R : Result → Shared → Prop} {C : Addr} {k : Kls} {us : List Value} {kw : List (Str × Value)} {s : Shared}
/-- the maker's own check -/
theorem kw_check {Q : Unit → Shared → Prop} (hk : refsVE k.tail = true) (hC : s.heap.get? C = some (k.obj C)) (q : Q () s) : wpAny M A (checkBuiltinCall "ValueError.__new__" ⟨.ref C :: us, kw⟩) Q E s := by
  obtain ⟨hp, g, d, t, os⟩ := s
  have B := F.excBase_ValueError
  have n := B.noStar
  have inB := (Kls.holds hk C "ValueError").trans B.hasB
  simp only [checkBuiltinCall, B.newKind, B.newSplit, B.newRow]
  repeat (first | refine wpAny_staticBase_exc hC ?_ | refine wpAny_madeBy_exc hC ?_ | (refine wpAny_isSubtype_exc hC ?_; rw [inB]) | refine wpAny_loadPart_at hC ?_ | simp only [bne_self_eq_false, if_false, Bool.false_eq_true] | wp_step)
  exact q
/-- the maker makes a bare exception that holds the positional arguments -/
theorem kw_new (hk : refsVE k.tail = true) (hC : s.heap.get? C = some (k.obj C)) (hl : us.length ≤ sizeLine) (q : R (.ok (.ret (.ref (s.heap.objs.size + 1)))) { s with heap := newHeap s.heap C us }) :
    codeAny (model prog w) A (.builtin "ValueError.__new__" ⟨.ref C :: us, kw⟩) R s := by
  obtain ⟨hp, g, d, t, os⟩ := s
  have B := F.excBase_ValueError
  have ends := B.ends
  have no : ∀ {T : String} {b : Bool}, veTail.contains (.type T) = b → (Value.ref C :: k.tail).contains (.type T) = b := fun {T b} e => (Kls.holds hk C T).trans e
  have inB := no B.hasB
  have outA := no B.noAttr
  have outN := no B.noName
  refine codeAny_builtinAt B.entry ?_
  unfold Builtin.«BaseException.__new__»
  refine PySem.wpAt_bind ?_
  show PySem.wpAt _ _ _ (stack >>= _) _ _ _
  refine PySem.wpAt_bind (PySem.wpAt_stack fun _ _ => PySem.wpAt_of_wpAny ?_)
  wp_walk
  refine PySem.wpAt_of_wpAny ?_
  rw [B.owner]
  repeat (first | with_reducible refine wpAny_loadPart_at hC ?_ | with_reducible refine wpAny_madeHere_exc B.canon hC ?_ | (with_reducible refine wpAny_isSubtype_exc hC ?_; first | rw [outA] | rw [outN] | rw [inB]) | wp_step)
  show R _ _
  rw [Heap.size_push]
  exact q
/-- type.__call__ lets any arguments of such a class by -/
theorem kw_tc {Q : Unit → Shared → Prop} (hC : s.heap.get? C = some (k.obj C)) (q : Q () s) : wpAny M A (checkBuiltinCall "type.__call__" ⟨.ref C :: us, kw⟩) Q E s := by
  obtain ⟨hp, g, d, t, os⟩ := s
  have sub := tc_sub
  have ty : (⟨hp, g, d, t, os⟩ : Shared).TypeIs (.ref C) "type" := ⟨_, hC, rfl⟩
  simp only [checkBuiltinCall, tc_split, tc_kind]
  repeat (any_goals (first | assumption | with_reducible refine wpAny_map ?_ | with_reducible refine wpAny_onRaise ?_ | with_reducible refine wpAny_loadPart_at hC ?_ | wp_step))
/-- type.__call__: the maker, then the own __init__ at the new exception -/
theorem kw_type {fI : Addr} {Q : Fin → Shared → Prop} (hk : refsVE k.tail = true) (hC : s.heap.get? C = some (k.obj C)) (hi : Looks (model prog w) s.heap (typeLookup (.ref C) "__init__") (some (.ref fI))) (hb : ∀ v, Looks (model prog w) s.heap (bindSpecial (.ref fI) v) (.ref fI, [v])) (hl : us.length ≤ sizeLine)
    (q : codeAny (model prog w) A (.call (.ref fI) ⟨.ref (s.heap.objs.size + 1) :: us, kw⟩) (fun r s' => (∃ e, r = .error e ∧ E e s') ∨ (r = .ok (.ret .none) ∧ Q (.done (.ret (.ref (s.heap.objs.size + 1)))) s')) { s with heap := newHeap s.heap C us }) :
    wpAny (model prog w) A (Builtin.«type.__call__» ⟨.ref C :: us, kw⟩) Q E s := by
  obtain ⟨hp, g, d, t, os⟩ := s
  repeat (first | with_reducible refine wpAny_madeBy_exc hC ?_ | with_reducible refine wpAny_loadPart_at hC ?_ | wp_step)
  refine codeAny_call_builtin_code (Code.quiet_builtin _ F.excBase_ValueError.quiet) (kw_check hk hC (kw_new hk hC hl ?_))
  show wpAny _ _ _ _ _ _
  have hC' := newHeap_keeps (C := C) (us := us) _ _ hC
  have me : (Value.ref C :: k.tail).contains (.ref C) = true := by simp
  unfold isInstance
  repeat (first | with_reducible refine wpAny_loadPart_at newHeap_at ?_ | (with_reducible refine wpAny_isSubtype_exc hC' ?_; rw [me]) | wp_step)
  show wpAny _ _ (typeLookup (.ref C) _) _ _ _
  refine (hi.keeps newHeap_keeps).at (wpAny_holding (wpAny_bind (((hb _).keeps newHeap_keeps).at (wpAny_bind (wpAny_call (codeAny_mono q ?_))))))
  rintro r s' (⟨e, rfl, z⟩ | ⟨rfl, z⟩)
  · exact z
  · first
      | exact wpAny_pure (wpAny_pure z)
      | (wp_walk; exact z)
/-- the whole call, up to the own __init__ -/
theorem call_kw {fI : Addr} (hk : refsVE k.tail = true) (hC : s.heap.get? C = some (k.obj C)) (hi : Looks (model prog w) s.heap (typeLookup (.ref C) "__init__") (some (.ref fI))) (hb : ∀ v, Looks (model prog w) s.heap (bindSpecial (.ref fI) v) (.ref fI, [v])) (hl : us.length ≤ sizeLine)
    (q : codeAny (model prog w) (A.under (.builtin "type.__call__" ⟨.ref C :: us, kw⟩)) (.call (.ref fI) ⟨.ref (s.heap.objs.size + 1) :: us, kw⟩) (fun r s' => (∃ e, r = .error e ∧ R (.error e) s') ∨ (r = .ok (.ret .none) ∧ R (.ok (.ret (.ref (s.heap.objs.size + 1)))) s')) { s with heap := newHeap s.heap C us }) :
    codeAny (model prog w) A (.call (.ref C) ⟨us, kw⟩) R s := by
  obtain ⟨hp, g, d, t, os⟩ := s
  have c1 := tc_lookup
  have c2 := tc_bind (.ref C)
  have ty : (⟨hp, g, d, t, os⟩ : Shared).TypeIs (.ref C) "type" := ⟨_, hC, rfl⟩
  refine codeAny_of_tree ?_
  show wpAny _ _ (callAny (.ref C) _) _ _ _
  repeat (any_goals (first | assumption | with_reducible refine wpAny_loadPart_at hC ?_ | wp_step))
  exact ⟨rfl, codeAny_call_builtin_at (Code.quiet_builtin _ (by decide +kernel)) entry_typeCall (kw_tc hC (kw_type hk hC hi hb hl (codeAny_mono q fun r s' z => z)))⟩
end
end Xv
end
section
/-! Own exceptions (over ValueError, an __init__ of one field) as values. -/
namespace L2.Xv
open PySem PySem.Spec PyProof.Rows
/-- at a stands an exception of the class at C, its field f is v -/
def ErrAt (H : Hp) (a C : Addr) (f : Str) (v : V) : Prop := ∃ d, H a = some (exo a C (some d)) ∧ H d = some (exd d [(f, v)])
theorem ErrAt.same {H H' : Hp} {a C : Addr} {f : Str} {v : V} (h : ErrAt H a C f v) (s : Same H H') : ErrAt H' a C f v := by
  obtain ⟨d, h1, h2⟩ := h
  exact ⟨d, s _ _ h1, s _ _ h2⟩
/-- what such a class's __init__ does -/
def spIn (C : Addr) (f : Str) : Sp := fun vs H Q _ => ∃ (a : Addr) (y : V), vs = [.ref a, y] ∧ H a = some (exo a C none) ∧ ∀ dx, H dx = none → dx ≠ a → Q .non (upd (upd H dx (exd dx [(f, y)])) a (exo a C (some dx)))
/-- what is known of such a class -/
structure XCls (K : PySem.W.Frag) (C : Addr) : Prop where
  ox : OexC K C
  ga : PySem.W.findIn K (.ref C) "__getattribute__" = some (some (.builtin "BaseException.__getattribute__"))
  gt : PySem.W.findIn K (.ref C) "__getattr__" = some none
  hd : PySem.W.hasDictIn K C = true
  cl : PySem.W.findIn K (.ref C) "__class__" = some (some (.builtin "object.__class__"))
  ob : PySem.W.mroIn K C (.type "object") = some true
/-- and what is known whatever the class -/
structure XAll (K : PySem.W.Frag) : Prop where
  hn : PySem.W.specialIn K (.builtin "object.__class__") "__get__" = some (some (.builtin "getset_descriptor.__get__"))
  ht : PySem.W.takesIn K (.builtin "object.__class__") = some true
section
variable {X : Cx} {pins : List (Addr × Obj)} {σ : St} {H : Hp} {s : Shared}
theorem make_x {C fI : Addr} {k : Nat} {fd : FuncData} {ps : List Str} {f : Str} {Q : VK} {us ws : List Value} {kw : List (Str × Value)} {y : V} {u : Value}
    (T : OexC X.K C) (iC : PySem.W.findIn X.K (.ref C) "__init__" = some (some (.ref fI))) (tI : PySem.W.typeIn X.K (.ref fI) = some (.type "function"))
    (F1 : FnOk X.prog X.w X.K X.mg X.base CX0 k fI fd ps (spIn C f)) (hr : Room (k + 1) X.A) (I : Inv X pins σ H s) (hus : us.length ≤ sizeLine) (ry : RelV y u)
    (hb : ∀ (self : Value) (s' : Shared), X.K.In s'.heap → BindsTo s' fd ⟨self :: us, kw⟩ (ps.zip [self, u]))
    (h : ∀ a H2, H a = none → Same H H2 → ErrAt H2 a C f y → Q (.ref a) H2) : wpAny (model X.prog X.w) X.A (call (.ref C) us kw) (EP X pins σ Q) X.xe s := by
  obtain ⟨nm, q, N, bs, bm, sn, sub, ab, col, dd, k0, k1, k2, k3, k5, hC, hbm⟩ := T.cls
  obtain ⟨hp, g, dr, tk, os⟩ := s
  have hsz : hp.objs.size ≤ hp.objs.size + 1 := Nat.le_succ _
  have hn : H (hp.objs.size + 1) = none := I.hok.fresh hsz
  have kk : ∀ b o, hp.get? b = some o → ((hp.push (PySem.W.kdv_tup us)).push (PySem.HandSPX.excO C hp.objs.size)).get? b = some o := fun b o e => Heap.get?_push_of_some _ (Heap.get?_push_of_some _ e)
  have hget : ((hp.push (PySem.W.kdv_tup us)).push (PySem.HandSPX.excO C hp.objs.size)).get? (hp.objs.size + 1) = some (PySem.HandSPX.excO C hp.objs.size) := by heap_get
  have I2 : Inv X pins σ (upd H (hp.objs.size + 1) (exo (hp.objs.size + 1) C none)) ⟨(hp.push (PySem.W.kdv_tup us)).push (PySem.HandSPX.excO C hp.objs.size), g, dr, tk, os⟩ :=
    I.laid (t' := tk) (a := hp.objs.size + 1) (o := exo (hp.objs.size + 1) C none) (h' := (hp.push (PySem.W.kdv_tup us)).push (PySem.HandSPX.excO C hp.objs.size)) kk hsz (exo_ok hget)
  have r2 : Vals [V.ref (hp.objs.size + 1), y] [Value.ref (hp.objs.size + 1), u] := .cons rfl (.cons ry .nil)
  have hq : spIn C f [V.ref (hp.objs.size + 1), y] (upd H (hp.objs.size + 1) (exo (hp.objs.size + 1) C none)) (fun v H2 => v = .non ∧ Q (.ref (hp.objs.size + 1)) H2) (fun _ _ _ => False) := by
    refine ⟨_, y, rfl, upd_same, fun dx hdx ne => ⟨rfl, h _ _ hn (fun b o e => ?_) ⟨dx, upd_same, ?_⟩⟩⟩
    · have nb : b ≠ hp.objs.size + 1 := ne_of_none e hn
      have nd : b ≠ dx := by
        intro z
        rw [z] at e
        rw [upd_ne ne, e] at hdx
        cases hdx
      rw [upd_ne nb, upd_ne nd, upd_ne nb]
      exact e
    · rw [upd_ne ne, upd_same]
  refine wpAny_call (_root_.Xv.call_kw (k := ⟨nm, q, N, bs, bm, sn, sub, ab, col, dd, k0, k1, k2, k3, k5⟩) hbm (I.kIn _ _ hC) (PySem.W.looks_findIn I.kIn iC) (fun self => PySem.W.bind_fn I.kIn self tI) hus
    (codeAny_mono (F1.run _ X.stack _ _ ⟨Value.ref (hp.objs.size + 1) :: us, kw⟩ [Value.ref (hp.objs.size + 1), u] _ _ (fun _ _ _ => False) (hr.make C us kw) (I2.env0.make C us kw) (hb _ _ I2.kIn) r2 hq) fun r s' hq' => ?_))
  cases r with
  | error er => exact hq'.elim
  | ok fl =>
    cases fl with
    | ret w =>
      obtain ⟨v, H', I3, rv, ev, q3⟩ := I2.after hq'
      subst ev
      obtain rfl : w = Value.none := rv
      exact .inr ⟨rfl, ⟨V.ref (hp.objs.size + 1), H', I3, rfl, q3⟩⟩
    | next => exact False.elim hq'
    | brk => exact False.elim hq'
    | cont => exact False.elim hq'
/-- the object behind ErrAt -/
theorem err_get {C a : Addr} {f : Str} {v : V} (I : Inv X pins σ H s) (e : ErrAt H a C f v) : ∃ (ox od : Obj) (d : Addr) (mA : Str → Option Value), PySem.W.InstAt s.heap a ox C (some od) ∧ s.heap.Ns1 d mA ∧ s.heap.get? d = some od ∧ (∀ g, RelO (([(f, v)] : List (Str × V)).lookup g) (mA g)) := by
  obtain ⟨d, h1, h2⟩ := e
  obtain ⟨t1, ho⟩ := exo_at I.hok h1
  obtain ⟨mA, hns, rel⟩ := exd_at I.hok h2
  obtain ⟨od, es, ep, e1, r⟩ := id hns
  exact ⟨_, od, d, mA, ⟨ho, rfl, rfl, e1⟩, hns, e1, rel⟩
end
/-! ### readings and rules -/
/-- C(e): a new error that holds what e gives -/
def tX1 (C : Addr) (f : Str) (te : TE) : TE := fun σ H Q => te σ H fun y H1 => ∀ a H2, H1 a = none → Same H1 H2 → ErrAt H2 a C f y → Q (.ref a) H2
/-- C() -/
def tX0 (C : Addr) (f : Str) : TE := fun σ H Q => ∀ a H2, H a = none → Same H H2 → ErrAt H2 a C f .non → Q (.ref a) H2
/-- e.f -/
def tXf (K : PySem.W.Frag) (f : Str) (te : TE) : TE := fun σ H Q => te σ H fun x H1 => ∃ (a C : Addr) (v : V), x = .ref a ∧ XCls K C ∧ PySem.W.findIn K (.ref C) f = some none ∧ ErrAt H1 a C f v ∧ Q v H1
section
variable {X : Cx} {C fI : Addr} {k : Nat} {fd : FuncData} {ps : List Str} {f x : Str} {e : Expr} {te : TE} {p pos kp : Pos}
theorem pe_x1 (T : OexC X.K C) (iC : PySem.W.findIn X.K (.ref C) "__init__" = some (some (.ref fI))) (tI : PySem.W.typeIn X.K (.ref fI) = some (.type "function"))
    (F1 : FnOk X.prog X.w X.K X.mg X.base CX0 k fI fd ps (spIn C f)) (hr : Room (k + 1) X.A) (hb : ∀ (self u : Value) (s' : Shared), X.K.In s'.heap → BindsTo s' fd ⟨[self, u], []⟩ (ps.zip [self, u]))
    (hg : Gl X x) (hm : X.mg x = some (.ref C)) (he : PE X e te) (hdb : (x == ("__debug__" : Str)) = false := by decide) (hs : starEach [e] X.env = (false, eval e X.env) :: starEach [] X.env := by rfl) :
    PE X (.Call (.Name x p) [e] [] pos) (tX1 C f te) := by
  refine ⟨fun pins s σ H Q I h => ?_⟩
  refine wpAny_Call_Name_kw (ld_glob I hg hm ?_ hdb)
  refine PySem.W.callWith_K (h₀ := X.base) I.ok.mod.kin T.kC ?_ hs (by rfl)
  rw [hs]
  show wpAny _ _ (spliced ((false, eval e X.env) :: backTo pos (starEach [] X.env))) _ _ s
  refine PySem.Calls.spliced_cons (thn (he.run pins s σ H _ I h) fun u s1 ⟨v, H1, I1, r1, q1⟩ => ?_)
  refine PySem.Calls.spliced_nil ⟨I1.kIn, ?_⟩
  exact make_x (ws := []) T iC tI F1 hr I1 (by show 1 ≤ sizeLine; rw [sizeLine_eq]; decide) r1 (fun self s' K' => hb self u s' K') fun a H2 n sm er => q1 a H2 n sm er
theorem pe_x0 (T : OexC X.K C) (iC : PySem.W.findIn X.K (.ref C) "__init__" = some (some (.ref fI))) (tI : PySem.W.typeIn X.K (.ref fI) = some (.type "function"))
    (F1 : FnOk X.prog X.w X.K X.mg X.base CX0 k fI fd ps (spIn C f)) (hr : Room (k + 1) X.A) (hb : ∀ (self : Value) (s' : Shared), X.K.In s'.heap → BindsTo s' fd ⟨[self], []⟩ (ps.zip [self, .none]))
    (hg : Gl X x) (hm : X.mg x = some (.ref C)) (hdb : (x == ("__debug__" : Str)) = false := by decide) : PE X (.Call (.Name x p) [] [] pos) (tX0 C f) := by
  refine ⟨fun pins s σ H Q I h => ?_⟩
  refine wpAny_Call_Name_kw (ld_glob I hg hm ?_ hdb)
  refine PySem.W.callWith_K0 I.kIn T.kC ?_
  exact make_x (us := []) (ws := []) (y := .non) (u := .none) T iC tI F1 hr I (Nat.zero_le _) rfl (fun self s' K' => hb self s' K') fun a H2 n sm er => h a H2 n sm er
theorem pe_xk (T : OexC X.K C) (iC : PySem.W.findIn X.K (.ref C) "__init__" = some (some (.ref fI))) (tI : PySem.W.typeIn X.K (.ref fI) = some (.type "function"))
    (F1 : FnOk X.prog X.w X.K X.mg X.base CX0 k fI fd ps (spIn C f)) (hr : Room (k + 1) X.A) (hb : ∀ (self u : Value) (s' : Shared), X.K.In s'.heap → BindsTo s' fd ⟨[self], [(f, u)]⟩ (ps.zip [self, u]))
    (hg : Gl X x) (hm : X.mg x = some (.ref C)) (he : PE X e te) (hdb : (x == ("__debug__" : Str)) = false := by decide) :
    PE X (.Call (.Name x p) [] [⟨some f, e, kp⟩] pos) (tX1 C f te) := by
  refine ⟨fun pins s σ H Q I h => ?_⟩
  refine wpAny_Call_Name_kw (ld_glob I hg hm ?_ hdb)
  refine PySem.W.callWith_KW0 (h₀ := X.base) I.ok.mod.kin T.kC (by rfl) ?_ (by rfl)
  show wpAny _ _ (evalAll ((do let v ← eval e X.env; standAt pos; pure v) :: (backToKw pos (keywordEach [] X.env)).map (·.2))) _ _ s
  refine wpAny_evalAll_cons (wpAny_bind (thn (he.run pins s σ H _ I h) fun u s1 ⟨v, H1, I1, r1, q1⟩ => wpAny_bind (wpAny_standAt (wpAny_pure ?_))))
  refine wpAny_evalAll_nil ⟨I1.kIn, ?_⟩
  exact make_x (us := []) (ws := []) T iC tI F1 hr I1 (Nat.zero_le _) r1 (fun self s' K' => hb self u s' K') fun a H2 n sm er => q1 a H2 n sm er
theorem pe_xf (he : PE X e te) (hb : attributeBase e f X.env (eval e X.env) = eval e X.env := by rfl) : PE X (.Attribute e f pos) (tXf X.K f te) := by
  refine ⟨fun pins s σ H Q I h => ?_⟩
  refine attr_of hb (thn (he.run pins s σ H _ I h) fun u s1 hh => ?_)
  obtain ⟨x, H1, I1, rx, a, C, v, ex, T, hno, er, q⟩ := hh
  subst ex
  obtain rfl : u = Value.ref a := rx
  obtain ⟨ox, od, d, mA, J, hns, hod, rel⟩ := err_get I1 er
  obtain ⟨od', ho', hl⟩ := lookIn_ns hns
  have eo : od' = od := by
    rw [hod] at ho'
    exact (Option.some.inj ho').symm
  subst eo
  have l : List.lookup f [(f, v)] = some v := by simp [List.lookup]
  obtain ⟨u, hu, ru⟩ := RelO.some_of (v := v) (o := mA f) (by rw [← l]; exact rel f)
  exact PySem.HandSPX.exc_get I1.kIn J T.ga T.gt T.ox.exC (PySem.W.findObj_own T.hd hno rfl (by rw [hl, hu])) (handed_of ru) ⟨v, H1, I1.tok _, ru, q⟩
end
/-- isinstance(e, c), e an error at a -/
def rIsX (K : PySem.W.Frag) : List V → Hp → VK → Prop := fun xs H Q => ∃ (a C : Addr) (c : V) (u : Value) (b : Bool), xs = [.ref a, c] ∧ ClsV c u ∧ XCls K C ∧ ((∃ f v, ErrAt H a C f v) ∨ H a = some (exo a C none)) ∧ PySem.W.kitOne K (.ref C) u = some b ∧ Q (.bl b) H
theorem call_isX {X : Cx} (T : XAll X.K) : CallR X (.builtin "isinstance") (rIsX X.K) := by
  intro pins s σ H xs us Q I r h
  obtain ⟨a, C, c, u, b, rfl, k, D, er, e, q⟩ := h
  obtain ⟨u1, u2, rfl, r1, r2⟩ := vals2 r
  have e2 := k.eq r2
  subst e2
  obtain rfl : u1 = Value.ref a := r1
  have hcl : (PySem.W.clsIn X.K C).isSome = true := by
    obtain ⟨cd, hc, _⟩ := PySem.W.any_some D.hd
    rw [hc]
    rfl
  obtain ⟨ox, od, J⟩ : ∃ (ox : Obj) (od : Option Obj), PySem.W.InstAt s.heap a ox C od := by
    rcases er with ⟨f, v, er⟩ | er
    · obtain ⟨ox, od, _, _, J, _⟩ := err_get I er
      exact ⟨ox, some od, J⟩
    · obtain ⟨t1, ho⟩ := exo_at I.hok er
      exact ⟨_, none, ho, rfl, rfl, trivial⟩
  exact PySem.W.kia_one (PySem.W.kitx_exc hcl D.ga D.gt D.ox.exC D.cl T.hn T.ht D.ob) I.kIn J e (fun z => nomatch z) fun tk => ⟨.bl b, H, I.tok tk, rfl, q⟩
end L2.Xv
namespace L2.Xv
open PySem PySem.Spec PyProof.Rows
section
variable {X : Cx} {C : Addr} {x : Str} {p pos : Pos} {bmB : List Value} {B newId initId : String}
/-- C(), C without an __init__ of its own -/
theorem pe_x00 (F : ExcBaseFacts B newId initId bmB) (q : PySem.W.excIn X.K C bmB newId = true) (kC : PySem.W.keepIn X.K (.ref C) = true) (hg : Gl X x) (hm : X.mg x = some (.ref C)) (hdb : (x == ("__debug__" : Str)) = false := by decide) :
    PE X (.Call (.Name x p) [] [] pos) (fun _ H Q => ∀ a, H a = none → Q (.ref a) (upd H a (exo a C none))) := by
  refine ⟨fun pins s σ H Q I h => wpAny_Call_Name_kw (ld_glob I hg hm (PySem.W.callWith_K0 I.kIn kC ?_) hdb)⟩
  obtain ⟨bm, N, nm, qn, bs, hdct, sn, sub, ab, col, dd, k0, k1, k2, k3, k5, mN, hC, hN, hni, T⟩ := exc_obj I.kIn q
  refine wpAny_call_exc_subT F T hC hN hni (fun h' a hm => ?_) (Nat.zero_le _)
  have hn : H a = none := I.hok.gone hm.new
  obtain ⟨t, ht, _, _⟩ := hm.there
  exact ⟨.ref a, upd H a (exo a C none), I.laidN hm.keeps hm.new hn (exo_ok ht), rfl, h a hn⟩
end
end L2.Xv
end
section
/-! Defs whose promise knows that no repr is under way (so that they may ask repr of a list). -/
namespace L2.Xv
open PySem PySem.Spec PyProof.Rows
/-- room for k calls, and no repr under way -/
def Quiet (k : Nat) (A : Around) : Prop := Room k A ∧ A.guards = some []
theorem Quiet.mono {j k : Nat} {A : Around} (q : Quiet k A) (h : j ≤ k) : Quiet j A := ⟨q.1.mono h, q.2⟩
/-- FnOk under Quiet; nothing is raised -/
structure FnQ (P : Program) (w : World) (K : PySem.W.Frag) (mg : Str → Option Value) (base : Heap) (k : Nat) (f : Addr) (fd : FuncData) (ps : List Str) (sp : Sp) : Prop where
  num : ∀ vs H Q E, sp vs H Q E → vs.length = ps.length
  go : ∀ {A : Around} {outer : List Env} {s : Shared} {H : Hp} {args : Args} {us : List Value} {vs : List V} {Q : VK} {E : XK}, Quiet k A → Env0 P w K mg base A outer s H → BindsTo s fd args (ps.zip us) → Vals vs us → sp vs H Q E →
    codeAny (model P w) A (.call (.ref f) args) (CR CX0 outer P w H s Q E) s
section
variable {P : Program} {w : World} {K : PySem.W.Frag} {mg : Str → Option Value} {base : Heap} {f : Addr} {fd : FuncData} {ps N : List Str} {sp : Sp} {k : Nat} {x qual : Str} {params : Arguments} {body : List Stmt} {scope : Scope} {dvs : List V} {kws : List (Str × V)}
theorem FnQ.of (F : FnOk P w K mg base CX0 k f fd ps sp) : FnQ P w K mg base k f fd ps sp := ⟨F.len, fun q e b v h => F.run _ _ _ _ _ _ _ _ _ q.1 e b v h⟩
/-- a def's body, walked under Quiet, keeps the def's promise -/
theorem fnQ (F : FunD K x qual params body scope dvs kws f fd) (S : FnScope N ps scope) (num : ∀ vs H Q E, sp vs H Q E → vs.length = ps.length)
    (walk : ∀ (cdv : Value) (A : Around) (outer : List Env) (s : Shared) (H : Hp) (vs : List V) (Q : VK) (E : XK), Quiet k (A.deeper (envOfC qual scope s.heap.objs.size f cdv)) → sp vs H Q E →
      ∃ t, PSs (cxOf CX0 P w K mg base N qual scope f cdv A outer s H E) body t ∧ t { nx := fun _ H' => Q .non H', rt := Q } (start N vs) H) : FnQ P w K mg base (k + 1) f fd ps sp := by
  refine ⟨num, ?_⟩
  intro A outer s H args us vs Q E q e0 hb rv h
  obtain ⟨oc, od, dV, kV, doc, pm, an, cdv, ct, osl, rfl, lk, hcd, _, _⟩ := F.ex
  have up : ∀ b o, base.get? b = some o → s.heap.get? b = some o := fun b o z => (e0.bs b o z).1
  have KX := e0.mod.kin.keeps up
  refine codeAny_call_function q.1.depth (KX _ _ lk) rfl S.co S.gen rfl (PySem.W.codeRec_of KX hcd) (hb _ _ _ _ (wpAny_newFunctionEnv_cells S.kind ?_ ?_))
  · rintro ⟨n, v⟩ hy
    have hn := (List.of_mem_zip hy).1
    exact (S.par n hn).imp id fun c => ⟨c, PySem.W.cellsFrom_some _ _ _ (.inl c)⟩
  · rintro env rfl s1 y
    refine ⟨(e0.mod.nolimit.keeps up).keeps y.toInCall.keep, codeAny_func ?_⟩
    obtain ⟨t, ht, hq⟩ := walk cdv A outer s H vs Q E ⟨q.1.deeper _, q.2⟩ h
    have J := inv_start (CX := CX0) (N := N) (E := E) S q.1.hd e0 (num _ _ _ _ h) rv y
    refine wpAny_mono (ht.run [] s1 (start N vs) H _ J hq) ?_ fun _ _ z => z
    intro fl s' hs
    cases fl with
    | next => obtain ⟨_, H', J', z⟩ := hs; exact ⟨.non, H', J'.os, J'.bare, J'.base, J'.hok, rfl, z⟩
    | ret u => obtain ⟨v, _, H', J', r', z⟩ := hs; exact ⟨v, H', J'.os, J'.bare, J'.base, J'.hok, r', z⟩
    | brk => obtain ⟨_, _, _, z⟩ := hs; exact z.elim
    | cont => obtain ⟨_, _, _, z⟩ := hs; exact z.elim
end
section
variable {X : Cx} {k : Nat} {f : Addr} {fd : FuncData} {ps : List Str} {sp : Sp} {dvs : List V} {ds : List Value} {E : XK} {x : Str} {p pos : Pos} {e : Expr} {es : List Expr} {t : TA}
theorem run_q {pins : List (Addr × Obj)} {σ : St} {H : Hp} {s : Shared} {Q : VK} {us : List Value} {vs : List V} (F : FnQ X.prog X.w X.K X.mg X.base k f fd ps sp) (q : Quiet k X.A) (hb : Binds X.K fd ps ds) (hd : Vals dvs ds)
    (I : Inv X pins σ H s) (r : Vals vs us) (h : sp (vs ++ dvs) H Q E) : wpAny (model X.prog X.w) X.A (call (.ref f) us) (EP X pins σ Q) X.xe s := by
  have rr : Vals (vs ++ dvs) (us ++ ds) := r.append hd
  have n : (us ++ ds).length = ps.length := rr.length.symm.trans (F.num _ _ _ _ h)
  refine wpAny_call (codeAny_mono (F.go q I.env0 (hb s us I.kIn n) rr h) ?_)
  rintro (er | fl) s' z
  · exact z.elim
  · cases fl with
    | ret u => exact I.after z
    | _ => exact False.elim z
theorem pe_callQ (F : FnQ X.prog X.w X.K X.mg X.base k f fd ps sp) (q : Quiet k X.A) (hg : Gl X x) (hm : X.mg x = some (.ref f)) (hk : PySem.W.keepIn X.K (.ref f) = true) (hb : Binds X.K fd ps ds) (hd : Vals dvs ds)
    (ha : PA X (e :: es) t) (hdb : (x == ("__debug__" : Str)) = false := by decide) (he : starEach (e :: es) X.env = (false, eval e X.env) :: starEach es X.env := by rfl) (hpl : (backTo pos (starEach es X.env)).any (·.1) = false := by rfl) :
    PE X (.Call (.Name x p) (e :: es) [] pos) (tCall sp dvs E t) :=
  ⟨fun pins s σ H _ I h => wpAny_Call_Name_kw (ld_glob I hg hm (PySem.W.callWith_K (h₀ := X.base) I.ok.mod.kin hk (thn (ha.run pos pins s σ H _ I h) fun _ _ ⟨_, _, I1, r, z⟩ => ⟨I1.kIn, run_q F q hb hd I1 r z⟩) he hpl) hdb)⟩
end
/-! ### the law's call -/
/-- the script alone is tracked, or it is one of the module's objects -/
theorem law_go {P : Program} {w : World} {K : PySem.W.Frag} {mg mb : Str → Option Value} {k : Nat} {fa a : Addr} {fd : FuncData} {x : Str} {sp : Sp} {s₁ : Shared} {vs : List Value} {H : Hp}
    (KX : K.In s₁.heap) (hns : s₁.heap.Ns mainGlobals mg) (hb : s₁.heap.Ns builtinsNs mb) (hbb : ∀ x : Str, x ≠ "__name__" → mb x = bootBuiltins x) (hlim : s₁.heap.NoLimit) (hg : s₁.gens = #[])
    (ha : s₁.heap.get? a = some { cls := .type "list", data := .seq vs.toArray }) (hr : Room k callerA)
    (F : ∀ base : Heap, K.In base → base.Ns mainGlobals mg → FnQ P w K mg base k fa fd [x] sp) (hbind : ∀ (s : Shared) (u : Value), BindsTo s fd ⟨[u], []⟩ [(x, u)])
    (hO : Only H) (hok : HOk P w H s₁.heap) (only : ∀ b u, H b = some u → b = a ∧ K.lookup a = none) (hsp : sp [.ref a] H (fun v _ => v = .bl true) fun _ _ _ => False) :
    codeAny (model P w) callerA (.call (.ref fa) ⟨[.ref a], []⟩) (fun r s' => r = .ok (.ret (.bool true)) ∧ OldK s₁.heap s'.heap ∧ s'.os = s₁.os ∧ AllBare s'.gens) s₁ := by
  have hid : ∀ {b : Addr} {o : Obj}, s₁.heap.get? b = some o → (∀ u, H b ≠ some u) → (hidT s₁.heap H).get? b = some o := fun e n => hidT_get e (Option.eq_none_iff_forall_ne_some.mpr n)
  have dictOk : ∀ {b : Addr} {m : Str → Option Value}, s₁.heap.Ns b m → (hidT s₁.heap H).Ns b m := by
    rintro b m ⟨o, es, ep, e, d, r⟩
    refine ⟨o, es, ep, hid e fun u z => ?_, d, r⟩
    obtain ⟨rfl, _⟩ := only b u z
    rw [ha] at e
    cases e
    cases (show Data.seq vs.toArray _ = Data.dict es ep from d)
  have hK : K.In (hidT s₁.heap H) := fun b o e => hid (KX b o e) fun u z => by
    obtain ⟨rfl, n⟩ := only b u z
    rw [n] at e
    cases e
  have M : Mod K mg (hidT s₁.heap H) := ⟨hK, dictOk hns, ⟨mb, dictOk hb, hbb⟩, by obtain ⟨m, h1, h2⟩ := hlim; exact ⟨m, dictOk h1, h2⟩⟩
  have e0 : Env0 P w K mg (hidT s₁.heap H) callerA [] s₁ H := { frames := rfl, mod := M, bs := fun _ _ e => of_hidT e, bsz := Nat.le_of_eq (hidT_size _ _), funs := trivial, frf := fun b z => absurd (show b ∈ ([] : List Addr) from z) (by simp), hok := hok, bare := .of_eq hg }
  refine codeAny_mono ((F _ hK (dictOk hns)).go (us := [Value.ref a]) (vs := [V.ref a]) ⟨hr, rfl⟩ e0 (hbind s₁ (.ref a)) (.cons rfl .nil) hsp) ?_
  rintro (er | fl) s' z
  · exact z.elim
  cases fl with
  | ret u =>
    obtain ⟨v, H', os, bare, un, hok', rv, ev⟩ := z
    rw [show v = .bl true from ev] at rv
    refine ⟨congrArg (fun q => Except.ok (Flow.ret q)) rv, OldK.of_keep fun b o e => ?_, os, bare⟩
    have fr : b ∉ frs ([] : List Env) := fun q => absurd (show b ∈ ([] : List Addr) from q) (by simp)
    cases q : H b with
    | none => exact un.keep b o e q fr (by simp)
    | some u =>
      rcases hO b with n | ⟨ob, xs, y⟩
      · rw [q] at n
        cases n
      · have h1 := (hok b _ y).1
        have h2 := (hok' b _ (un.frzs b ob _ y)).1
        rw [e] at h1
        cases h1
        exact h2
  | _ => exact False.elim z
/-- a law by the promise of its def -/
theorem law_by {l : PySem.W.OpenLaw} {n k : Nat} {q : Program} {loose : List Str} {XP : (Str → Option Value) → Heap → Prop} {YP : World → Heap → Prop} {d : DefRec} {x : Str}
    (hn : l.most = some n) (hn2 : n ≤ sizeLine) (hdf : d.params.defaults = []) (hr : Room k callerA)
    (F : ∀ (w : World) (mg : Str → Option Value) (fa : Addr) (h : Heap), YP w h → h.Ns mainGlobals mg → mg d.name = some (.ref fa) →
      ∃ (K : PySem.W.Frag) (fd : FuncData) (sp : Sp), K.In h ∧ (∀ (s : Shared) (u : Value), BindsTo s fd ⟨[u], []⟩ [(x, u)]) ∧
        (∀ (H : Hp) (a : Addr) (ns : List Int), ns.length ≤ n → SqL K H a (ns.map V.int) → sp [.ref a] H (fun v _ => v = .bl true) fun _ _ _ => False) ∧
        ∀ base : Heap, K.In base → base.Ns mainGlobals mg → FnQ l.prog w K mg base k fa fd [x] sp) :
    PySem.W.WalkO q loose XP YP l.row.toRowW d [] (fun f vs => PySem.call f vs) := by
  refine Att.attach_call hn hdf fun w s₀ s₁ mg mb fa o pm cd doc a vs ns G Y ho hd hcd hmg hobj hints hlen hg => ?_
  obtain ⟨K, fd, sp, KX, hb, hsp, hF⟩ := F w mg fa _ Y G.T.g hmg
  have rv := vals_ints hints
  have sz : ns.length ≤ sizeLine := Nat.le_trans hlen hn2
  cases hk : K.lookup a with
  | some ob =>
    have e := KX a ob hk
    rw [hobj] at e
    cases e
    refine law_go (H := fun _ => none) KX G.T.g G.T.b G.T.builtins G.T.nolimit hg hobj hr hF hb (fun _ => .inl rfl) (fun b u z => by cases z) (fun b u z => by cases z) (hsp _ a ns hlen ?_)
    exact .inr ⟨_, vs.toArray, _, hk, rfl, rfl, rfl, by rw [List.size_toArray, ← rv.length, List.length_map]; exact sz, by simpa using rv⟩
  | none =>
    have at_ : ∀ {b : Addr} {u : HO}, (if b = a then some (HO.frz { cls := .type "list", data := .seq vs.toArray } (.lst (ns.map V.int))) else none) = some u → b = a ∧ u = .frz { cls := .type "list", data := .seq vs.toArray } (.lst (ns.map V.int)) := by
      intro b u z
      split at z
      · rename_i eb
        exact ⟨eb, (Option.some.inj z).symm⟩
      · cases z
    refine law_go (H := fun b => if b = a then some (.frz { cls := .type "list", data := .seq vs.toArray } (.lst (ns.map V.int))) else none) KX G.T.g G.T.b G.T.builtins G.T.nolimit hg hobj hr hF hb (fun b => ?_) (fun b u z => ?_) (fun b u z => ⟨(at_ z).1, hk⟩) (hsp _ a ns hlen (.inl (.inr ⟨_, if_pos rfl⟩)))
    · by_cases eb : b = a
      · exact .inr ⟨_, _, if_pos eb⟩
      · exact .inl (if_neg eb)
    · obtain ⟨rfl, rfl⟩ := at_ z
      exact ⟨hobj, by rw [List.length_map]; exact sz, vs, _, rv, hobj⟩
end L2.Xv
end
section
/-! repr of what stands in the heap, dicts too. -/
namespace L2.Xv
open PySem PySem.Spec PyProof.Rows
def keyD : Key → PyData
  | .inl i => .int i
  | .inr x => .str x
mutual
/-- v is the data d, in the heap H -/
inductive Sd (K : PySem.W.Frag) (H : Hp) : V → PyData → Prop
  | non : Sd K H .non .none
  | bl (b : Bool) : Sd K H (.bl b) (.bool b)
  | int (i : Int) : Sd K H (.int i) (.int i)
  | str (x : Str) : Sd K H (.str x) (.str x)
  | lst {a : Addr} {xs : List V} {ds : List PyData} : SqL K H a xs → SdAll K H xs ds → Sd K H (.ref a) (.list ds)
  | tup {a : Addr} {xs : List V} {ds : List PyData} : SqT K H a xs → SdAll K H xs ds → Sd K H (.ref a) (.tuple ds)
  | dct {a : Addr} {kvs : List (Key × V)} {ds : List (PyData × PyData)} : H a = some (.dK kvs) → SdKv K H kvs ds → Sd K H (.ref a) (.dict ds)
inductive SdAll (K : PySem.W.Frag) (H : Hp) : List V → List PyData → Prop
  | nil : SdAll K H [] []
  | cons {v : V} {vs : List V} {d : PyData} {ds : List PyData} : Sd K H v d → SdAll K H vs ds → SdAll K H (v :: vs) (d :: ds)
inductive SdKv (K : PySem.W.Frag) (H : Hp) : List (Key × V) → List (PyData × PyData) → Prop
  | nil : SdKv K H [] []
  | cons {k : Key} {v : V} {vs : List (Key × V)} {d : PyData} {ds : List (PyData × PyData)} : Sd K H v d → SdKv K H vs ds → SdKv K H ((k, v) :: vs) ((keyD k, d) :: ds)
end
/-- where the interpreter's modules stand is no list -/
def SysK (K : PySem.W.Frag) : Prop := ∃ o, K.lookup sysModules = some o ∧ o.cls ≠ .type "list"
theorem key_reads {h : Heap} {k : Key} {u : Value} (e : keyIs k u = true) : Reads h u (keyD k) [] := by
  rcases keyIs_shape e with ⟨i, t, rfl, rfl⟩ | ⟨x, t, rfl, rfl⟩
  · exact .int i t
  · exact .str x t
section
variable {X : Cx} {pins : List (Addr × Obj)} {σ : St} {H : Hp} {s : Shared}
mutual
theorem Sd.reads (I : Inv X pins σ H s) (S : SysK X.K) {v : V} {d : PyData} : Sd X.K H v d → ∀ u, RelV v u → ∃ as, Reads s.heap u d as ∧ sysModules ∉ as
  | .non, _, r => by
    cases r
    exact ⟨[], .none, by simp⟩
  | .bl b, _, r => by
    cases r
    exact ⟨[], .bool b, by simp⟩
  | .int i, _, r => by
    obtain ⟨t, rfl⟩ := r
    exact ⟨[], .int i t, by simp⟩
  | .str x, _, r => by
    obtain ⟨t, rfl⟩ := r
    exact ⟨[], .str x t, by simp⟩
  | .lst (a := a) hs ha, _, r => by
    cases r
    obtain ⟨its, rv, ⟨o, n, ho, hc, _, hd⟩, _⟩ := I.list hs
    obtain ⟨as, q, nq⟩ := SdAll.reads I S ha _ rv
    refine ⟨a :: as, .list ho hc hd q, fun z => ?_⟩
    rcases List.mem_cons.mp z with e | z
    · obtain ⟨om, lm, cm⟩ := S
      have y := I.kIn _ _ lm
      rw [e, ho] at y
      cases y
      exact cm hc
    · exact nq z
  | .tup hs ha, _, r => by
    cases r
    obtain ⟨its, rv, ⟨o, ho, hc, n, hd⟩, _⟩ := I.tuple hs
    obtain ⟨as, q, nq⟩ := SdAll.reads I S ha _ rv
    exact ⟨as, .tuple ho hc hd q, nq⟩
  | .dct (a := a) (kvs := kvs) e hk, _, r => by
    cases r
    obtain ⟨_, ns, vs, rv, o, es, ep, ho, hx, hd, hko, hp, _⟩ := (show ObjOk X.prog X.w H s.heap a (.dK kvs) from I.hok a _ e)
    obtain ⟨as, bs, q1, q2, n1, n2⟩ := SdKv.reads I S hk _ _ rv hp
    refine ⟨a :: as ++ bs, .dict ho hx.1 hd q1 q2, fun z => ?_⟩
    rcases List.mem_append.mp z with z | z
    · rcases List.mem_cons.mp z with z | z
      · rw [← z] at ns
        simp at ns
      · exact n1 z
    · exact n2 z
theorem SdAll.reads (I : Inv X pins σ H s) (S : SysK X.K) {vs : List V} {ds : List PyData} : SdAll X.K H vs ds → ∀ us, Vals vs us → ∃ as, ReadsAll s.heap us ds as ∧ sysModules ∉ as
  | .nil, _, r => by
    cases r
    exact ⟨[], .nil, by simp⟩
  | .cons h t, _, r => by
    cases r with
    | cons r1 r2 =>
      obtain ⟨as, q1, n1⟩ := Sd.reads I S h _ r1
      obtain ⟨bs, q2, n2⟩ := SdAll.reads I S t _ r2
      exact ⟨as ++ bs, .cons q1 q2, fun z => (List.mem_append.mp z).elim n1 n2⟩
theorem SdKv.reads (I : Inv X pins σ H s) (S : SysK X.K) {kvs : List (Key × V)} {ds : List (PyData × PyData)} : SdKv X.K H kvs ds → ∀ (vs : List (Key × Value)) (es : List DictEntry), KV kvs vs → Pairs (mixKind X.prog X.w) es vs →
    ∃ as bs, ReadsAll s.heap (es.map (·.key)) (ds.map (·.1)) as ∧ ReadsAll s.heap (es.map (·.val)) (ds.map (·.2)) bs ∧ sysModules ∉ as ∧ sysModules ∉ bs
  | .nil, _, _, r, p => by
    cases r
    cases p
    exact ⟨[], [], .nil, .nil, by simp, by simp⟩
  | .cons (k := k) h t, _, _, r, p => by
    cases r with
    | cons r1 r2 =>
      cases p with
      | cons p1 p2 p3 =>
        obtain ⟨e1, rv⟩ := r1
        obtain ⟨bs, q2, n2⟩ := Sd.reads I S h _ rv
        obtain ⟨cs, ds', q3, q4, n3, n4⟩ := SdKv.reads I S t _ _ r2 p3
        dsimp only at e1 rv q2
        rw [← e1] at p1
        refine ⟨[] ++ cs, bs ++ ds', .cons (key_reads p1) q3, ?_, fun z => ?_, fun z => (List.mem_append.mp z).elim n2 n4⟩
        · refine .cons ?_ q4
          show Reads s.heap _ _ _
          dsimp only
          rw [p2]
          exact q2
        · rw [List.nil_append] at z
          exact n3 z
end
end
/-- repr(x) -/
def rRepr (K : PySem.W.Frag) : List V → Hp → VK → Prop := fun xs H Q => ∃ (v : V) (d : PyData), xs = [v] ∧ Sd K H v d ∧ d.showable = true ∧ d.shown.length ≤ sizeLine ∧ d.depth ≤ 60 ∧ Q (.str d.shown) H
theorem call_repr {X : Cx} {k : Nat} (S : SysK X.K) (q : Quiet k X.A) : CallR X (.builtin "repr") (rRepr X.K) := by
  intro pins s σ H xs us Q I r h
  obtain ⟨v, d, rfl, hv, hs, hz, hd, z⟩ := h
  cases r with
  | cons rv rn =>
    rename_i u _
    cases rn
    have back : ∀ {tk : Nat} {t : Tok}, EP X pins σ Q (.str d.shown t) { s with toks := tk } := fun {tk t} => ⟨.str d.shown, H, I.tok tk, ⟨t, rfl⟩, z⟩
    cases hv with
    | non => cases rv; exact PySem.P.repr_of_none back
    | bl b => cases rv; exact PySem.P.repr_of_bool back
    | int i => obtain ⟨t, rfl⟩ := rv; exact PySem.P.repr_of_int (of_decide_eq_true hs) back
    | str x => obtain ⟨t, rfl⟩ := rv; exact PySem.P.repr_of_str back hz
    | _ =>
      cases rv
      rename_i a _ _ h1 h2
      obtain ⟨as, rd, na⟩ := Sd.reads I S (v := .ref a) (by first | exact Sd.lst h1 h2 | exact Sd.tup h1 h2 | exact Sd.dct h1 h2) (.ref a) rfl
      refine repr_of_reads' rd hs (fun _ => na) q.2 ?_ (fun _ _ e => e) (fun h' u tk hk => ⟨.str _, H, I.kept (t' := tk) hk, ⟨u, rfl⟩, z⟩) hz
      have := q.1.un
      omega
end L2.Xv
end
section
/-! What the top leaves, read by one look: defs by names, and any checks of one's own over the written part. -/
namespace L2.Xv
open PySem PySem.Spec PyProof.Rows He
/-- the written part that is looked at: what the module's names reach, and where the interpreter's modules stand -/
def partG (n : Nat) (g : Addr → Option Obj) : PySem.W.Frag := frG g (sysModules :: asD g n)
def obsX (n : Nat) (ck : PySem.W.Frag → Bool) (fn : List DefD) (g : Addr → Option Obj) : Bool × AlD := (fun K => (ck K, obsD [] fn K)) (partG n g)
def hookX (n : Nat) (ck : PySem.W.Frag → Bool) (fn : List DefD) : PySem.W.Hook where
  α := Bool × AlD
  obs := fun s => obsX n ck fn s.heap.get?
  val := fun _ => (true, valD fn)
  says := fun _ h => ∃ K : PySem.W.Frag, K.In h ∧ ck K = true ∧ SaysD [] fn K
  of := fun _ _ e => ⟨_, frG_in, congrArg Prod.fst e, congrArg Prod.snd e⟩
  keeps := fun _ _ _ ⟨K, a, b, c⟩ k => ⟨K, PySem.W.Frag.In.keeps a k, b, c⟩
theorem obsX_eq {n : Nat} {ck : PySem.W.Frag → Bool} {fn : List DefD} {g : Addr → Option Obj} {s : Shared} (h : ∀ a, g a = s.heap.get? a) : obsX n ck fn g = (hookX n ck fn).obs s := by
  have e : g = s.heap.get? := funext h
  rw [e]
  rfl
/-! ### checks -/
def isO (a b : Option Bool) : Bool := match a, b with
  | some x, some y => x == y
  | _, _ => false
theorem isO_ok {a : Option Bool} {b : Bool} (h : isO a (some b) = true) : a = some b := by
  cases a with
  | none => cases h
  | some x =>
    have e : (x == b) = true := h
    rw [eq_of_beq e]
def isV (a : Option Value) (T : String) : Bool := match a with
  | some (.type t) => t == T
  | _ => false
theorem isV_ok {a : Option Value} {T : String} (h : isV a T = true) : a = some (.type T) := by
  unfold isV at h
  split at h
  · rw [eq_of_beq h]
  · cases h
def ooB (a : Option (Option Value)) (n : String) : Bool := match a with
  | some (some (.builtin m)) => m == n
  | _ => false
theorem ooB_ok {a : Option (Option Value)} {n : String} (h : ooB a n = true) : a = some (some (.builtin n)) := by
  unfold ooB at h
  split at h
  · rw [eq_of_beq h]
  · cases h
def ooN (a : Option (Option Value)) : Bool := match a with
  | some none => true
  | _ => false
theorem ooN_ok {a : Option (Option Value)} (h : ooN a = true) : a = some none := by
  unfold ooN at h
  split at h
  · rfl
  · cases h
def ooR (a : Option (Option Value)) (p : Addr) : Bool := match a with
  | some (some (.ref q)) => q == p
  | _ => false
theorem ooR_ok {a : Option (Option Value)} {p : Addr} (h : ooR a p = true) : a = some (some (.ref p)) := by
  unfold ooR at h
  split at h
  · rw [eq_of_beq h]
  · cases h
/-- the class object of an own exception -/
def excB (K : PySem.W.Frag) (C : Addr) : Bool := match K.lookup C with
  | some ⟨.type "type", _, .cls cd, sl⟩ => (match cd.mro, sl.toList with
    | .ref C' :: bm, [_, _, _, _, some (.builtin n), _] => C' == C && (n == "ValueError.__new__" && (!cd.hasDel && (cd.hasDict && PySem.HandSPX.refsVE bm)))
    | _, _ => false)
  | _ => false
theorem excB_ok {K : PySem.W.Frag} {C : Addr} (q : excB K C = true) : ∃ nm q N bs bm sn sub ab col dd k0 k1 k2 k3 k5, K.lookup C = some (excClassObj nm q C N bs bm true sn sub ab col dd k0 k1 k2 k3 k5 "ValueError.__new__") ∧ PySem.HandSPX.refsVE bm = true := by
  unfold excB at q
  split at q
  · rename_i dd cd sl ho
    split at q
    · rename_i C' bm k0 k1 k2 k3 n k5 hm hs
      simp only [Bool.and_eq_true, Bool.not_eq_true'] at q
      obtain ⟨e1, e2, e3, e4, e5⟩ := q
      have e1 := eq_of_beq e1
      have e2 := eq_of_beq e2
      subst e1 e2
      obtain ⟨nm, bs, mro, ns, qn, hd, sn, sub, ab, col, del⟩ := cd
      obtain ⟨l⟩ := sl
      dsimp only at hm hs e3 e4
      subst hm hs e3 e4
      exact ⟨nm, qn, ns, bs, bm, sn, sub, ab, col, dd, k0, k1, k2, k3, k5, ho, e5⟩
    · cases q
  · cases q
def xclsB (K : PySem.W.Frag) (C : Addr) : Bool := excB K C && (ooB (PySem.W.findIn K (.ref C) "__setattr__") "object.__setattr__" && (isO (PySem.W.subIn K (.ref C) (.type "BaseException")) (some true) && (isV (PySem.W.typeIn K (.ref C)) "type" && (PySem.W.keepIn K (.ref C) &&
  (ooB (PySem.W.findIn K (.ref C) "__getattribute__") "BaseException.__getattribute__" && (ooN (PySem.W.findIn K (.ref C) "__getattr__") && (PySem.W.hasDictIn K C && (ooB (PySem.W.findIn K (.ref C) "__class__") "object.__class__" && isO (PySem.W.mroIn K C (.type "object")) (some true)))))))))
theorem xclsB_ok {K : PySem.W.Frag} {C : Addr} (h : xclsB K C = true) : XCls K C := by
  obtain ⟨h1, h⟩ := ba h
  obtain ⟨h2, h⟩ := ba h
  obtain ⟨h3, h⟩ := ba h
  obtain ⟨h4, h⟩ := ba h
  obtain ⟨h5, h⟩ := ba h
  obtain ⟨h6, h⟩ := ba h
  obtain ⟨h7, h⟩ := ba h
  obtain ⟨h8, h⟩ := ba h
  obtain ⟨h9, h10⟩ := ba h
  exact ⟨⟨excB_ok h1, ooB_ok h2, isO_ok h3, isV_ok h4, h5⟩, ooB_ok h6, ooN_ok h7, h8, ooB_ok h9, isO_ok h10⟩
def xallB (K : PySem.W.Frag) : Bool := ooB (PySem.W.specialIn K (.builtin "object.__class__") "__get__") "getset_descriptor.__get__" && isO (PySem.W.takesIn K (.builtin "object.__class__")) (some true)
theorem xallB_ok {K : PySem.W.Frag} (h : xallB K = true) : XAll K := ⟨ooB_ok (ba h).1, isO_ok (ba h).2⟩
def sysB (K : PySem.W.Frag) : Bool := match K.lookup sysModules with
  | some o => (match o.cls with
    | .type t => !(t == "list")
    | _ => true)
  | none => false
theorem sysB_ok {K : PySem.W.Frag} (h : sysB K = true) : SysK K := by
  unfold sysB at h
  split at h
  · rename_i o e
    refine ⟨o, e, fun z => ?_⟩
    rw [z] at h
    simp at h
  · cases h
/-- the module's name x is an object -/
def gloB (K : PySem.W.Frag) (x : Str) : Bool := ooR (PySem.W.nsIn K mainGlobals x) (ga K x)
def freeB (K : PySem.W.Frag) (x : Str) : Bool := ooN (PySem.W.nsIn K mainGlobals x)
theorem gloB_ok {K : PySem.W.Frag} {h : Heap} {mg : Str → Option Value} (X : K.In h) (G : h.Ns mainGlobals mg) {x : Str} (c : gloB K x = true) : mg x = some (.ref (ga K x)) := PySem.W.mg_of X G (ooR_ok c)
theorem freeB_ok {K : PySem.W.Frag} {h : Heap} {mg : Str → Option Value} (X : K.In h) (G : h.Ns mainGlobals mg) {x : Str} (c : freeB K x = true) : mg x = none := PySem.W.mg_none_of X G (ooN_ok c)
/-- a class's own __init__ -/
def initB (K : PySem.W.Frag) (C : Addr) : Bool := ooR (PySem.W.findIn K (.ref C) "__init__") (ma K C "__init__") && isV (PySem.W.typeIn K (.ref (ma K C "__init__"))) "function"
end L2.Xv
end
section
namespace K00
open PySem PySem.Spec PyProof.Rows L2 L2.Xv He
/-! ### the text -/
def top (i : Nat) : Stmt := PySem.Challenge.pw_millpapers_k00_errors.main.body.getD i (.Pass ⟨0, 0, 0, 0⟩)
/-- a class, its field -/
def ecs : List (Str × Str) := [("InvalidList", "value"), ("InvalidItem", "value"), ("InvalidNumber", "value"), ("InvalidMill", "value"), ("InvalidHoldings", "value"), ("InvalidRow", "value"), ("InvalidBox", "value"), ("InvalidChain", "value"), ("InvalidBrew", "value"), ("InvalidBands", "value"), ("InvalidEntries", "value"), ("InvalidBook", "value"), ("UnlikeBooks", "value"), ("InvalidText", "value"), ("InvalidLot", "value"), ("InvalidPrices", "value"), ("InvalidClaim", "value"), ("InvalidName", "name"), ("TakenName", "name"), ("UnknownName", "name"), ("Lacking", "name"), ("UnknownBooking", "number"), ("UnknownClaim", "number")]
def names : List Str := ecs.map (·.1) ++ (["NothingToUndo", "MillError"] : List Str)
def dI (i : Nat) (x : Str) : DefD := ⟨(x, some "__init__"), "__init__", x ++ ".__init__", defArgs (inClass (top (i + 2)) 0), defBody (inClass (top (i + 2)) 0), defScope (inClass (top (i + 2)) 0), [.non], []⟩
def dF (i : Nat) (x : Str) : DefD := ⟨(x, none), x, x, defArgs (top (i + 27)), defBody (top (i + 27)), defScope (top (i + 27)), [], []⟩
def dIs : List DefD := [dI 0 "InvalidList", dI 1 "InvalidItem", dI 2 "InvalidNumber", dI 3 "InvalidMill", dI 4 "InvalidHoldings", dI 5 "InvalidRow", dI 6 "InvalidBox", dI 7 "InvalidChain", dI 8 "InvalidBrew", dI 9 "InvalidBands", dI 10 "InvalidEntries", dI 11 "InvalidBook", dI 12 "UnlikeBooks", dI 13 "InvalidText", dI 14 "InvalidLot", dI 15 "InvalidPrices", dI 16 "InvalidClaim", dI 17 "InvalidName", dI 18 "TakenName", dI 19 "UnknownName", dI 20 "Lacking", dI 21 "UnknownBooking", dI 22 "UnknownClaim"]
def dFs : List DefD := [dF 0 "_law_hash", dF 1 "_law_random", dF 2 "_law_cell", dF 3 "_law_generator", dF 4 "_law_kinds", dF 5 "_law_plain", dF 6 "_law_named", dF 7 "_law_bare", dF 8 "_law_fields", dF 9 "_law_right", dF 10 "law"]
def fn : List DefD := dIs ++ dFs
def kitB (K : PySem.W.Frag) : Bool := names.all fun x => isO (PySem.W.kitOne K (.ref (ga K x)) (.type "ValueError")) (some true) && names.all fun y => isO (PySem.W.kitOne K (.ref (ga K x)) (.ref (ga K y))) (some (decide (x = y) || decide (y = "MillError")))
def ck (K : PySem.W.Frag) : Bool := xallB K && (sysB K && ((names.all fun x => gloB K x && xclsB K (ga K x)) && ((ecs.all fun c => initB K (ga K c.1) && ooN (PySem.W.findIn K (.ref (ga K c.1)) c.2)) && (((["isinstance", "repr", "range", "int", "max", "len", "list", "dict", "ValueError"] : List Str).all fun x => freeB K x) && ((dFs.all fun d => gloB K d.name) && (kitB K && ((["NothingToUndo", "MillError"] : List Str).all fun x => PySem.W.excIn K (ga K x) veBase "ValueError.__new__")))))))
abbrev R : PySem.W.OpenRow := PySem.W.OpenLaw.row PySem.Challenge.rw_millpapers_k00_errors
abbrev hk : PySem.W.Hook := hookX 4 ck fn
def ob (s : PySem.W.SharedT) : Bool × AlD := obsX 4 ck fn (HandSHeadRun.getT s)
theorem ob_eq (s : PySem.W.SharedT) : ob s = hk.obs s.abs := obsX_eq (HandSHeadRun.getT_eq s)
def loose : List Str := (["MillError", "InvalidList", "InvalidItem", "InvalidNumber", "InvalidMill", "InvalidHoldings", "InvalidRow", "InvalidBox", "InvalidChain", "InvalidBrew", "InvalidBands", "InvalidEntries", "InvalidBook"] : List Str) ++ ((["UnlikeBooks", "InvalidText", "InvalidLot", "InvalidPrices", "InvalidClaim", "InvalidName", "TakenName", "UnknownName", "Lacking", "UnknownBooking", "UnknownClaim"] : List Str) ++ (["NothingToUndo", "_law_hash", "_law_random", "_law_cell", "_law_generator", "_law_kinds", "_law_plain", "_law_named", "_law_bare", "_law_fields", "_law_right"] : List Str))
theorem run (w : World) : HandSHeadRun.RunEq R (PySem.W.view R.prog [37]) hk ob 8000 loose w := by
  intro os
  kernel_rfl
end K00
end
section
/-! def __init__(self, f=None): self.f = f, of an own exception. -/
namespace L2.Xv
open PySem PySem.Spec PyProof.Rows He
def aIni (f : Str) (p1 p2 : Pos) (d : Expr) : Arguments := { posonlyargs := [], args := [{ arg := "self", annotation := none, pos := p1 }, { arg := f, annotation := none, pos := p2 }], vararg := none, kwonlyargs := [], kw_defaults := [], kwarg := none, defaults := [d] }
def bIni (f : Str) (q1 q2 q3 q4 : Pos) : List Stmt := [.Assign [.Attribute (.Name "self" q1) f q2] (.Name f q3) q4]
def sIni (f : Str) : Scope := { kind := .function, names := [(PySem.Str.ofString "self", .local), (f, .local)], isGenerator := false, isCoroutine := false, more := [] }
/-- what a call of such a class C with the field f leans on -/
structure Ini (P : Program) (w : World) (K : PySem.W.Frag) (mg : Str → Option Value) (base : Heap) (C : Addr) (f : Str) (fI : Addr) (fd : FuncData) : Prop where
  ok : FnOk P w K mg base CX0 1 fI fd ["self", f] (spIn C f)
  b1 : ∀ (self u : Value) (s' : Shared), K.In s'.heap → BindsTo s' fd ⟨[self, u], []⟩ ((["self", f] : List Str).zip [self, u])
  b0 : ∀ (self : Value) (s' : Shared), K.In s'.heap → BindsTo s' fd ⟨[self], []⟩ ((["self", f] : List Str).zip [self, .none])
  bk : ∀ (self u : Value) (s' : Shared), K.In s'.heap → BindsTo s' fd ⟨[self], [(f, u)]⟩ ((["self", f] : List Str).zip [self, u])
section
variable {P : Program} {w : World} {K : PySem.W.Frag} {mg : Str → Option Value} {base : Heap} {C fI : Addr} {fd : FuncData} {qual f : Str} {p1 p2 q1 q2 q3 q4 : Pos} {d : Expr}
theorem ini_scope (hf : ¬ ("self" : Str) = f) : FnScope ["self", f] ["self", f] (sIni f) := by
  refine ⟨rfl, rfl, rfl, ?_, rfl, ?_, ?_⟩
  · simp [hf]
  · intro x hx
    left
    by_cases e : x = ("self" : Str)
    · subst e
      simp [sIni, List.lookup]
    · have : x = f := by simpa [e] using hx
      subst this
      have q : (x == ("self" : Str)) = false := by simpa using e
      simp [sIni, List.lookup, q]
  · intro y hy
    have : y = (PySem.Str.ofString "self", NameKind.local) ∨ y = (f, NameKind.local) := by simpa [sIni] using hy
    rcases this with rfl | rfl <;> simp
theorem ini_ok (F : FunD K "__init__" qual (aIni f p1 p2 d) (bIni f q1 q2 q3 q4) (sIni f) [.non] [] fI fd) (hf : ¬ ("self" : Str) = f) (hd1 : (f == ("__debug__" : Str)) = false) (hd2 : (f == ("__classdict__" : Str)) = false) (T : OexC K C) (hno : PySem.W.findIn K (.ref C) f = some none) : FnOk P w K mg base CX0 1 fI fd ["self", f] (spIn C f) := by
  have S := ini_scope hf
  refine F.ok S (fun vs H Q E h => ?_) (fun cdv A outer s H vs Q E hr h => ?_)
  · obtain ⟨a, y, rfl, _⟩ := h
    rfl
  · obtain ⟨a, y, rfl, ha, k⟩ := h
    have v1 : (sIni f).names.lookup f = some .local := by
      have q : (f == ("self" : Str)) = false := by simpa using fun z : f = "self" => hf z.symm
      simp [sIni, List.lookup, q]
    refine ⟨_, pss_one (ps_ost (pv 0) (pe_var (i := 1) (x := f) (by rfl) (by exact Or.inl v1) hd1 hd2)), ?_⟩
    refine ⟨_, rfl, _, rfl, a, C, rfl, T, hno, .inl ⟨ha, fun dx hdx ne => ?_⟩⟩
    exact k dx hdx ne
end
theorem ini_value {P : Program} {w : World} {K : PySem.W.Frag} {mg : Str → Option Value} {base : Heap} {C fI : Addr} {fd : FuncData} {qual : Str} {p1 p2 q1 q2 q3 q4 : Pos} {d : Expr}
    (F : FunD K "__init__" qual (aIni "value" p1 p2 d) (bIni "value" q1 q2 q3 q4) (sIni "value") [.non] [] fI fd) (T : OexC K C) (hno : PySem.W.findIn K (.ref C) "value" = some none) : Ini P w K mg base C "value" fI fd := by
  refine ⟨ini_ok F (by decide) (by decide) (by decide) T hno, fun self u s' X => ?_, fun self s' X => ?_, fun self u s' X => ?_⟩
  · obtain ⟨ds, rv, hb⟩ := F.binds1 (ps := ["self", "value"]) 2 1 (by simp) rfl fun T kV doc pm an cdv ct us its hu hi => match us, its, hu, hi with | [_, _], [_], _, _ => ⟨_, rfl, rfl⟩
    cases rv
    exact hb s' [self, u] X rfl
  · obtain ⟨ds, rv, hb⟩ := F.binds1 (ps := ["self", "value"]) 1 0 (by simp) rfl fun T kV doc pm an cdv ct us its hu hi => match us, its, hu, hi with | [_], [_], _, _ => ⟨_, rfl, rfl⟩
    have rv' : Vals [V.non] ds := rv
    cases rv' with
    | cons r1 r2 =>
      cases r2
      cases r1
      exact hb s' [self] X rfl
  · obtain ⟨its, kb⟩ := F.kbindsD (ps := ["self", "value"]) 1 ["value"] (fun us _ ws => us ++ ws) (by simp) (fun r1 _ r3 => r1.append r3) fun T kV doc pm an cdv ct us its ws hu hi hw => match us, its, ws, hu, hi, hw with | [_], [_], [_], _, _, _ => ⟨_, rfl, rfl⟩
    exact kb.to s' [self] [u] X rfl rfl
theorem ini_name {P : Program} {w : World} {K : PySem.W.Frag} {mg : Str → Option Value} {base : Heap} {C fI : Addr} {fd : FuncData} {qual : Str} {p1 p2 q1 q2 q3 q4 : Pos} {d : Expr}
    (F : FunD K "__init__" qual (aIni "name" p1 p2 d) (bIni "name" q1 q2 q3 q4) (sIni "name") [.non] [] fI fd) (T : OexC K C) (hno : PySem.W.findIn K (.ref C) "name" = some none) : Ini P w K mg base C "name" fI fd := by
  refine ⟨ini_ok F (by decide) (by decide) (by decide) T hno, fun self u s' X => ?_, fun self s' X => ?_, fun self u s' X => ?_⟩
  · obtain ⟨ds, rv, hb⟩ := F.binds1 (ps := ["self", "name"]) 2 1 (by simp) rfl fun T kV doc pm an cdv ct us its hu hi => match us, its, hu, hi with | [_, _], [_], _, _ => ⟨_, rfl, rfl⟩
    cases rv
    exact hb s' [self, u] X rfl
  · obtain ⟨ds, rv, hb⟩ := F.binds1 (ps := ["self", "name"]) 1 0 (by simp) rfl fun T kV doc pm an cdv ct us its hu hi => match us, its, hu, hi with | [_], [_], _, _ => ⟨_, rfl, rfl⟩
    have rv' : Vals [V.non] ds := rv
    cases rv' with
    | cons r1 r2 =>
      cases r2
      cases r1
      exact hb s' [self] X rfl
  · obtain ⟨its, kb⟩ := F.kbindsD (ps := ["self", "name"]) 1 ["name"] (fun us _ ws => us ++ ws) (by simp) (fun r1 _ r3 => r1.append r3) fun T kV doc pm an cdv ct us its ws hu hi hw => match us, its, ws, hu, hi, hw with | [_], [_], [_], _, _, _ => ⟨_, rfl, rfl⟩
    exact kb.to s' [self] [u] X rfl rfl
theorem ini_number {P : Program} {w : World} {K : PySem.W.Frag} {mg : Str → Option Value} {base : Heap} {C fI : Addr} {fd : FuncData} {qual : Str} {p1 p2 q1 q2 q3 q4 : Pos} {d : Expr}
    (F : FunD K "__init__" qual (aIni "number" p1 p2 d) (bIni "number" q1 q2 q3 q4) (sIni "number") [.non] [] fI fd) (T : OexC K C) (hno : PySem.W.findIn K (.ref C) "number" = some none) : Ini P w K mg base C "number" fI fd := by
  refine ⟨ini_ok F (by decide) (by decide) (by decide) T hno, fun self u s' X => ?_, fun self s' X => ?_, fun self u s' X => ?_⟩
  · obtain ⟨ds, rv, hb⟩ := F.binds1 (ps := ["self", "number"]) 2 1 (by simp) rfl fun T kV doc pm an cdv ct us its hu hi => match us, its, hu, hi with | [_, _], [_], _, _ => ⟨_, rfl, rfl⟩
    cases rv
    exact hb s' [self, u] X rfl
  · obtain ⟨ds, rv, hb⟩ := F.binds1 (ps := ["self", "number"]) 1 0 (by simp) rfl fun T kV doc pm an cdv ct us its hu hi => match us, its, hu, hi with | [_], [_], _, _ => ⟨_, rfl, rfl⟩
    have rv' : Vals [V.non] ds := rv
    cases rv' with
    | cons r1 r2 =>
      cases r2
      cases r1
      exact hb s' [self] X rfl
  · obtain ⟨its, kb⟩ := F.kbindsD (ps := ["self", "number"]) 1 ["number"] (fun us _ ws => us ++ ws) (by simp) (fun r1 _ r3 => r1.append r3) fun T kV doc pm an cdv ct us its ws hu hi hw => match us, its, ws, hu, hi, hw with | [_], [_], [_], _, _, _ => ⟨_, rfl, rfl⟩
    exact kb.to s' [self] [u] X rfl rfl
end L2.Xv
end
section
namespace K00
open PySem PySem.Spec PyProof.Rows L2 L2.Xv He
/-- what is known of the error classes -/
structure IniAt (P : Program) (w : World) (K : PySem.W.Frag) (mg : Str → Option Value) (base : Heap) (c : Str × Str) : Prop where
  iC : PySem.W.findIn K (.ref (ga K c.1)) "__init__" = some (some (.ref (ma K (ga K c.1) "__init__")))
  tI : PySem.W.typeIn K (.ref (ma K (ga K c.1) "__init__")) = some (.type "function")
  no : PySem.W.findIn K (.ref (ga K c.1)) c.2 = some none
  fd : ∃ fd, Ini P w K mg base (ga K c.1) c.2 (ma K (ga K c.1) "__init__") fd
def frees : List Str := ["isinstance", "repr", "range", "int", "max", "len", "list", "dict", "ValueError"]
structure Tx (P : Program) (w : World) (K : PySem.W.Frag) (mg : Str → Option Value) (base : Heap) : Prop where
  xa : XAll K
  sys : SysK K
  glo : ∀ x ∈ names, mg x = some (.ref (ga K x))
  xc : ∀ x ∈ names, XCls K (ga K x)
  ini : ∀ c ∈ ecs, IniAt P w K mg base c
  free : ∀ x ∈ frees, mg x = none
  gf : ∀ d ∈ dFs, mg d.name = some (.ref (ga K d.name))
  kit : ∀ x ∈ names, ∀ y ∈ names, PySem.W.kitOne K (.ref (ga K x)) (.ref (ga K y)) = some (decide (x = y) || decide (y = "MillError"))
  kitV : ∀ x ∈ names, PySem.W.kitOne K (.ref (ga K x)) (.type "ValueError") = some true
  exc : ∀ x ∈ (["NothingToUndo", "MillError"] : List Str), PySem.W.excIn K (ga K x) veBase "ValueError.__new__" = true
theorem all_mem {α : Type} {p : α → Bool} {l : List α} (h : l.all p = true) {x : α} (hx : x ∈ l) : p x = true := List.all_eq_true.mp h x hx
theorem tx {P : Program} {w : World} {K : PySem.W.Frag} {mg : Str → Option Value} {base h : Heap} (X : K.In h) (G : h.Ns mainGlobals mg) (c : ck K = true) (S : SaysD [] fn K) : Tx P w K mg base := by
  obtain ⟨c1, c⟩ := ba c
  obtain ⟨c2, c⟩ := ba c
  obtain ⟨c3, c⟩ := ba c
  obtain ⟨c4, c⟩ := ba c
  obtain ⟨c5, c⟩ := ba c
  obtain ⟨c6, c⟩ := ba c
  obtain ⟨c7, c8⟩ := ba c
  have xc : ∀ x ∈ names, XCls K (ga K x) := fun x hx => xclsB_ok (ba (all_mem c3 hx)).2
  refine ⟨xallB_ok c1, sysB_ok c2, fun x hx => gloB_ok X G (ba (all_mem c3 hx)).1, xc, ?_, fun x hx => freeB_ok X G (all_mem c5 hx), fun d hd => gloB_ok X G (all_mem c6 hd), fun x hx y hy => isO_ok (all_mem (ba (all_mem c7 hx)).2 hy), fun x hx => isO_ok (ba (all_mem c7 hx)).1, fun x hx => all_mem c8 hx⟩
  have mk : ∀ c ∈ ecs, (∃ fd, Ini P w K mg base (ga K c.1) c.2 (ma K (ga K c.1) "__init__") fd) → IniAt P w K mg base c := fun c hc e => by
    obtain ⟨q1, q2⟩ := ba (all_mem c4 hc)
    obtain ⟨q3, q4⟩ := ba q1
    exact ⟨ooR_ok q3, isV_ok q4, ooN_ok q2, e⟩
  have nm : ∀ c ∈ ecs, c.1 ∈ names := fun c hc => List.mem_append_left _ (List.mem_map_of_mem hc)
  have no : ∀ c ∈ ecs, PySem.W.findIn K (.ref (ga K c.1)) c.2 = some none := fun c hc => ooN_ok (ba (all_mem c4 hc)).2
  have e0 : IniAt P w K mg base ("InvalidList", "value") := by
    have hc : (("InvalidList", "value") : Str × Str) ∈ ecs := List.mem_of_getElem? (i := 0) rfl
    obtain ⟨fd, F⟩ := S.def_ 0 (d := dI 0 "InvalidList") rfl
    exact mk _ hc ⟨fd, ini_value (by exact F) (xc _ (nm _ hc)).ox (no _ hc)⟩
  have e1 : IniAt P w K mg base ("InvalidItem", "value") := by
    have hc : (("InvalidItem", "value") : Str × Str) ∈ ecs := List.mem_of_getElem? (i := 1) rfl
    obtain ⟨fd, F⟩ := S.def_ 1 (d := dI 1 "InvalidItem") rfl
    exact mk _ hc ⟨fd, ini_value (by exact F) (xc _ (nm _ hc)).ox (no _ hc)⟩
  have e2 : IniAt P w K mg base ("InvalidNumber", "value") := by
    have hc : (("InvalidNumber", "value") : Str × Str) ∈ ecs := List.mem_of_getElem? (i := 2) rfl
    obtain ⟨fd, F⟩ := S.def_ 2 (d := dI 2 "InvalidNumber") rfl
    exact mk _ hc ⟨fd, ini_value (by exact F) (xc _ (nm _ hc)).ox (no _ hc)⟩
  have e3 : IniAt P w K mg base ("InvalidMill", "value") := by
    have hc : (("InvalidMill", "value") : Str × Str) ∈ ecs := List.mem_of_getElem? (i := 3) rfl
    obtain ⟨fd, F⟩ := S.def_ 3 (d := dI 3 "InvalidMill") rfl
    exact mk _ hc ⟨fd, ini_value (by exact F) (xc _ (nm _ hc)).ox (no _ hc)⟩
  have e4 : IniAt P w K mg base ("InvalidHoldings", "value") := by
    have hc : (("InvalidHoldings", "value") : Str × Str) ∈ ecs := List.mem_of_getElem? (i := 4) rfl
    obtain ⟨fd, F⟩ := S.def_ 4 (d := dI 4 "InvalidHoldings") rfl
    exact mk _ hc ⟨fd, ini_value (by exact F) (xc _ (nm _ hc)).ox (no _ hc)⟩
  have e5 : IniAt P w K mg base ("InvalidRow", "value") := by
    have hc : (("InvalidRow", "value") : Str × Str) ∈ ecs := List.mem_of_getElem? (i := 5) rfl
    obtain ⟨fd, F⟩ := S.def_ 5 (d := dI 5 "InvalidRow") rfl
    exact mk _ hc ⟨fd, ini_value (by exact F) (xc _ (nm _ hc)).ox (no _ hc)⟩
  have e6 : IniAt P w K mg base ("InvalidBox", "value") := by
    have hc : (("InvalidBox", "value") : Str × Str) ∈ ecs := List.mem_of_getElem? (i := 6) rfl
    obtain ⟨fd, F⟩ := S.def_ 6 (d := dI 6 "InvalidBox") rfl
    exact mk _ hc ⟨fd, ini_value (by exact F) (xc _ (nm _ hc)).ox (no _ hc)⟩
  have e7 : IniAt P w K mg base ("InvalidChain", "value") := by
    have hc : (("InvalidChain", "value") : Str × Str) ∈ ecs := List.mem_of_getElem? (i := 7) rfl
    obtain ⟨fd, F⟩ := S.def_ 7 (d := dI 7 "InvalidChain") rfl
    exact mk _ hc ⟨fd, ini_value (by exact F) (xc _ (nm _ hc)).ox (no _ hc)⟩
  have e8 : IniAt P w K mg base ("InvalidBrew", "value") := by
    have hc : (("InvalidBrew", "value") : Str × Str) ∈ ecs := List.mem_of_getElem? (i := 8) rfl
    obtain ⟨fd, F⟩ := S.def_ 8 (d := dI 8 "InvalidBrew") rfl
    exact mk _ hc ⟨fd, ini_value (by exact F) (xc _ (nm _ hc)).ox (no _ hc)⟩
  have e9 : IniAt P w K mg base ("InvalidBands", "value") := by
    have hc : (("InvalidBands", "value") : Str × Str) ∈ ecs := List.mem_of_getElem? (i := 9) rfl
    obtain ⟨fd, F⟩ := S.def_ 9 (d := dI 9 "InvalidBands") rfl
    exact mk _ hc ⟨fd, ini_value (by exact F) (xc _ (nm _ hc)).ox (no _ hc)⟩
  have e10 : IniAt P w K mg base ("InvalidEntries", "value") := by
    have hc : (("InvalidEntries", "value") : Str × Str) ∈ ecs := List.mem_of_getElem? (i := 10) rfl
    obtain ⟨fd, F⟩ := S.def_ 10 (d := dI 10 "InvalidEntries") rfl
    exact mk _ hc ⟨fd, ini_value (by exact F) (xc _ (nm _ hc)).ox (no _ hc)⟩
  have e11 : IniAt P w K mg base ("InvalidBook", "value") := by
    have hc : (("InvalidBook", "value") : Str × Str) ∈ ecs := List.mem_of_getElem? (i := 11) rfl
    obtain ⟨fd, F⟩ := S.def_ 11 (d := dI 11 "InvalidBook") rfl
    exact mk _ hc ⟨fd, ini_value (by exact F) (xc _ (nm _ hc)).ox (no _ hc)⟩
  have e12 : IniAt P w K mg base ("UnlikeBooks", "value") := by
    have hc : (("UnlikeBooks", "value") : Str × Str) ∈ ecs := List.mem_of_getElem? (i := 12) rfl
    obtain ⟨fd, F⟩ := S.def_ 12 (d := dI 12 "UnlikeBooks") rfl
    exact mk _ hc ⟨fd, ini_value (by exact F) (xc _ (nm _ hc)).ox (no _ hc)⟩
  have e13 : IniAt P w K mg base ("InvalidText", "value") := by
    have hc : (("InvalidText", "value") : Str × Str) ∈ ecs := List.mem_of_getElem? (i := 13) rfl
    obtain ⟨fd, F⟩ := S.def_ 13 (d := dI 13 "InvalidText") rfl
    exact mk _ hc ⟨fd, ini_value (by exact F) (xc _ (nm _ hc)).ox (no _ hc)⟩
  have e14 : IniAt P w K mg base ("InvalidLot", "value") := by
    have hc : (("InvalidLot", "value") : Str × Str) ∈ ecs := List.mem_of_getElem? (i := 14) rfl
    obtain ⟨fd, F⟩ := S.def_ 14 (d := dI 14 "InvalidLot") rfl
    exact mk _ hc ⟨fd, ini_value (by exact F) (xc _ (nm _ hc)).ox (no _ hc)⟩
  have e15 : IniAt P w K mg base ("InvalidPrices", "value") := by
    have hc : (("InvalidPrices", "value") : Str × Str) ∈ ecs := List.mem_of_getElem? (i := 15) rfl
    obtain ⟨fd, F⟩ := S.def_ 15 (d := dI 15 "InvalidPrices") rfl
    exact mk _ hc ⟨fd, ini_value (by exact F) (xc _ (nm _ hc)).ox (no _ hc)⟩
  have e16 : IniAt P w K mg base ("InvalidClaim", "value") := by
    have hc : (("InvalidClaim", "value") : Str × Str) ∈ ecs := List.mem_of_getElem? (i := 16) rfl
    obtain ⟨fd, F⟩ := S.def_ 16 (d := dI 16 "InvalidClaim") rfl
    exact mk _ hc ⟨fd, ini_value (by exact F) (xc _ (nm _ hc)).ox (no _ hc)⟩
  have e17 : IniAt P w K mg base ("InvalidName", "name") := by
    have hc : (("InvalidName", "name") : Str × Str) ∈ ecs := List.mem_of_getElem? (i := 17) rfl
    obtain ⟨fd, F⟩ := S.def_ 17 (d := dI 17 "InvalidName") rfl
    exact mk _ hc ⟨fd, ini_name (by exact F) (xc _ (nm _ hc)).ox (no _ hc)⟩
  have e18 : IniAt P w K mg base ("TakenName", "name") := by
    have hc : (("TakenName", "name") : Str × Str) ∈ ecs := List.mem_of_getElem? (i := 18) rfl
    obtain ⟨fd, F⟩ := S.def_ 18 (d := dI 18 "TakenName") rfl
    exact mk _ hc ⟨fd, ini_name (by exact F) (xc _ (nm _ hc)).ox (no _ hc)⟩
  have e19 : IniAt P w K mg base ("UnknownName", "name") := by
    have hc : (("UnknownName", "name") : Str × Str) ∈ ecs := List.mem_of_getElem? (i := 19) rfl
    obtain ⟨fd, F⟩ := S.def_ 19 (d := dI 19 "UnknownName") rfl
    exact mk _ hc ⟨fd, ini_name (by exact F) (xc _ (nm _ hc)).ox (no _ hc)⟩
  have e20 : IniAt P w K mg base ("Lacking", "name") := by
    have hc : (("Lacking", "name") : Str × Str) ∈ ecs := List.mem_of_getElem? (i := 20) rfl
    obtain ⟨fd, F⟩ := S.def_ 20 (d := dI 20 "Lacking") rfl
    exact mk _ hc ⟨fd, ini_name (by exact F) (xc _ (nm _ hc)).ox (no _ hc)⟩
  have e21 : IniAt P w K mg base ("UnknownBooking", "number") := by
    have hc : (("UnknownBooking", "number") : Str × Str) ∈ ecs := List.mem_of_getElem? (i := 21) rfl
    obtain ⟨fd, F⟩ := S.def_ 21 (d := dI 21 "UnknownBooking") rfl
    exact mk _ hc ⟨fd, ini_number (by exact F) (xc _ (nm _ hc)).ox (no _ hc)⟩
  have e22 : IniAt P w K mg base ("UnknownClaim", "number") := by
    have hc : (("UnknownClaim", "number") : Str × Str) ∈ ecs := List.mem_of_getElem? (i := 22) rfl
    obtain ⟨fd, F⟩ := S.def_ 22 (d := dI 22 "UnknownClaim") rfl
    exact mk _ hc ⟨fd, ini_number (by exact F) (xc _ (nm _ hc)).ox (no _ hc)⟩
  intro c hc
  have hc' : c ∈ ([("InvalidList", "value"), ("InvalidItem", "value"), ("InvalidNumber", "value"), ("InvalidMill", "value"), ("InvalidHoldings", "value"), ("InvalidRow", "value"), ("InvalidBox", "value"), ("InvalidChain", "value"), ("InvalidBrew", "value"), ("InvalidBands", "value"), ("InvalidEntries", "value"), ("InvalidBook", "value"), ("UnlikeBooks", "value"), ("InvalidText", "value"), ("InvalidLot", "value"), ("InvalidPrices", "value"), ("InvalidClaim", "value"), ("InvalidName", "name"), ("TakenName", "name"), ("UnknownName", "name"), ("Lacking", "name"), ("UnknownBooking", "number"), ("UnknownClaim", "number")] : List (Str × Str)) := hc
  simp only [List.mem_cons, List.not_mem_nil, or_false] at hc'
  rcases hc' with rfl | rfl | rfl | rfl | rfl | rfl | rfl | rfl | rfl | rfl | rfl | rfl | rfl | rfl | rfl | rfl | rfl | rfl | rfl | rfl | rfl | rfl | rfl
  · exact e0
  · exact e1
  · exact e2
  · exact e3
  · exact e4
  · exact e5
  · exact e6
  · exact e7
  · exact e8
  · exact e9
  · exact e10
  · exact e11
  · exact e12
  · exact e13
  · exact e14
  · exact e15
  · exact e16
  · exact e17
  · exact e18
  · exact e19
  · exact e20
  · exact e21
  · exact e22
end K00
end
section
/-! The draws: their values are left open, only their bounds are said. -/
namespace K00
open PySem PySem.Spec PyProof.Rows L2 L2.Xv He
abbrev sHash : Stmt := top 27
abbrev sRand : Stmt := top 28
abbrev sCell : Stmt := top 29
abbrev sGene : Stmt := top 30
abbrev FunT (K : PySem.W.Frag) (i : Nat) (x : Str) (f : Addr) (fd : FuncData) : Prop := FunD K x x (defArgs (top i)) (defBody (top i)) (defScope (top i)) [] [] f fd
theorem scHash : FnScope ["_law_seed", "_law_index", "_law_mixed"] ["_law_seed", "_law_index"] (defScope sHash) := ⟨rfl, rfl, rfl, by decide +kernel, rfl, by decide +kernel, by decide +kernel⟩
theorem scRand : FnScope ["_law_generator_here", "_law_bound", "_law_drawn", "_law_turn"] ["_law_generator_here", "_law_bound"] (defScope sRand) := ⟨rfl, rfl, rfl, by decide +kernel, rfl, by decide +kernel, by decide +kernel⟩
theorem scCell : FnScope ["_law_script", "_law_index"] ["_law_script", "_law_index"] (defScope sCell) := ⟨rfl, rfl, rfl, by decide +kernel, rfl, by decide +kernel, by decide +kernel⟩
theorem scGene : FnScope ["_law_script", "_law_index", "_law_seed"] ["_law_script", "_law_index"] (defScope sGene) := ⟨rfl, rfl, rfl, by decide +kernel, rfl, by decide +kernel, by decide +kernel⟩
/-- a generator stands at p, asked at most n times so far -/
def GenAt (H : Hp) (p : Addr) (n : Int) : Prop := ∃ a b c : Int, H p = some (.lst [.int a, .int b, .int c]) ∧ 0 ≤ a ∧ 0 ≤ b ∧ b < 2147483647 ∧ 0 ≤ c ∧ c ≤ n
def But (p : Addr) (H H' : Hp) : Prop := ∀ b, b ≠ p → H' b = H b
def spHash : Sp := fun vs H Q _ => ∃ s i : Int, vs = [.int s, .int i] ∧ 0 ≤ s ∧ s < 2147483648 ∧ 0 ≤ i ∧ i < 2 ^ 40 ∧ ∀ r : Int, 0 ≤ r → Q (.int r) H
def spRand : Sp := fun vs H Q _ => ∃ (p : Addr) (m n : Int), vs = [.ref p, .int m] ∧ 1 ≤ m ∧ m ≤ 1000000000 ∧ n < 1000000000 ∧ GenAt H p n ∧ ∀ (r : Int) (H' : Hp), 0 ≤ r → r < m → GenAt H' p (n + 40) → But p H H' → Q (.int r) H'
def spCell (K : PySem.W.Frag) : Sp := fun vs H Q _ => ∃ (a : Addr) (ns : List Int) (i : Nat), vs = [.ref a, .int i] ∧ SqL K H a (ns.map V.int) ∧ ∀ r : Int, Q (.int r) H
def spGene (K : PySem.W.Frag) : Sp := fun vs H Q _ => ∃ (a : Addr) (ns : List Int) (i : Nat), vs = [.ref a, .int i] ∧ SqL K H a (ns.map V.int) ∧ i ≤ 64 ∧ ∀ (p : Addr) (H' : Hp), H p = none → GenAt H' p 64000 → But p H H' → Q (.ref p) H'
theorem op_powW {X : Cx} : OpR X (binaryOp .Pow) (rI (fun i j => 0 ≤ j ∧ (Builtin.Int.intBits i : Int) * j ≤ 2 ^ 27) fun i j => .int (i ^ j.toNat)) := opI fun _ _ _ _ _ _ _ hc q => PyProof.Rows.pow_int hc.1 hc.2 q
theorem bits_le {m : Int} (h1 : 1 ≤ m) (h2 : m ≤ 1000000000) : Builtin.Int.intBits m ≤ 30 := by
  unfold Builtin.Int.intBits
  have n0 : (m == 0) = false := by simpa using (by omega : m ≠ 0)
  rw [n0, if_neg Bool.false_ne_true]
  have e : m.natAbs.log2 < 30 := (Nat.log2_lt (by omega)).mpr (by omega)
  omega
section
variable {P : Program} {w : World} {K : PySem.W.Frag} {mg : Str → Option Value} {base : Heap} {f fH fR fC : Addr} {fd fdH fdC : FuncData}
theorem okHash (F : FunT K 27 "_law_hash" f fd) (hint : mg "int" = none) : FnOk P w K mg base CX0 1 f fd ["_law_seed", "_law_index"] spHash := by
  refine F.ok scHash (fun vs H Q E h => ?_) (fun cdv A outer s H vs Q E hr h => ?_)
  · obtain ⟨_, _, rfl, _⟩ := h
    rfl
  · obtain ⟨s, i, rfl, h1, h2, h3, h4, k⟩ := h
    refine ⟨_, pss_cons (ps_set (i := 2) scHash.nd rfl (Or.inl rfl) (pe_op op_mod (pe_callTy call_int1 (by rfl) hint boot_int (pa_cons
        (pe_op op_add (pe_op op_add (pe_op op_add (pe_op op_mul (pv 0) pe_int) (pe_op op_mul (pe_op op_mul pe_int (pv 1)) (pv 1))) (pe_op op_mul pe_int (pv 1))) pe_int) pa_nil)) pe_int))
      (pss_cons (ps_set (i := 2) scHash.nd rfl (Or.inl rfl) (pe_op op_mod (pe_callTy call_int1 (by rfl) hint boot_int (pa_cons
        (pe_op op_add (pe_op op_add (pe_op op_mul (pv 2) (pv 2)) (pe_op op_mul pe_int (pv 1))) pe_int) pa_nil)) pe_int))
      (pss_one (ps_ret (pe_op op_mod (pe_callTy call_int1 (by rfl) hint boot_int (pa_cons (pe_op op_mul (pv 2) pe_int) pa_nil)) pe_int)))), ?_⟩
    refine ⟨_, rfl, _, _, rfl, rfl, .inr ⟨by decide, by decide⟩, _, rfl, _, _, rfl, rfl, .inl ⟨by decide, by decide⟩, _, rfl, _, _, rfl, rfl, .inr ⟨by omega, by omega⟩, _, _, rfl, rfl, _, rfl, _, _, rfl, rfl, .inl ⟨by decide, by decide⟩, _, _, rfl, rfl, _, _, rfl, rfl, .inl ⟨_, rfl, ?_⟩⟩
    refine ⟨_, _, rfl, rfl, (by show (0 : Int) < 2147483629; decide), ?_⟩
    have a0 := Int.emod_nonneg (s * 1299709 + 104729 * i * i + 31 * i + 7) (by decide : (2147483629 : Int) ≠ 0)
    have a1 := Int.emod_lt_of_pos (s * 1299709 + 104729 * i * i + 31 * i + 7) (by decide : (0 : Int) < 2147483629)
    generalize (s * 1299709 + 104729 * i * i + 31 * i + 7) % 2147483629 = x at a0 a1
    refine ⟨_, rfl, _, rfl, _, _, rfl, rfl, .inl ⟨by omega, by omega⟩, _, rfl, _, _, rfl, rfl, .inl ⟨by decide, by decide⟩, _, _, rfl, rfl, _, _, rfl, rfl, .inl ⟨_, rfl, ?_⟩⟩
    refine ⟨_, _, rfl, rfl, (by show (0 : Int) < 2147483587; decide), ?_⟩
    have b0 := Int.emod_nonneg (x * x + 48271 * i + 15485863) (by decide : (2147483587 : Int) ≠ 0)
    have b1 := Int.emod_lt_of_pos (x * x + 48271 * i + 15485863) (by decide : (0 : Int) < 2147483587)
    generalize (x * x + 48271 * i + 15485863) % 2147483587 = y at b0 b1
    refine ⟨_, rfl, _, _, rfl, rfl, .inr ⟨by decide, by decide⟩, .inl ⟨_, rfl, _, _, rfl, rfl, (by show (0 : Int) < 2147483647; decide), ?_⟩⟩
    exact k _ (Int.emod_nonneg _ (by decide))
theorem okRand (F : FunT K 28 "_law_random" f fd) (FH : FunT K 27 "_law_hash" fH fdH) (gH : mg "_law_hash" = some (.ref fH)) (hint : mg "int" = none) (hrange : mg "range" = none) : FnOk P w K mg base CX0 2 f fd ["_law_generator_here", "_law_bound"] spRand := by
  have GH : FnOk P w K mg base CX0 1 fH fdH ["_law_seed", "_law_index"] spHash := okHash FH hint
  have bH : Binds K fdH ["_law_seed", "_law_index"] [] := FH.bindsN fun _ _ _ _ _ _ us hl => match us, hl with | [_, _], _ => rfl
  refine F.ok scRand (fun vs H Q E h => ?_) (fun cdv A outer s H vs Q E hr h => ?_)
  · obtain ⟨_, _, _, rfl, _⟩ := h
    rfl
  · obtain ⟨p, m, n, rfl, m1, m2, n1, ⟨a, b, c, hp, a0, b0, b1, c0, c1⟩, k⟩ := h
    refine ⟨_, PSs.nox (pss_cons (ps_if (pt_cmpR op_gt (pe_ix ix_list (pv 0) pe_int (fun _ _ => rfl)) pe_int (nomark _))
        (pss_cons (ps_set (i := 2) scRand.nd rfl (Or.inl rfl) (pe_op op_mod (pe_callTy call_int1 (by rfl) hint boot_int (pa_cons (pe_ix ix_list (pv 0) pe_int (fun _ _ => rfl)) pa_nil)) (pv 1)))
          (pss_cons (ps_asg (pe_op op_fdiv (pe_ix ix_list (pv 0) pe_int (fun _ _ => rfl)) (pv 1)) (pg_sub (pv 0) pe_int set_list))
            (pss_one (ps_ret (pv 2))))) pss_nil)
      (pss_cons (ps_set (i := 2) scRand.nd rfl (Or.inl rfl) pe_int)
        (pss_cons (ps_for PassesOwn.never rfl (pi_range1 rfl hrange (pa_cons (pe_op op_add pe_int (pe_op op_fdiv (pe_bits (pv 1)) pe_int)) pa_nil)) (pg_name (i := 3) scRand.nd rfl (Or.inl rfl))
            (pss_cons (ps_asg (pe_op op_add (pe_ix ix_list (pv 0) pe_int (fun _ _ => rfl)) pe_int) (pg_sub (pv 0) pe_int set_list))
              (pss_one (ps_set (i := 2) scRand.nd rfl (Or.inl rfl) (pe_op op_add (pe_op op_mul (pv 2) pe_int) (pe_call GH hr rfl gH FH.kp bH .nil pass0 (pa_cons (pe_ix ix_list (pv 0) pe_int (fun _ _ => rfl)) (pa_cons (pe_ix ix_list (pv 0) pe_int (fun _ _ => rfl)) pa_nil))))))))
          (pss_one (ps_ret (pe_op op_mod (pe_callTy call_int1 (by rfl) hint boot_int (pa_cons (pv 2) pa_nil)) (pv 1))))))), ?_⟩
    refine ⟨_, rfl, p, _, _, _, rfl, rfl, SqL.of hp, rfl, _, _, rfl, rfl, _, rfl, ?_⟩
    refine ite2 (fun _ => ?_) (fun _ => ?_)
    · refine ⟨_, rfl, p, _, _, _, rfl, rfl, SqL.of hp, rfl, .inl ⟨_, rfl, _, rfl, _, _, rfl, rfl, (by omega), ?_⟩⟩
      refine ⟨_, rfl, p, _, _, _, rfl, rfl, SqL.of hp, rfl, _, rfl, _, _, rfl, rfl, ⟨by omega, by omega⟩, _, rfl, p, _, _, _, rfl, rfl, hp, rfl, ?_⟩
      refine ⟨_, rfl, k _ _ (Int.emod_nonneg _ (by omega)) (Int.emod_lt_of_pos _ (by omega)) ⟨a / m, b, c, upd_same, Int.ediv_nonneg a0 (by omega), b0, b1, c0, by omega⟩ fun q hq => upd_ne hq⟩
    · have hb := bits_le m1 m2

      have hj : (1 + ((Builtin.Int.intBits m : Nat) : Int) / 30) ≤ 2 := by omega
      have hj0 : 0 ≤ (1 + ((Builtin.Int.intBits m : Nat) : Int) / 30) := by omega
      refine ⟨_, rfl, _, rfl, _, _, rfl, rfl, ⟨by decide, by decide⟩, _, _, rfl, rfl, _, rfl, ?_, ?_, ?_⟩
      · omega
      · omega
      refine for_range (lo := 0) (n := (1 + ((Builtin.Int.intBits m : Nat) : Int) / 30).toNat) (fun i σ H' => ∃ (d : Int) (v : Option V) (c' : Int), σ = [some (.ref p), some (.int m), some (.int d), v] ∧ H' p = some (.lst [.int a, .int b, .int c']) ∧ 0 ≤ c' ∧ c' ≤ n + i ∧ But p H H') ?_ ?_ ?_
      · exact ⟨0, none, c, rfl, hp, c0, by omega, fun _ _ => rfl⟩
      · rintro i σ H' hi ⟨d, v, c', rfl, hp', q0, q1, bt⟩
        have ip : p ≠ p → False := fun z => z rfl
        refine ⟨_, rfl, p, _, _, _, rfl, rfl, SqL.of hp', rfl, _, _, rfl, rfl, _, rfl, p, _, _, _, rfl, rfl, hp', rfl, ?_⟩
        refine ⟨_, rfl, _, _, rfl, rfl, .inr ⟨by decide, by decide⟩, _, rfl, p, _, _, _, rfl, rfl, SqL.of upd_same, rfl, _, rfl, p, _, _, _, rfl, rfl, SqL.of upd_same, rfl, b, c' + 1, rfl, by omega, by omega, by omega, by omega, fun r hr0 => ?_⟩
        refine ⟨_, _, rfl, rfl, ?_⟩
        refine ⟨_, _, c' + 1, rfl, upd_same, by omega, by omega, fun q hq => ?_⟩
        rw [upd_ne hq]
        exact bt q hq
      · rintro σ H' ⟨d, v, c', rfl, hp', q0, q1, bt⟩
        refine ⟨_, rfl, .inl ⟨_, rfl, _, rfl, _, _, rfl, rfl, (by omega), ?_⟩⟩
        exact k _ _ (Int.emod_nonneg _ (by omega)) (Int.emod_lt_of_pos _ (by omega)) ⟨a, b, c', hp', a0, b0, b1, q0, by omega⟩ bt
theorem okCell (F : FunT K 29 "_law_cell" f fd) (hlen : mg "len" = none) : FnOk P w K mg base CX0 1 f fd ["_law_script", "_law_index"] (spCell K) := by
  refine F.ok scCell (fun vs H Q E h => ?_) (fun cdv A outer s H vs Q E hr h => ?_)
  · obtain ⟨_, _, _, rfl, _⟩ := h
    rfl
  · obtain ⟨a, ns, i, rfl, hS, k⟩ := h
    refine ⟨_, PSs.nox (pss_cons (ps_if (pt_cmpR op_lt (pv 1) (pe_callB call_len_seq (by rfl) hlen PySem.boot_len (pa_cons (pv 0) pa_nil)) (nomark _))
        (pss_one (ps_ret (pe_ix ix_list (pv 0) (pv 1) (fun _ _ => rfl)))) pss_nil)
      (pss_one (ps_ret pe_int))), ?_⟩
    refine ⟨_, rfl, _, rfl, a, _, rfl, .inl hS, _, _, rfl, rfl, _, rfl, ?_⟩
    refine ite2 (fun hc => ?_) (fun _ => k 0)
    have hl : i < ns.length := by
      rw [List.length_map] at hc
      have := of_decide_eq_true hc
      omega
    exact ⟨_, rfl, _, rfl, a, _, _, _, rfl, rfl, hS, atI_nat (by rw [List.getElem?_map, List.getElem?_eq_getElem hl]; rfl), k _⟩
theorem okGene (F : FunT K 30 "_law_generator" f fd) (FC : FunT K 29 "_law_cell" fC fdC) (gC : mg "_law_cell" = some (.ref fC)) (hlen : mg "len" = none) (hint : mg "int" = none) (hmax : mg "max" = none) : FnOk P w K mg base CX0 2 f fd ["_law_script", "_law_index"] (spGene K) := by
  have GC : FnOk P w K mg base CX0 1 fC fdC ["_law_script", "_law_index"] (spCell K) := okCell FC hlen
  have bC : Binds K fdC ["_law_script", "_law_index"] [] := FC.bindsN fun _ _ _ _ _ _ us hl => match us, hl with | [_, _], _ => rfl
  refine F.ok scGene (fun vs H Q E h => ?_) (fun cdv A outer s H vs Q E hr h => ?_)
  · obtain ⟨_, _, _, rfl, _⟩ := h
    rfl
  · obtain ⟨a, ns, i, rfl, hS, hi, k⟩ := h
    refine ⟨_, PSs.nox (pss_cons (ps_set (i := 2) scGene.nd rfl (Or.inl rfl) (pe_call GC hr rfl gC FC.kp bC .nil pass0 (pa_cons (pv 0) (pa_cons (pv 1) pa_nil))))
      (pss_one (ps_ret (pe_lst (pa_cons (pe_op op_modN (pe_callTy call_int1 (by rfl) hint boot_int (pa_cons (pe_callB (call_max2 rfl) (by rfl) hmax (by decide +kernel) (pa_cons (pe_op op_sub (pv 2) (pe_op op_powW pe_int pe_int)) (pa_cons pe_int pa_nil))) pa_nil)) (pe_op op_powW (pe_op op_powW pe_int pe_int) pe_int))
        (pa_cons (pe_op op_mod (pe_callTy call_int1 (by rfl) hint boot_int (pa_cons (pv 2) pa_nil)) pe_int)
        (pa_cons (pe_op op_mul pe_int (pv 1)) pa_nil))))))), ?_⟩
    refine ⟨_, rfl, _, rfl, a, ns, i, rfl, hS, fun r => ?_⟩
    refine ⟨_, rfl, _, _, rfl, rfl, ⟨by decide, by decide +kernel⟩, _, _, rfl, rfl, _, _, rfl, .inl ⟨_, rfl, _, _, rfl, rfl, ⟨by decide, by decide +kernel⟩, _, _, rfl, rfl, ⟨by decide, by decide +kernel⟩, _, _, rfl, rfl, (by show ((10 ^ (Int.toNat 60) : Int) ^ Int.toNat 10) ≠ 0; decide +kernel), ?_⟩⟩
    refine ⟨_, rfl, .inl ⟨_, rfl, _, _, rfl, rfl, (by show (0 : Int) < 2147483647; decide), _, rfl, _, _, rfl, rfl, .inl ⟨by decide, by decide⟩, (by show 3 ≤ sizeLine; decide), fun l hl => ?_⟩⟩
    refine k l _ hl ⟨_, _, _, upd_same, ?_, Int.emod_nonneg _ (by decide), Int.emod_lt_of_pos _ (by decide), by omega, by omega⟩ fun q hq => upd_ne hq
    refine Int.fmod_nonneg ?_ (by decide +kernel)
    split <;> omega
end
end K00
end
section
/-! Lists of made errors. -/
namespace K00
open PySem PySem.Spec PyProof.Rows L2 L2.Xv He
section
variable {X : Cx}
theorem PE_imp {e : Expr} {t t' : TE} (h : PE X e t) (i : ∀ σ H Q, t' σ H Q → t σ H Q) : PE X e t' := ⟨fun pins s σ H Q I q => h.run pins s σ H Q I (i σ H Q q)⟩
theorem PA_imp {es : List Expr} {t t' : TA} (h : PA X es t) (i : ∀ σ H Q, t' σ H Q → t σ H Q) : PA X es t' := ⟨fun pos pins s σ H Q I q => h.run pos pins s σ H Q I (i σ H Q q)⟩
theorem PS_imp {st : Stmt} {t t' : TS} (h : PS X st t) (i : ∀ D σ H, t' D σ H → t D σ H) : PS X st t' := ⟨fun pins s σ H D I q => h.run pins s σ H D I (i D σ H q)⟩
end
/-- at these addresses stand errors of these classes, that hold v -/
abbrev Errs (K : PySem.W.Frag) (H : Hp) (v : V) (as : List Addr) (cs : List (Str × Str)) : Prop := Paired (fun a c => ErrAt H a (ga K c.1) c.2 v) as cs
theorem Errs.same {K : PySem.W.Frag} {H H' : Hp} {v : V} {as : List Addr} {cs : List (Str × Str)} (e : Errs K H v as cs) (s : Same H H') : Errs K H' v as cs := Paired.mapP e fun _ _ x => x.same s
theorem Errs.append {K : PySem.W.Frag} {H : Hp} {v : V} : ∀ {as bs : List Addr} {cs ds : List (Str × Str)}, Errs K H v as cs → Errs K H v bs ds → Errs K H v (as ++ bs) (cs ++ ds)
  | _, _, _, _, .nil, e => e
  | _, _, _, _, .cons r t, e => .cons r (Errs.append t e)
theorem Errs.len {K : PySem.W.Frag} {H : Hp} {v : V} {as : List Addr} {cs : List (Str × Str)} (e : Errs K H v as cs) : as.length = cs.length := Paired.length e
/-- [C(x), ..], x what the slot i holds (i none: nothing is given) -/
def tMks (K : PySem.W.Frag) (g : L2.St → V → Prop) (cs : List (Str × Str)) : TA := fun σ H Q => ∃ v, g σ v ∧ ∀ as H', Same H H' → Errs K H' v as cs → Q (as.map V.ref) H'
def atSlot (i : Nat) : L2.St → V → Prop := fun σ v => σ[i]? = some (some v)
def isNon : L2.St → V → Prop := fun _ v => v = .non
/-- found = found + [C(x), ..] -/
def tAdds (K : PySem.W.Frag) (fi : Nat) (g : L2.St → V → Prop) (cs : List (Str × Str)) : TS := fun D σ H => ∃ (p : Addr) (as0 : List Addr) (v : V), σ[fi]? = some (some (.ref p)) ∧ H p = some (.lst (as0.map V.ref)) ∧ g σ v ∧ as0.length + cs.length ≤ 100 ∧
  ∀ p' as H', Same H H' → H p' = none → H' p' = some (.lst ((as0 ++ as).map V.ref)) → Errs K H' v as cs → D.nx (σ.set fi (some (.ref p'))) H'
section
variable {X : Cx} {e : Expr} {es : List Expr} {c : Str × Str} {cs : List (Str × Str)} {i : Nat} {p pos kp : Pos}
theorem pa_mk1 (he : PE X e (tX1 (ga X.K c.1) c.2 (tVar i))) (hs : PA X es (tMks X.K (atSlot i) cs)) (hst : ∀ es env, starEach (e :: es) env = (false, eval e env) :: starEach es env := by intro _ _; rfl) : PA X (e :: es) (tMks X.K (atSlot i) (c :: cs)) := by
  refine PA_imp (pa_cons he hs (hst _ _)) fun σ H Q h => ?_
  obtain ⟨v, hv, k⟩ := h
  exact ⟨v, hv, fun a H2 n sm er => ⟨v, hv, fun as H3 sm2 pr => k (a :: as) H3 (sm.trans sm2) (.cons (er.same sm2) pr)⟩⟩
theorem pa_mk0 (he : PE X e (tX0 (ga X.K c.1) c.2)) (hs : PA X es (tMks X.K isNon cs)) (hst : ∀ es env, starEach (e :: es) env = (false, eval e env) :: starEach es env := by intro _ _; rfl) : PA X (e :: es) (tMks X.K isNon (c :: cs)) := by
  refine PA_imp (pa_cons he hs (hst _ _)) fun σ H Q h => ?_
  obtain ⟨v, rfl, k⟩ := h
  exact fun a H2 n sm er => ⟨.non, rfl, fun as H3 sm2 pr => k (a :: as) H3 (sm.trans sm2) (.cons (er.same sm2) pr)⟩
theorem pa_mkN {g : L2.St → V → Prop} : PA X [] (tMks X.K g []) := PA_imp pa_nil fun σ H Q h => by
  obtain ⟨v, _, k⟩ := h
  exact k [] H (Same.refl H) .nil
variable {P : Program} {w : World} {K : PySem.W.Frag} {mg : Str → Option Value} {base : Heap}
theorem mk1 (T : Tx X.prog X.w X.K X.mg X.base) (hr : Room 2 X.A) (hc : c ∈ ecs) {te : TE} (he : PE X e te) (hg : Gl X c.1) (hdb : (c.1 == ("__debug__" : Str)) = false) (hs : starEach [e] X.env = (false, eval e X.env) :: starEach [] X.env) : PE X (.Call (.Name c.1 p) [e] [] pos) (tX1 (ga X.K c.1) c.2 te) := by
  obtain ⟨iC, tI, no, fd, J⟩ := T.ini c hc
  have nm : c.1 ∈ names := List.mem_append_left _ (List.mem_map_of_mem hc)
  exact pe_x1 (T.xc _ nm).ox iC tI J.ok hr (fun self u s' X' => J.b1 self u s' X') hg (T.glo _ nm) he hdb hs
theorem mk0 (T : Tx X.prog X.w X.K X.mg X.base) (hr : Room 2 X.A) (hc : c ∈ ecs) (hg : Gl X c.1) (hdb : (c.1 == ("__debug__" : Str)) = false) : PE X (.Call (.Name c.1 p) [] [] pos) (tX0 (ga X.K c.1) c.2) := by
  obtain ⟨iC, tI, no, fd, J⟩ := T.ini c hc
  have nm : c.1 ∈ names := List.mem_append_left _ (List.mem_map_of_mem hc)
  exact pe_x0 (T.xc _ nm).ox iC tI J.ok hr (fun self s' X' => J.b0 self s' X') hg (T.glo _ nm) hdb
theorem mkk (T : Tx X.prog X.w X.K X.mg X.base) (hr : Room 2 X.A) (hc : c ∈ ecs) {te : TE} (he : PE X e te) (hg : Gl X c.1) (hdb : (c.1 == ("__debug__" : Str)) = false) : PE X (.Call (.Name c.1 p) [] [⟨some c.2, e, kp⟩] pos) (tX1 (ga X.K c.1) c.2 te) := by
  obtain ⟨iC, tI, no, fd, J⟩ := T.ini c hc
  have nm : c.1 ∈ names := List.mem_append_left _ (List.mem_map_of_mem hc)
  exact pe_xk (T.xc _ nm).ox iC tI J.ok hr (fun self u s' X' => J.bk self u s' X') hg (T.glo _ nm) he hdb
end
theorem same_upd {H : Hp} {p : Addr} {o : HO} (h : H p = none) : Same H (upd H p o) := fun b u e => by
  rw [upd_ne (ne_of_none e h)]
  exact e
theorem adds_of {K : PySem.W.Frag} {fi : Nat} {g : L2.St → V → Prop} {cs : List (Str × Str)} (D : Ends) (σ : L2.St) (H : Hp) (h : tAdds K fi g cs D σ H) : tAsg (tOp rCat (tVar fi) (tLst (tMks K g cs))) (gName fi) D σ H := by
  obtain ⟨p, as0, v, hσ, hp, hv, hl, k⟩ := h
  refine ⟨_, hσ, v, hv, fun as H' sm er => ⟨?_, fun l hl' => ⟨p, l, as0.map V.ref, as.map V.ref, rfl, rfl, ?_, upd_same, ?_, fun q hq => ?_⟩⟩⟩
  · rw [List.length_map, er.len, sizeLine_eq]
    omega
  · rw [upd_ne (ne_of_none (sm _ _ hp) hl')]
    exact sm _ _ hp
  · rw [List.length_map, List.length_map, er.len, sizeLine_eq]
    omega
  · have s2 := (same_upd (o := .lst (as.map V.ref)) hl').trans (same_upd (o := .lst (as0.map V.ref ++ as.map V.ref)) hq)
    exact k q as _ (sm.trans s2) ((sm.trans (same_upd hl')).free hq) (by rw [upd_same, List.map_append]) (er.same s2)
end K00
end
section
namespace K00
open PySem PySem.Spec PyProof.Rows L2 L2.Xv He
/-- a new list of one error of each class, all of which hold v -/
def Made (K : PySem.W.Frag) (H : Hp) (v : V) (Q : VK) : Prop := ∀ (p : Addr) (as : List Addr) (H' : Hp), Same H H' → H p = none → H' p = some (.lst (as.map V.ref)) → Errs K H' v as ecs → Q (.ref p) H'
def spPlain (K : PySem.W.Frag) : Sp := fun vs H Q _ => ∃ v, vs = [v] ∧ Made K H v Q
def spBare (K : PySem.W.Frag) : Sp := fun vs H Q _ => vs = [] ∧ Made K H .non Q
section
variable {P : Program} {w : World} {K : PySem.W.Frag} {mg : Str → Option Value} {base : Heap} {f : Addr} {fd : FuncData}
theorem scPlain : FnScope ["_law_given", "_law_found"] ["_law_given"] (defScope (top 32)) := ⟨rfl, rfl, rfl, by decide +kernel, rfl, by decide +kernel, by decide +kernel⟩
theorem okPlain (F : FunT K 32 "_law_plain" f fd) (T : Tx P w K mg base) : FnOk P w K mg base CX0 3 f fd ["_law_given"] (spPlain K) := by
  refine F.ok scPlain (fun vs H Q E h => ?_) (fun cdv A outer s H vs Q E hr h => ?_)
  · obtain ⟨_, rfl, _⟩ := h
    rfl
  · obtain ⟨v, rfl, k⟩ := h
    refine ⟨_, PSs.nox (pss_cons (ps_set (i := 1) scPlain.nd rfl (Or.inl rfl) (pe_lst pa_nil))
      (pss_cons (PS_imp (ps_set (i := 1) scPlain.nd rfl (Or.inl rfl) (pe_op op_cat (pv 1) (pe_lst (pa_mk1 (c := ("InvalidList", "value")) (mk1 T hr (List.mem_of_getElem? (i := 0) rfl) (pv 0) rfl (by decide) rfl) (pa_mk1 (c := ("InvalidItem", "value")) (mk1 T hr (List.mem_of_getElem? (i := 1) rfl) (pv 0) rfl (by decide) rfl) (pa_mk1 (c := ("InvalidNumber", "value")) (mk1 T hr (List.mem_of_getElem? (i := 2) rfl) (pv 0) rfl (by decide) rfl) (pa_mk1 (c := ("InvalidMill", "value")) (mk1 T hr (List.mem_of_getElem? (i := 3) rfl) (pv 0) rfl (by decide) rfl) pa_mkN))))))) adds_of)
      (pss_cons (PS_imp (ps_set (i := 1) scPlain.nd rfl (Or.inl rfl) (pe_op op_cat (pv 1) (pe_lst (pa_mk1 (c := ("InvalidHoldings", "value")) (mk1 T hr (List.mem_of_getElem? (i := 4) rfl) (pv 0) rfl (by decide) rfl) (pa_mk1 (c := ("InvalidRow", "value")) (mk1 T hr (List.mem_of_getElem? (i := 5) rfl) (pv 0) rfl (by decide) rfl) (pa_mk1 (c := ("InvalidBox", "value")) (mk1 T hr (List.mem_of_getElem? (i := 6) rfl) (pv 0) rfl (by decide) rfl) (pa_mk1 (c := ("InvalidChain", "value")) (mk1 T hr (List.mem_of_getElem? (i := 7) rfl) (pv 0) rfl (by decide) rfl) pa_mkN))))))) adds_of)
      (pss_cons (PS_imp (ps_set (i := 1) scPlain.nd rfl (Or.inl rfl) (pe_op op_cat (pv 1) (pe_lst (pa_mk1 (c := ("InvalidBrew", "value")) (mk1 T hr (List.mem_of_getElem? (i := 8) rfl) (pv 0) rfl (by decide) rfl) (pa_mk1 (c := ("InvalidBands", "value")) (mk1 T hr (List.mem_of_getElem? (i := 9) rfl) (pv 0) rfl (by decide) rfl) (pa_mk1 (c := ("InvalidEntries", "value")) (mk1 T hr (List.mem_of_getElem? (i := 10) rfl) (pv 0) rfl (by decide) rfl) (pa_mk1 (c := ("InvalidBook", "value")) (mk1 T hr (List.mem_of_getElem? (i := 11) rfl) (pv 0) rfl (by decide) rfl) pa_mkN))))))) adds_of)
      (pss_cons (PS_imp (ps_set (i := 1) scPlain.nd rfl (Or.inl rfl) (pe_op op_cat (pv 1) (pe_lst (pa_mk1 (c := ("UnlikeBooks", "value")) (mk1 T hr (List.mem_of_getElem? (i := 12) rfl) (pv 0) rfl (by decide) rfl) (pa_mk1 (c := ("InvalidText", "value")) (mk1 T hr (List.mem_of_getElem? (i := 13) rfl) (pv 0) rfl (by decide) rfl) (pa_mk1 (c := ("InvalidLot", "value")) (mk1 T hr (List.mem_of_getElem? (i := 14) rfl) (pv 0) rfl (by decide) rfl) (pa_mk1 (c := ("InvalidPrices", "value")) (mk1 T hr (List.mem_of_getElem? (i := 15) rfl) (pv 0) rfl (by decide) rfl) pa_mkN))))))) adds_of)
      (pss_cons (PS_imp (ps_set (i := 1) scPlain.nd rfl (Or.inl rfl) (pe_op op_cat (pv 1) (pe_lst (pa_mk1 (c := ("InvalidClaim", "value")) (mk1 T hr (List.mem_of_getElem? (i := 16) rfl) (pv 0) rfl (by decide) rfl) (pa_mk1 (c := ("InvalidName", "name")) (mk1 T hr (List.mem_of_getElem? (i := 17) rfl) (pv 0) rfl (by decide) rfl) (pa_mk1 (c := ("TakenName", "name")) (mk1 T hr (List.mem_of_getElem? (i := 18) rfl) (pv 0) rfl (by decide) rfl) (pa_mk1 (c := ("UnknownName", "name")) (mk1 T hr (List.mem_of_getElem? (i := 19) rfl) (pv 0) rfl (by decide) rfl) pa_mkN))))))) adds_of)
      (pss_cons (PS_imp (ps_set (i := 1) scPlain.nd rfl (Or.inl rfl) (pe_op op_cat (pv 1) (pe_lst (pa_mk1 (c := ("Lacking", "name")) (mk1 T hr (List.mem_of_getElem? (i := 20) rfl) (pv 0) rfl (by decide) rfl) (pa_mk1 (c := ("UnknownBooking", "number")) (mk1 T hr (List.mem_of_getElem? (i := 21) rfl) (pv 0) rfl (by decide) rfl) (pa_mk1 (c := ("UnknownClaim", "number")) (mk1 T hr (List.mem_of_getElem? (i := 22) rfl) (pv 0) rfl (by decide) rfl) pa_mkN)))))) adds_of)
      (pss_one (ps_ret (pv 1)))))))))), ?_⟩
    refine ⟨Nat.zero_le _, fun l0 h0 => ?_⟩
    refine ⟨_, [], v, rfl, upd_same, rfl, (by show 0 + 4 ≤ 100; decide), fun p0 as0 H0 s0 n0 w0 e0 => ?_⟩
    refine ⟨_, _, v, rfl, w0, rfl, (by simp only [List.length_append, e0.len]; decide), fun p1 as1 H1 s1 n1 w1 e1 => ?_⟩
    refine ⟨_, _, v, rfl, w1, rfl, (by simp only [List.length_append, e0.len, e1.len]; decide), fun p2 as2 H2 s2 n2 w2 e2 => ?_⟩
    refine ⟨_, _, v, rfl, w2, rfl, (by simp only [List.length_append, e0.len, e1.len, e2.len]; decide), fun p3 as3 H3 s3 n3 w3 e3 => ?_⟩
    refine ⟨_, _, v, rfl, w3, rfl, (by simp only [List.length_append, e0.len, e1.len, e2.len, e3.len]; decide), fun p4 as4 H4 s4 n4 w4 e4 => ?_⟩
    refine ⟨_, _, v, rfl, w4, rfl, (by simp only [List.length_append, e0.len, e1.len, e2.len, e3.len, e4.len]; decide), fun p5 as5 H5 s5 n5 w5 e5 => ?_⟩
    exact ⟨_, rfl, k p5 _ H5 (((((((same_upd h0).trans s0).trans s1).trans s2).trans s3).trans s4).trans s5) (((((((same_upd h0).trans s0).trans s1).trans s2).trans s3).trans s4).free n5) w5 ((((((((((e0.same s1).same s2).same s3).same s4).same s5).append ((((e1.same s2).same s3).same s4).same s5)).append (((e2.same s3).same s4).same s5)).append ((e3.same s4).same s5)).append (e4.same s5)).append e5)⟩
theorem scNamed : FnScope ["_law_given", "_law_found"] ["_law_given"] (defScope (top 33)) := ⟨rfl, rfl, rfl, by decide +kernel, rfl, by decide +kernel, by decide +kernel⟩
theorem okNamed (F : FunT K 33 "_law_named" f fd) (T : Tx P w K mg base) : FnOk P w K mg base CX0 3 f fd ["_law_given"] (spPlain K) := by
  refine F.ok scNamed (fun vs H Q E h => ?_) (fun cdv A outer s H vs Q E hr h => ?_)
  · obtain ⟨_, rfl, _⟩ := h
    rfl
  · obtain ⟨v, rfl, k⟩ := h
    refine ⟨_, PSs.nox (pss_cons (ps_set (i := 1) scNamed.nd rfl (Or.inl rfl) (pe_lst pa_nil))
      (pss_cons (PS_imp (ps_set (i := 1) scNamed.nd rfl (Or.inl rfl) (pe_op op_cat (pv 1) (pe_lst (pa_mk1 (c := ("InvalidList", "value")) (mkk T hr (List.mem_of_getElem? (i := 0) rfl) (pv 0) rfl (by decide)) (pa_mk1 (c := ("InvalidItem", "value")) (mkk T hr (List.mem_of_getElem? (i := 1) rfl) (pv 0) rfl (by decide)) (pa_mk1 (c := ("InvalidNumber", "value")) (mkk T hr (List.mem_of_getElem? (i := 2) rfl) (pv 0) rfl (by decide)) pa_mkN)))))) adds_of)
      (pss_cons (PS_imp (ps_set (i := 1) scNamed.nd rfl (Or.inl rfl) (pe_op op_cat (pv 1) (pe_lst (pa_mk1 (c := ("InvalidMill", "value")) (mkk T hr (List.mem_of_getElem? (i := 3) rfl) (pv 0) rfl (by decide)) (pa_mk1 (c := ("InvalidHoldings", "value")) (mkk T hr (List.mem_of_getElem? (i := 4) rfl) (pv 0) rfl (by decide)) (pa_mk1 (c := ("InvalidRow", "value")) (mkk T hr (List.mem_of_getElem? (i := 5) rfl) (pv 0) rfl (by decide)) pa_mkN)))))) adds_of)
      (pss_cons (PS_imp (ps_set (i := 1) scNamed.nd rfl (Or.inl rfl) (pe_op op_cat (pv 1) (pe_lst (pa_mk1 (c := ("InvalidBox", "value")) (mkk T hr (List.mem_of_getElem? (i := 6) rfl) (pv 0) rfl (by decide)) (pa_mk1 (c := ("InvalidChain", "value")) (mkk T hr (List.mem_of_getElem? (i := 7) rfl) (pv 0) rfl (by decide)) (pa_mk1 (c := ("InvalidBrew", "value")) (mkk T hr (List.mem_of_getElem? (i := 8) rfl) (pv 0) rfl (by decide)) pa_mkN)))))) adds_of)
      (pss_cons (PS_imp (ps_set (i := 1) scNamed.nd rfl (Or.inl rfl) (pe_op op_cat (pv 1) (pe_lst (pa_mk1 (c := ("InvalidBands", "value")) (mkk T hr (List.mem_of_getElem? (i := 9) rfl) (pv 0) rfl (by decide)) (pa_mk1 (c := ("InvalidEntries", "value")) (mkk T hr (List.mem_of_getElem? (i := 10) rfl) (pv 0) rfl (by decide)) (pa_mk1 (c := ("InvalidBook", "value")) (mkk T hr (List.mem_of_getElem? (i := 11) rfl) (pv 0) rfl (by decide)) pa_mkN)))))) adds_of)
      (pss_cons (PS_imp (ps_set (i := 1) scNamed.nd rfl (Or.inl rfl) (pe_op op_cat (pv 1) (pe_lst (pa_mk1 (c := ("UnlikeBooks", "value")) (mkk T hr (List.mem_of_getElem? (i := 12) rfl) (pv 0) rfl (by decide)) (pa_mk1 (c := ("InvalidText", "value")) (mkk T hr (List.mem_of_getElem? (i := 13) rfl) (pv 0) rfl (by decide)) (pa_mk1 (c := ("InvalidLot", "value")) (mkk T hr (List.mem_of_getElem? (i := 14) rfl) (pv 0) rfl (by decide)) pa_mkN)))))) adds_of)
      (pss_cons (PS_imp (ps_set (i := 1) scNamed.nd rfl (Or.inl rfl) (pe_op op_cat (pv 1) (pe_lst (pa_mk1 (c := ("InvalidPrices", "value")) (mkk T hr (List.mem_of_getElem? (i := 15) rfl) (pv 0) rfl (by decide)) (pa_mk1 (c := ("InvalidClaim", "value")) (mkk T hr (List.mem_of_getElem? (i := 16) rfl) (pv 0) rfl (by decide)) (pa_mk1 (c := ("InvalidName", "name")) (mkk T hr (List.mem_of_getElem? (i := 17) rfl) (pv 0) rfl (by decide)) pa_mkN)))))) adds_of)
      (pss_cons (PS_imp (ps_set (i := 1) scNamed.nd rfl (Or.inl rfl) (pe_op op_cat (pv 1) (pe_lst (pa_mk1 (c := ("TakenName", "name")) (mkk T hr (List.mem_of_getElem? (i := 18) rfl) (pv 0) rfl (by decide)) (pa_mk1 (c := ("UnknownName", "name")) (mkk T hr (List.mem_of_getElem? (i := 19) rfl) (pv 0) rfl (by decide)) (pa_mk1 (c := ("Lacking", "name")) (mkk T hr (List.mem_of_getElem? (i := 20) rfl) (pv 0) rfl (by decide)) pa_mkN)))))) adds_of)
      (pss_cons (PS_imp (ps_set (i := 1) scNamed.nd rfl (Or.inl rfl) (pe_op op_cat (pv 1) (pe_lst (pa_mk1 (c := ("UnknownBooking", "number")) (mkk T hr (List.mem_of_getElem? (i := 21) rfl) (pv 0) rfl (by decide)) (pa_mk1 (c := ("UnknownClaim", "number")) (mkk T hr (List.mem_of_getElem? (i := 22) rfl) (pv 0) rfl (by decide)) pa_mkN))))) adds_of)
      (pss_one (ps_ret (pv 1)))))))))))), ?_⟩
    refine ⟨Nat.zero_le _, fun l0 h0 => ?_⟩
    refine ⟨_, [], v, rfl, upd_same, rfl, (by show 0 + 3 ≤ 100; decide), fun p0 as0 H0 s0 n0 w0 e0 => ?_⟩
    refine ⟨_, _, v, rfl, w0, rfl, (by simp only [List.length_append, e0.len]; decide), fun p1 as1 H1 s1 n1 w1 e1 => ?_⟩
    refine ⟨_, _, v, rfl, w1, rfl, (by simp only [List.length_append, e0.len, e1.len]; decide), fun p2 as2 H2 s2 n2 w2 e2 => ?_⟩
    refine ⟨_, _, v, rfl, w2, rfl, (by simp only [List.length_append, e0.len, e1.len, e2.len]; decide), fun p3 as3 H3 s3 n3 w3 e3 => ?_⟩
    refine ⟨_, _, v, rfl, w3, rfl, (by simp only [List.length_append, e0.len, e1.len, e2.len, e3.len]; decide), fun p4 as4 H4 s4 n4 w4 e4 => ?_⟩
    refine ⟨_, _, v, rfl, w4, rfl, (by simp only [List.length_append, e0.len, e1.len, e2.len, e3.len, e4.len]; decide), fun p5 as5 H5 s5 n5 w5 e5 => ?_⟩
    refine ⟨_, _, v, rfl, w5, rfl, (by simp only [List.length_append, e0.len, e1.len, e2.len, e3.len, e4.len, e5.len]; decide), fun p6 as6 H6 s6 n6 w6 e6 => ?_⟩
    refine ⟨_, _, v, rfl, w6, rfl, (by simp only [List.length_append, e0.len, e1.len, e2.len, e3.len, e4.len, e5.len, e6.len]; decide), fun p7 as7 H7 s7 n7 w7 e7 => ?_⟩
    exact ⟨_, rfl, k p7 _ H7 (((((((((same_upd h0).trans s0).trans s1).trans s2).trans s3).trans s4).trans s5).trans s6).trans s7) (((((((((same_upd h0).trans s0).trans s1).trans s2).trans s3).trans s4).trans s5).trans s6).free n7) w7 ((((((((((((((e0.same s1).same s2).same s3).same s4).same s5).same s6).same s7).append ((((((e1.same s2).same s3).same s4).same s5).same s6).same s7)).append (((((e2.same s3).same s4).same s5).same s6).same s7)).append ((((e3.same s4).same s5).same s6).same s7)).append (((e4.same s5).same s6).same s7)).append ((e5.same s6).same s7)).append (e6.same s7)).append e7)⟩
theorem scBare : FnScope ["_law_found"] [] (defScope (top 34)) := ⟨rfl, rfl, rfl, by decide +kernel, rfl, by decide +kernel, by decide +kernel⟩
theorem okBare (F : FunT K 34 "_law_bare" f fd) (T : Tx P w K mg base) : FnOk P w K mg base CX0 3 f fd [] (spBare K) := by
  refine F.ok scBare (fun vs H Q E h => ?_) (fun cdv A outer s H vs Q E hr h => ?_)
  · obtain ⟨rfl, _⟩ := h
    rfl
  · obtain ⟨rfl, k⟩ := h
    refine ⟨_, PSs.nox (pss_cons (ps_set (i := 0) scBare.nd rfl (Or.inl rfl) (pe_lst pa_nil))
      (pss_cons (PS_imp (ps_set (i := 0) scBare.nd rfl (Or.inl rfl) (pe_op op_cat (pv 0) (pe_lst (pa_mk0 (c := ("InvalidList", "value")) (mk0 T hr (List.mem_of_getElem? (i := 0) rfl) rfl (by decide)) (pa_mk0 (c := ("InvalidItem", "value")) (mk0 T hr (List.mem_of_getElem? (i := 1) rfl) rfl (by decide)) (pa_mk0 (c := ("InvalidNumber", "value")) (mk0 T hr (List.mem_of_getElem? (i := 2) rfl) rfl (by decide)) (pa_mk0 (c := ("InvalidMill", "value")) (mk0 T hr (List.mem_of_getElem? (i := 3) rfl) rfl (by decide)) (pa_mk0 (c := ("InvalidHoldings", "value")) (mk0 T hr (List.mem_of_getElem? (i := 4) rfl) rfl (by decide)) pa_mkN)))))))) adds_of)
      (pss_cons (PS_imp (ps_set (i := 0) scBare.nd rfl (Or.inl rfl) (pe_op op_cat (pv 0) (pe_lst (pa_mk0 (c := ("InvalidRow", "value")) (mk0 T hr (List.mem_of_getElem? (i := 5) rfl) rfl (by decide)) (pa_mk0 (c := ("InvalidBox", "value")) (mk0 T hr (List.mem_of_getElem? (i := 6) rfl) rfl (by decide)) (pa_mk0 (c := ("InvalidChain", "value")) (mk0 T hr (List.mem_of_getElem? (i := 7) rfl) rfl (by decide)) (pa_mk0 (c := ("InvalidBrew", "value")) (mk0 T hr (List.mem_of_getElem? (i := 8) rfl) rfl (by decide)) (pa_mk0 (c := ("InvalidBands", "value")) (mk0 T hr (List.mem_of_getElem? (i := 9) rfl) rfl (by decide)) pa_mkN)))))))) adds_of)
      (pss_cons (PS_imp (ps_set (i := 0) scBare.nd rfl (Or.inl rfl) (pe_op op_cat (pv 0) (pe_lst (pa_mk0 (c := ("InvalidEntries", "value")) (mk0 T hr (List.mem_of_getElem? (i := 10) rfl) rfl (by decide)) (pa_mk0 (c := ("InvalidBook", "value")) (mk0 T hr (List.mem_of_getElem? (i := 11) rfl) rfl (by decide)) (pa_mk0 (c := ("UnlikeBooks", "value")) (mk0 T hr (List.mem_of_getElem? (i := 12) rfl) rfl (by decide)) (pa_mk0 (c := ("InvalidText", "value")) (mk0 T hr (List.mem_of_getElem? (i := 13) rfl) rfl (by decide)) (pa_mk0 (c := ("InvalidLot", "value")) (mk0 T hr (List.mem_of_getElem? (i := 14) rfl) rfl (by decide)) pa_mkN)))))))) adds_of)
      (pss_cons (PS_imp (ps_set (i := 0) scBare.nd rfl (Or.inl rfl) (pe_op op_cat (pv 0) (pe_lst (pa_mk0 (c := ("InvalidPrices", "value")) (mk0 T hr (List.mem_of_getElem? (i := 15) rfl) rfl (by decide)) (pa_mk0 (c := ("InvalidClaim", "value")) (mk0 T hr (List.mem_of_getElem? (i := 16) rfl) rfl (by decide)) (pa_mk0 (c := ("InvalidName", "name")) (mk0 T hr (List.mem_of_getElem? (i := 17) rfl) rfl (by decide)) (pa_mk0 (c := ("TakenName", "name")) (mk0 T hr (List.mem_of_getElem? (i := 18) rfl) rfl (by decide)) (pa_mk0 (c := ("UnknownName", "name")) (mk0 T hr (List.mem_of_getElem? (i := 19) rfl) rfl (by decide)) (pa_mk0 (c := ("Lacking", "name")) (mk0 T hr (List.mem_of_getElem? (i := 20) rfl) rfl (by decide)) pa_mkN))))))))) adds_of)
      (pss_cons (PS_imp (ps_set (i := 0) scBare.nd rfl (Or.inl rfl) (pe_op op_cat (pv 0) (pe_lst (pa_mk0 (c := ("UnknownBooking", "number")) (mk0 T hr (List.mem_of_getElem? (i := 21) rfl) rfl (by decide)) (pa_mk0 (c := ("UnknownClaim", "number")) (mk0 T hr (List.mem_of_getElem? (i := 22) rfl) rfl (by decide)) pa_mkN))))) adds_of)
      (pss_one (ps_ret (pv 0))))))))), ?_⟩
    refine ⟨Nat.zero_le _, fun l0 h0 => ?_⟩
    refine ⟨_, [], .non, rfl, upd_same, rfl, (by show 0 + 5 ≤ 100; decide), fun p0 as0 H0 s0 n0 w0 e0 => ?_⟩
    refine ⟨_, _, .non, rfl, w0, rfl, (by simp only [List.length_append, e0.len]; decide), fun p1 as1 H1 s1 n1 w1 e1 => ?_⟩
    refine ⟨_, _, .non, rfl, w1, rfl, (by simp only [List.length_append, e0.len, e1.len]; decide), fun p2 as2 H2 s2 n2 w2 e2 => ?_⟩
    refine ⟨_, _, .non, rfl, w2, rfl, (by simp only [List.length_append, e0.len, e1.len, e2.len]; decide), fun p3 as3 H3 s3 n3 w3 e3 => ?_⟩
    refine ⟨_, _, .non, rfl, w3, rfl, (by simp only [List.length_append, e0.len, e1.len, e2.len, e3.len]; decide), fun p4 as4 H4 s4 n4 w4 e4 => ?_⟩
    exact ⟨_, rfl, k p4 _ H4 ((((((same_upd h0).trans s0).trans s1).trans s2).trans s3).trans s4) ((((((same_upd h0).trans s0).trans s1).trans s2).trans s3).free n4) w4 ((((((((e0.same s1).same s2).same s3).same s4).append (((e1.same s2).same s3).same s4)).append ((e2.same s3).same s4)).append (e3.same s4)).append e4)⟩
end
end K00
end
section
namespace K00
open PySem PySem.Spec PyProof.Rows L2 L2.Xv He
/-- at a stands an error of the class named x -/
def IsErr (K : PySem.W.Frag) (H : Hp) (a : Addr) (x : Str) : Prop := (∃ f v, ErrAt H a (ga K x) f v) ∨ H a = some (exo a (ga K x) none)
theorem IsErr.same {K : PySem.W.Frag} {H H' : Hp} {a : Addr} {x : Str} (h : IsErr K H a x) (s : Same H H') : IsErr K H' a x := h.elim (fun ⟨f, v, e⟩ => .inl ⟨f, v, e.same s⟩) fun e => .inr (s _ _ e)
def flag (x y : Str) : Bool := decide (x = y) || decide (y = "MillError")
def flags (x : Str) : List Bool := (names.take 24).map (flag x)
def hitsTo (bs : List Bool) (i : Nat) : List V := ((List.range i).filter fun j => bs[j]?.getD false).map fun j => V.int (j : Nat)
def hits (x : Str) : List V := hitsTo (flags x) 24
theorem hits_more (bs : List Bool) (i : Nat) (b : Bool) (h : bs[i]? = some b) : hitsTo bs (i + 1) = if b then hitsTo bs i ++ [V.int (i : Nat)] else hitsTo bs i := by
  unfold hitsTo
  rw [List.range_succ, List.filter_append, List.map_append]
  cases b <;> simp [h]
def spKinds (K : PySem.W.Frag) : Sp := fun vs H Q _ => ∃ (a : Addr) (x : Str), vs = [.ref a] ∧ x ∈ names ∧ IsErr K H a x ∧ ∀ (p : Addr) (H' : Hp), Same H H' → H p = none → H' p = some (.lst (hits x)) → Q (.ref p) H'
def tIs (K : PySem.W.Frag) (y : Str) : TE := fun σ H Q => ∃ (a : Addr) (x : Str), σ[0]? = some (some (.ref a)) ∧ x ∈ names ∧ IsErr K H a x ∧ Q (.bl (flag x y)) H
def tIs2 (K : PySem.W.Frag) (y z : Str) : TA := fun σ H Q => ∃ (a : Addr) (x : Str), σ[0]? = some (some (.ref a)) ∧ x ∈ names ∧ IsErr K H a x ∧ Q [.bl (flag x y), .bl (flag x z)] H
def tFlag (K : PySem.W.Frag) (y z : Str) : TS := fun D σ H => ∃ (p a : Addr) (bs : List Bool) (x : Str), σ[1]? = some (some (.ref p)) ∧ H p = some (.lst (bs.map V.bl)) ∧ bs.length ≤ 100 ∧ σ[0]? = some (some (.ref a)) ∧ x ∈ names ∧ IsErr K H a x ∧
  ∀ (p' : Addr) (H' : Hp), Same H H' → H p' = none → H' p' = some (.lst ((bs ++ [flag x y, flag x z]).map V.bl)) → D.nx (σ.set 1 (some (.ref p'))) H'
section
variable {X : Cx} {y z : Str} {p1 p2 p3 p4 p5 p6 : Pos}
theorem isK (T : Tx X.prog X.w X.K X.mg X.base) (hy : y ∈ names) (hg : Gl X y) (hi : Gl X "isinstance") (hd : (y == ("__debug__" : Str)) = false) {e : Expr} (he : PE X e (tVar 0)) (hs : ∀ es env, starEach (e :: es) env = (false, eval e env) :: starEach es env) : PE X (.Call (.Name "isinstance" p1) [e, .Name y p2] [] p3) (tIs X.K y) := by
  refine PE_imp (pe_callB (call_isX T.xa) hi (T.free _ (by decide)) boot_isinstance (pa_cons he (pa_cons (pe_glob hg (T.glo y hy) (show RelV (.ref (ga X.K y)) _ from rfl) hd) pa_nil) (hs _ _)) (he := hs _ _)) fun σ H Q h => ?_
  obtain ⟨a, x, hσ, hx, er, k⟩ := h
  exact ⟨_, hσ, a, _, _, _, _, rfl, .own _, T.xc x hx, er, T.kit x hx y hy, k⟩
theorem is2 {a b : Expr} (ha : PE X a (tIs X.K y)) (hb : PE X b (tIs X.K z)) (hs : ∀ es env, starEach (a :: es) env = (false, eval a env) :: starEach es env) (hs2 : ∀ es env, starEach (b :: es) env = (false, eval b env) :: starEach es env) : PA X [a, b] (tIs2 X.K y z) := by
  refine PA_imp (pa_cons ha (pa_cons hb pa_nil (hs2 _ _)) (hs _ _)) fun σ H Q h => ?_
  obtain ⟨a, x, hσ, hx, er, k⟩ := h
  exact ⟨a, x, hσ, hx, er, a, x, hσ, hx, er, k⟩
theorem flag_of {K : PySem.W.Frag} (D : Ends) (σ : L2.St) (H : Hp) (h : tFlag K y z D σ H) : tAsg (tOp rCat (tVar 1) (tLst (tIs2 K y z))) (gName 1) D σ H := by
  obtain ⟨p, a, bs, x, hσ, hp, hl, h0, hx, er, k⟩ := h
  refine ⟨_, hσ, a, x, h0, hx, er, (by show 2 ≤ sizeLine; decide), fun l hl' => ⟨p, l, bs.map V.bl, _, rfl, rfl, ?_, upd_same, ?_, fun q hq => ?_⟩⟩
  · rw [upd_ne (ne_of_none hp hl')]
    exact hp
  · rw [List.length_map, sizeLine_eq]
    show bs.length + 2 ≤ _
    omega
  · exact k q _ ((same_upd hl').trans (same_upd hq)) ((same_upd hl').free hq) (by rw [upd_same, List.map_append]; rfl)
end
theorem scKinds : FnScope ["_law_error", "_law_classes", "_law_at"] ["_law_error"] (defScope (top 31)) := ⟨rfl, rfl, rfl, by decide +kernel, rfl, by decide +kernel, by decide +kernel⟩
section
variable {P : Program} {w : World} {K : PySem.W.Frag} {mg : Str → Option Value} {base : Heap} {f : Addr} {fd : FuncData}
theorem okKinds (F : FunT K 31 "_law_kinds" f fd) (T : Tx P w K mg base) : FnOk P w K mg base CX0 1 f fd ["_law_error"] (spKinds K) := by
  refine F.ok scKinds (fun vs H Q E h => ?_) (fun cdv A outer s H vs Q E hr h => ?_)
  · obtain ⟨_, _, rfl, _⟩ := h
    rfl
  · obtain ⟨a, x, rfl, hx, er, k⟩ := h
    refine ⟨_, PSs.nox (pss_cons (ps_set (i := 1) scKinds.nd rfl (Or.inr rfl) (pe_lst (is2 (isK T (y := "InvalidList") (by decide +kernel) (by rfl) (by rfl) (by decide) (pv 0) (by intro _ _; rfl)) (isK T (y := "InvalidItem") (by decide +kernel) (by rfl) (by rfl) (by decide) (pv 0) (by intro _ _; rfl)) (by intro _ _; rfl) (by intro _ _; rfl))))
      (pss_cons (PS_imp (ps_set (i := 1) scKinds.nd rfl (Or.inr rfl) (pe_op op_cat (pv 1) (pe_lst (is2 (isK T (y := "InvalidNumber") (by decide +kernel) (by rfl) (by rfl) (by decide) (pv 0) (by intro _ _; rfl)) (isK T (y := "InvalidMill") (by decide +kernel) (by rfl) (by rfl) (by decide) (pv 0) (by intro _ _; rfl)) (by intro _ _; rfl) (by intro _ _; rfl))))) flag_of)
      (pss_cons (PS_imp (ps_set (i := 1) scKinds.nd rfl (Or.inr rfl) (pe_op op_cat (pv 1) (pe_lst (is2 (isK T (y := "InvalidHoldings") (by decide +kernel) (by rfl) (by rfl) (by decide) (pv 0) (by intro _ _; rfl)) (isK T (y := "InvalidRow") (by decide +kernel) (by rfl) (by rfl) (by decide) (pv 0) (by intro _ _; rfl)) (by intro _ _; rfl) (by intro _ _; rfl))))) flag_of)
      (pss_cons (PS_imp (ps_set (i := 1) scKinds.nd rfl (Or.inr rfl) (pe_op op_cat (pv 1) (pe_lst (is2 (isK T (y := "InvalidBox") (by decide +kernel) (by rfl) (by rfl) (by decide) (pv 0) (by intro _ _; rfl)) (isK T (y := "InvalidChain") (by decide +kernel) (by rfl) (by rfl) (by decide) (pv 0) (by intro _ _; rfl)) (by intro _ _; rfl) (by intro _ _; rfl))))) flag_of)
      (pss_cons (PS_imp (ps_set (i := 1) scKinds.nd rfl (Or.inr rfl) (pe_op op_cat (pv 1) (pe_lst (is2 (isK T (y := "InvalidBrew") (by decide +kernel) (by rfl) (by rfl) (by decide) (pv 0) (by intro _ _; rfl)) (isK T (y := "InvalidBands") (by decide +kernel) (by rfl) (by rfl) (by decide) (pv 0) (by intro _ _; rfl)) (by intro _ _; rfl) (by intro _ _; rfl))))) flag_of)
      (pss_cons (PS_imp (ps_set (i := 1) scKinds.nd rfl (Or.inr rfl) (pe_op op_cat (pv 1) (pe_lst (is2 (isK T (y := "InvalidEntries") (by decide +kernel) (by rfl) (by rfl) (by decide) (pv 0) (by intro _ _; rfl)) (isK T (y := "InvalidBook") (by decide +kernel) (by rfl) (by rfl) (by decide) (pv 0) (by intro _ _; rfl)) (by intro _ _; rfl) (by intro _ _; rfl))))) flag_of)
      (pss_cons (PS_imp (ps_set (i := 1) scKinds.nd rfl (Or.inr rfl) (pe_op op_cat (pv 1) (pe_lst (is2 (isK T (y := "UnlikeBooks") (by decide +kernel) (by rfl) (by rfl) (by decide) (pv 0) (by intro _ _; rfl)) (isK T (y := "InvalidText") (by decide +kernel) (by rfl) (by rfl) (by decide) (pv 0) (by intro _ _; rfl)) (by intro _ _; rfl) (by intro _ _; rfl))))) flag_of)
      (pss_cons (PS_imp (ps_set (i := 1) scKinds.nd rfl (Or.inr rfl) (pe_op op_cat (pv 1) (pe_lst (is2 (isK T (y := "InvalidLot") (by decide +kernel) (by rfl) (by rfl) (by decide) (pv 0) (by intro _ _; rfl)) (isK T (y := "InvalidPrices") (by decide +kernel) (by rfl) (by rfl) (by decide) (pv 0) (by intro _ _; rfl)) (by intro _ _; rfl) (by intro _ _; rfl))))) flag_of)
      (pss_cons (PS_imp (ps_set (i := 1) scKinds.nd rfl (Or.inr rfl) (pe_op op_cat (pv 1) (pe_lst (is2 (isK T (y := "InvalidClaim") (by decide +kernel) (by rfl) (by rfl) (by decide) (pv 0) (by intro _ _; rfl)) (isK T (y := "InvalidName") (by decide +kernel) (by rfl) (by rfl) (by decide) (pv 0) (by intro _ _; rfl)) (by intro _ _; rfl) (by intro _ _; rfl))))) flag_of)
      (pss_cons (PS_imp (ps_set (i := 1) scKinds.nd rfl (Or.inr rfl) (pe_op op_cat (pv 1) (pe_lst (is2 (isK T (y := "TakenName") (by decide +kernel) (by rfl) (by rfl) (by decide) (pv 0) (by intro _ _; rfl)) (isK T (y := "UnknownName") (by decide +kernel) (by rfl) (by rfl) (by decide) (pv 0) (by intro _ _; rfl)) (by intro _ _; rfl) (by intro _ _; rfl))))) flag_of)
      (pss_cons (PS_imp (ps_set (i := 1) scKinds.nd rfl (Or.inr rfl) (pe_op op_cat (pv 1) (pe_lst (is2 (isK T (y := "Lacking") (by decide +kernel) (by rfl) (by rfl) (by decide) (pv 0) (by intro _ _; rfl)) (isK T (y := "UnknownBooking") (by decide +kernel) (by rfl) (by rfl) (by decide) (pv 0) (by intro _ _; rfl)) (by intro _ _; rfl) (by intro _ _; rfl))))) flag_of)
      (pss_cons (PS_imp (ps_set (i := 1) scKinds.nd rfl (Or.inr rfl) (pe_op op_cat (pv 1) (pe_lst (is2 (isK T (y := "UnknownClaim") (by decide +kernel) (by rfl) (by rfl) (by decide) (pv 0) (by intro _ _; rfl)) (isK T (y := "NothingToUndo") (by decide +kernel) (by rfl) (by rfl) (by decide) (pv 0) (by intro _ _; rfl)) (by intro _ _; rfl) (by intro _ _; rfl))))) flag_of)
      (pss_cons (ps_if (PW.pt (pw_or (pt_not (pt_val (isK T (y := "MillError") (by decide +kernel) (by rfl) (by rfl) (by decide) (pv 0) (by intro _ _; rfl)))) (pw_or1 (pt_not (pt_val (pe_callB (call_isX T.xa) rfl (T.free _ (by decide +kernel)) boot_isinstance (pa_cons (pv 0) (pa_cons (pe_bltn (v := .ty "ValueError") rfl (T.free _ (by decide +kernel)) PyProof.Rows.Boot.«ValueError» rfl) pa_nil)))))))) (pss_one (ps_ret (pe_lst pa_nil))) pss_nil)
      (pss_one (ps_ret (pe_lc (own := [("_law_at", 2)]) (g := gName 2) (tt := tTest (tOp (rIxL K) (tVar 1) (tVar 2))) rfl scKinds.nd (pi_range1 rfl (T.free _ (by decide +kernel)) (pa_cons pe_int pa_nil)) (blkOk_by (N := ["_law_error", "_law_classes", "_law_at"]) (sc := defScope (top 31)) (by decide +kernel)) (fun _ _ _ _ _ => pg_name (i := 2) scKinds.nd rfl (Or.inl rfl)) (fun _ _ _ _ _ => pts_one (pt_val (pe_ix ix_list (pv 1) (pv 2) (fun _ _ => rfl)))) (fun _ _ _ _ _ => pv 2))))))))))))))))), ?_⟩
    refine ⟨a, x, rfl, hx, er, (by show 2 ≤ sizeLine; decide), fun l0 h0 => ?_⟩
    refine ⟨l0, a, [flag x "InvalidList", flag x "InvalidItem"], x, rfl, upd_same, (by show (2 : Nat) ≤ 100; decide), rfl, hx, er.same (same_upd h0), fun p0 H0 s0 n0 w0 => ?_⟩
    refine ⟨p0, a, [flag x "InvalidList", flag x "InvalidItem", flag x "InvalidNumber", flag x "InvalidMill"], x, rfl, w0, (by show (4 : Nat) ≤ 100; decide), rfl, hx, er.same ((same_upd h0).trans s0), fun p1 H1 s1 n1 w1 => ?_⟩
    refine ⟨p1, a, [flag x "InvalidList", flag x "InvalidItem", flag x "InvalidNumber", flag x "InvalidMill", flag x "InvalidHoldings", flag x "InvalidRow"], x, rfl, w1, (by show (6 : Nat) ≤ 100; decide), rfl, hx, er.same (((same_upd h0).trans s0).trans s1), fun p2 H2 s2 n2 w2 => ?_⟩
    refine ⟨p2, a, [flag x "InvalidList", flag x "InvalidItem", flag x "InvalidNumber", flag x "InvalidMill", flag x "InvalidHoldings", flag x "InvalidRow", flag x "InvalidBox", flag x "InvalidChain"], x, rfl, w2, (by show (8 : Nat) ≤ 100; decide), rfl, hx, er.same ((((same_upd h0).trans s0).trans s1).trans s2), fun p3 H3 s3 n3 w3 => ?_⟩
    refine ⟨p3, a, [flag x "InvalidList", flag x "InvalidItem", flag x "InvalidNumber", flag x "InvalidMill", flag x "InvalidHoldings", flag x "InvalidRow", flag x "InvalidBox", flag x "InvalidChain", flag x "InvalidBrew", flag x "InvalidBands"], x, rfl, w3, (by show (10 : Nat) ≤ 100; decide), rfl, hx, er.same (((((same_upd h0).trans s0).trans s1).trans s2).trans s3), fun p4 H4 s4 n4 w4 => ?_⟩
    refine ⟨p4, a, [flag x "InvalidList", flag x "InvalidItem", flag x "InvalidNumber", flag x "InvalidMill", flag x "InvalidHoldings", flag x "InvalidRow", flag x "InvalidBox", flag x "InvalidChain", flag x "InvalidBrew", flag x "InvalidBands", flag x "InvalidEntries", flag x "InvalidBook"], x, rfl, w4, (by show (12 : Nat) ≤ 100; decide), rfl, hx, er.same ((((((same_upd h0).trans s0).trans s1).trans s2).trans s3).trans s4), fun p5 H5 s5 n5 w5 => ?_⟩
    refine ⟨p5, a, [flag x "InvalidList", flag x "InvalidItem", flag x "InvalidNumber", flag x "InvalidMill", flag x "InvalidHoldings", flag x "InvalidRow", flag x "InvalidBox", flag x "InvalidChain", flag x "InvalidBrew", flag x "InvalidBands", flag x "InvalidEntries", flag x "InvalidBook", flag x "UnlikeBooks", flag x "InvalidText"], x, rfl, w5, (by show (14 : Nat) ≤ 100; decide), rfl, hx, er.same (((((((same_upd h0).trans s0).trans s1).trans s2).trans s3).trans s4).trans s5), fun p6 H6 s6 n6 w6 => ?_⟩
    refine ⟨p6, a, [flag x "InvalidList", flag x "InvalidItem", flag x "InvalidNumber", flag x "InvalidMill", flag x "InvalidHoldings", flag x "InvalidRow", flag x "InvalidBox", flag x "InvalidChain", flag x "InvalidBrew", flag x "InvalidBands", flag x "InvalidEntries", flag x "InvalidBook", flag x "UnlikeBooks", flag x "InvalidText", flag x "InvalidLot", flag x "InvalidPrices"], x, rfl, w6, (by show (16 : Nat) ≤ 100; decide), rfl, hx, er.same ((((((((same_upd h0).trans s0).trans s1).trans s2).trans s3).trans s4).trans s5).trans s6), fun p7 H7 s7 n7 w7 => ?_⟩
    refine ⟨p7, a, [flag x "InvalidList", flag x "InvalidItem", flag x "InvalidNumber", flag x "InvalidMill", flag x "InvalidHoldings", flag x "InvalidRow", flag x "InvalidBox", flag x "InvalidChain", flag x "InvalidBrew", flag x "InvalidBands", flag x "InvalidEntries", flag x "InvalidBook", flag x "UnlikeBooks", flag x "InvalidText", flag x "InvalidLot", flag x "InvalidPrices", flag x "InvalidClaim", flag x "InvalidName"], x, rfl, w7, (by show (18 : Nat) ≤ 100; decide), rfl, hx, er.same (((((((((same_upd h0).trans s0).trans s1).trans s2).trans s3).trans s4).trans s5).trans s6).trans s7), fun p8 H8 s8 n8 w8 => ?_⟩
    refine ⟨p8, a, [flag x "InvalidList", flag x "InvalidItem", flag x "InvalidNumber", flag x "InvalidMill", flag x "InvalidHoldings", flag x "InvalidRow", flag x "InvalidBox", flag x "InvalidChain", flag x "InvalidBrew", flag x "InvalidBands", flag x "InvalidEntries", flag x "InvalidBook", flag x "UnlikeBooks", flag x "InvalidText", flag x "InvalidLot", flag x "InvalidPrices", flag x "InvalidClaim", flag x "InvalidName", flag x "TakenName", flag x "UnknownName"], x, rfl, w8, (by show (20 : Nat) ≤ 100; decide), rfl, hx, er.same ((((((((((same_upd h0).trans s0).trans s1).trans s2).trans s3).trans s4).trans s5).trans s6).trans s7).trans s8), fun p9 H9 s9 n9 w9 => ?_⟩
    refine ⟨p9, a, [flag x "InvalidList", flag x "InvalidItem", flag x "InvalidNumber", flag x "InvalidMill", flag x "InvalidHoldings", flag x "InvalidRow", flag x "InvalidBox", flag x "InvalidChain", flag x "InvalidBrew", flag x "InvalidBands", flag x "InvalidEntries", flag x "InvalidBook", flag x "UnlikeBooks", flag x "InvalidText", flag x "InvalidLot", flag x "InvalidPrices", flag x "InvalidClaim", flag x "InvalidName", flag x "TakenName", flag x "UnknownName", flag x "Lacking", flag x "UnknownBooking"], x, rfl, w9, (by show (22 : Nat) ≤ 100; decide), rfl, hx, er.same (((((((((((same_upd h0).trans s0).trans s1).trans s2).trans s3).trans s4).trans s5).trans s6).trans s7).trans s8).trans s9), fun p10 H10 s10 n10 w10 => ?_⟩
    have sm : Same H H10 := ((((((((((((same_upd h0).trans s0).trans s1).trans s2).trans s3).trans s4).trans s5).trans s6).trans s7).trans s8).trans s9).trans s10)
    have wf : H10 p10 = some (.lst ((flags x).map V.bl)) := w10
    clear w10
    refine ⟨a, x, rfl, hx, er.same sm, _, rfl, ?_⟩
    have fm : flag x "MillError" = true := by simp [flag]
    rw [fm]
    refine iteF ⟨_, rfl, a, _, _, _, _, rfl, .ty _, T.xc x hx, er.same sm, T.kitV x hx, _, rfl, iteF ?_⟩
    refine ⟨_, rfl, by decide, by decide, fun D hD => ?_⟩
    refine lc_range (lo := 0) (n := 24) (fun i H' => Same H10 H' ∧ H' D = some (.lst (hitsTo (flags x) i))) ?_ ?_ ?_
    · exact ⟨same_upd hD, upd_same⟩
    · rintro i H' hi ⟨s', hD'⟩
      obtain ⟨b, hb⟩ : ∃ b, (flags x)[i]? = some b := ⟨_, List.getElem?_eq_getElem (show i < (flags x).length from hi)⟩
      refine ⟨rfl, _, rfl, _, rfl, p10, _, _, .bl b, rfl, rfl, SqL.of (s' _ _ wf), ?_, b, rfl, ?_⟩
      · rw [Int.zero_add]
        exact atI_nat (by rw [List.getElem?_map, hb]; rfl)
      · have hm := hits_more _ _ _ hb
        have hle : (hitsTo (flags x) i).length < sizeLine := by
          unfold hitsTo
          rw [List.length_map]
          have := List.length_filter_le (fun j => (flags x)[j]?.getD false) (List.range i)
          rw [List.length_range] at this
          rw [sizeLine_eq]
          omega
        cases b with
        | true =>
          refine iteT ⟨_, rfl, _, hD', hle, ?_, ?_⟩
          · intro b o e
            by_cases eb : b = D
            · rw [eb, hD] at e
              cases e
            · rw [upd_ne eb]
              exact s' b o e
          · rw [upd_same, hm, if_pos rfl, Int.zero_add]
        | false =>
          refine iteF ⟨s', ?_⟩
          rw [hm, if_neg Bool.false_ne_true]
          exact hD'
    · rintro H' ⟨s', hD'⟩
      exact k D H' (sm.trans s') (sm.free hD) hD'
end
end K00
end
section
namespace K00
open PySem PySem.Spec PyProof.Rows L2 L2.Xv He
theorem Errs.at {K : PySem.W.Frag} {H : Hp} {v : V} : ∀ {as : List Addr} {cs : List (Str × Str)} {i : Nat} {y : V}, Errs K H v as cs → (as.map V.ref)[i]? = some y → ∃ (a : Addr) (c : Str × Str), y = .ref a ∧ cs[i]? = some c ∧ ErrAt H a (ga K c.1) c.2 v
  | _, _, _, _, .nil, e => by simp at e
  | a :: _, c :: _, 0, y, .cons r t, e => ⟨a, c, (Option.some.inj (show some (V.ref a) = some y from e)).symm, rfl, r⟩
  | _ :: as, _ :: _, i + 1, y, .cons r t, e => Errs.at (i := i) t (show (as.map V.ref)[i]? = some y from e)
/-- the items of a piece of such a list -/
theorem piece {K : PySem.W.Frag} {H : Hp} {v : V} {as : List Addr} {f : Str} (lo n : Nat) (er : Errs K H v as ecs) (hf : ((ecs.drop lo).take n).all (fun c => decide (c.2 = f)) = true) (i : Nat) (y : V) (e : (((as.map V.ref).drop lo).take n)[i]? = some y) :
    ∃ (a : Addr) (c : Str × Str), y = .ref a ∧ c ∈ ecs ∧ c.2 = f ∧ ErrAt H a (ga K c.1) f v := by
  rw [List.getElem?_take] at e
  split at e
  · rename_i hi
    rw [List.getElem?_drop] at e
    obtain ⟨a, c, rfl, hc, r⟩ := er.at e
    have hm : c ∈ (ecs.drop lo).take n := by
      refine List.mem_of_getElem? (i := i) ?_
      rw [List.getElem?_take, if_pos hi, List.getElem?_drop]
      exact hc
    have ef : c.2 = f := of_decide_eq_true (List.all_eq_true.mp hf c hm)
    rw [ef] at r
    exact ⟨a, c, rfl, List.mem_of_getElem? hc, ef, r⟩
  · cases e
theorem same_of {H H' : Hp} {p : Addr} {o : HO} (s : Same H H') (h : H p = none) : Same H (upd H' p o) := fun b u e => by
  rw [upd_ne (ne_of_none e h)]
  exact s b u e
theorem yes {σ : L2.St} {H : Hp} {A B : Hp → Prop} (h : A H) : tYes σ H (fun b H3 => if b = true then A H3 else B H3) := iteT (A := A H) (B := B H) h
def spFields (K : PySem.W.Frag) : Sp := fun vs H Q _ => ∃ (p : Addr) (as : List Addr) (v : V), vs = [.ref p] ∧ H p = some (.lst (as.map V.ref)) ∧ Errs K H v as ecs ∧ ∀ (q : Addr) (H' : Hp), Same H H' → H q = none → H' q = some (.lst (List.replicate 23 v)) → Q (.ref q) H'
theorem scFields : FnScope ["_law_errors", "_law_found", "_law_error"] ["_law_errors"] (defScope (top 35)) := ⟨rfl, rfl, rfl, by decide +kernel, rfl, by decide +kernel, by decide +kernel⟩
section
variable {P : Program} {w : World} {K : PySem.W.Frag} {mg : Str → Option Value} {base : Heap} {f : Addr} {fd : FuncData}
theorem okFields (F : FunT K 35 "_law_fields" f fd) (T : Tx P w K mg base) : FnOk P w K mg base CX0 1 f fd ["_law_errors"] (spFields K) := by
  refine F.ok scFields (fun vs H Q E h => ?_) (fun cdv A outer s H vs Q E hr h => ?_)
  · obtain ⟨_, _, _, rfl, _⟩ := h
    rfl
  · obtain ⟨p, as, v, rfl, hp, er, k⟩ := h
    have len : as.length = 23 := er.len
    refine ⟨_, PSs.nox (pss_cons (ps_set (i := 1) scFields.nd rfl (Or.inl rfl) (pe_op op_cat (pe_lc (own := [("_law_error", 2)]) (g := gName 2) (tt := tYes) (te := tXf K "value" (tVar 2)) rfl scFields.nd (pi_list (pe_slice sl_list (pv 0) po_none (po_some pe_int))) (blkOk_by (N := ["_law_errors", "_law_found", "_law_error"]) (sc := defScope (top 35)) (by decide +kernel)) (fun _ _ _ _ _ => pg_name (i := 2) scFields.nd rfl (Or.inl rfl)) (fun _ _ _ _ _ => pts_nil) (fun _ _ _ _ _ => pe_xf (pv 2))) (pe_lc (own := [("_law_error", 2)]) (g := gName 2) (tt := tYes) (te := tXf K "name" (tVar 2)) rfl scFields.nd (pi_list (pe_slice sl_list (pv 0) (po_some pe_int) (po_some pe_int))) (blkOk_by (N := ["_law_errors", "_law_found", "_law_error"]) (sc := defScope (top 35)) (by decide +kernel)) (fun _ _ _ _ _ => pg_name (i := 2) scFields.nd rfl (Or.inl rfl)) (fun _ _ _ _ _ => pts_nil) (fun _ _ _ _ _ => pe_xf (pv 2)))))
      (pss_one (ps_ret (pe_op op_cat (pv 1) (pe_lc (own := [("_law_error", 2)]) (g := gName 2) (tt := tYes) (te := tXf K "number" (tVar 2)) rfl scFields.nd (pi_list (pe_slice sl_list (pv 0) (po_some pe_int) po_none)) (blkOk_by (N := ["_law_errors", "_law_found", "_law_error"]) (sc := defScope (top 35)) (by decide +kernel)) (fun _ _ _ _ _ => pg_name (i := 2) scFields.nd rfl (Or.inl rfl)) (fun _ _ _ _ _ => pts_nil) (fun _ _ _ _ _ => pe_xf (pv 2))))))), ?_⟩
    refine ⟨_, rfl, _, rfl, p, _, rfl, SqL.of ((Same.refl H) _ _ hp), fun q1 n1 => ⟨q1, rfl, ⟨_, SqL.of upd_same⟩, fun D1 d1 => ?_⟩⟩
    have x1 : Same H (upd H q1 (.lst (cutV (as.map V.ref) none (some 17)))) := (Same.refl H).trans (same_upd n1)
    have c1 : cutV (as.map V.ref) none (some 17) = ((as.map V.ref).drop 0).take 17 := by
      unfold cutV
      rw [List.length_map, len]
      rfl
    refine lc_list (K := K) (a := q1) (xs := cutV (as.map V.ref) none (some 17)) (fun i H' => Same (upd H q1 (.lst (cutV (as.map V.ref) none (some 17)))) H' ∧ H' D1 = some (.lst (List.replicate i v))) ⟨same_upd d1, upd_same⟩ (fun i H' _ z => SqL.of (z.1 _ _ upd_same)) ?_ ?_
    · rintro i y H' hy ⟨s', hD'⟩
      have hi : i < 23 := by
        have q := (List.getElem?_eq_some_iff.mp hy).1
        have q2 := cutV_length (as.map V.ref) none (some 17)
        rw [List.length_map, len] at q2
        omega
      rw [c1] at hy
      obtain ⟨a, c, rfl, hc, hcf, r⟩ := piece (f := "value") 0 17 er (by decide +kernel) i y hy
      refine ⟨rfl, ?_⟩
      refine yes ?_
      refine ⟨_, rfl, a, _, v, rfl, T.xc _ (List.mem_append_left _ (List.mem_map_of_mem hc)), (by have z := (T.ini c hc).no; rw [hcf] at z; exact z), r.same (x1.trans s'), _, hD', ?_, same_of s' d1, ?_⟩
      · rw [List.length_replicate, sizeLine_eq]
        omega
      · rw [upd_same, ← List.replicate_succ']
    rintro H1 ⟨s1, hD1⟩
    have l1 : (cutV (as.map V.ref) none (some 17)).length = 17 := by
      rw [c1, List.length_take, List.length_drop, List.length_map, len]
      rfl
    rw [l1] at hD1
    have y1 : Same H H1 := x1.trans s1
    refine ⟨_, rfl, _, rfl, _, rfl, p, _, rfl, SqL.of (y1 _ _ hp), fun q2 n2 => ⟨q2, rfl, ⟨_, SqL.of upd_same⟩, fun D2 d2 => ?_⟩⟩
    have x2 : Same H (upd H1 q2 (.lst (cutV (as.map V.ref) (some 17) (some 21)))) := y1.trans (same_upd n2)
    have c2 : cutV (as.map V.ref) (some 17) (some 21) = ((as.map V.ref).drop 17).take 4 := by
      unfold cutV
      rw [List.length_map, len]
      rfl
    refine lc_list (K := K) (a := q2) (xs := cutV (as.map V.ref) (some 17) (some 21)) (fun i H' => Same (upd H1 q2 (.lst (cutV (as.map V.ref) (some 17) (some 21)))) H' ∧ H' D2 = some (.lst (List.replicate i v))) ⟨same_upd d2, upd_same⟩ (fun i H' _ z => SqL.of (z.1 _ _ upd_same)) ?_ ?_
    · rintro i y H' hy ⟨s', hD'⟩
      have hi : i < 23 := by
        have q := (List.getElem?_eq_some_iff.mp hy).1
        have q2 := cutV_length (as.map V.ref) (some 17) (some 21)
        rw [List.length_map, len] at q2
        omega
      rw [c2] at hy
      obtain ⟨a, c, rfl, hc, hcf, r⟩ := piece (f := "name") 17 4 er (by decide +kernel) i y hy
      refine ⟨rfl, ?_⟩
      refine yes ?_
      refine ⟨_, rfl, a, _, v, rfl, T.xc _ (List.mem_append_left _ (List.mem_map_of_mem hc)), (by have z := (T.ini c hc).no; rw [hcf] at z; exact z), r.same (x2.trans s'), _, hD', ?_, same_of s' d2, ?_⟩
      · rw [List.length_replicate, sizeLine_eq]
        omega
      · rw [upd_same, ← List.replicate_succ']
    rintro H2 ⟨s2, hD2⟩
    have l2 : (cutV (as.map V.ref) (some 17) (some 21)).length = 4 := by
      rw [c2, List.length_take, List.length_drop, List.length_map, len]
      rfl
    rw [l2] at hD2
    have y2 : Same H H2 := x2.trans s2
    have z2 : Same H1 H2 := (same_upd n2).trans s2
    refine ⟨D1, D2, _, _, rfl, rfl, z2 _ _ hD1, hD2, ?_, fun D3 d3 => ?_⟩
    · rw [List.length_replicate, List.length_replicate, sizeLine_eq]
      omega
    have y3 : Same H (upd H2 D3 (.lst (List.replicate 17 v ++ List.replicate 4 v))) := y2.trans (same_upd d3)
    refine ⟨_, rfl, ?_⟩
    refine ⟨_, rfl, _, rfl, p, _, rfl, SqL.of (y3 _ _ hp), fun q4 n4 => ⟨q4, rfl, ⟨_, SqL.of upd_same⟩, fun D4 d4 => ?_⟩⟩
    have x4 : Same H (upd (upd H2 D3 (.lst (List.replicate 17 v ++ List.replicate 4 v))) q4 (.lst (cutV (as.map V.ref) (some 21) none))) := y3.trans (same_upd n4)
    have c4 : cutV (as.map V.ref) (some 21) none = ((as.map V.ref).drop 21).take 2 := by
      unfold cutV
      rw [List.length_map, len]
      rfl
    refine lc_list (K := K) (a := q4) (xs := cutV (as.map V.ref) (some 21) none) (fun i H' => Same (upd (upd H2 D3 (.lst (List.replicate 17 v ++ List.replicate 4 v))) q4 (.lst (cutV (as.map V.ref) (some 21) none))) H' ∧ H' D4 = some (.lst (List.replicate i v))) ⟨same_upd d4, upd_same⟩ (fun i H' _ z => SqL.of (z.1 _ _ upd_same)) ?_ ?_
    · rintro i y H' hy ⟨s', hD'⟩
      have hi : i < 23 := by
        have q := (List.getElem?_eq_some_iff.mp hy).1
        have q2 := cutV_length (as.map V.ref) (some 21) none
        rw [List.length_map, len] at q2
        omega
      rw [c4] at hy
      obtain ⟨a, c, rfl, hc, hcf, r⟩ := piece (f := "number") 21 2 er (by decide +kernel) i y hy
      refine ⟨rfl, ?_⟩
      refine yes ?_
      refine ⟨_, rfl, a, _, v, rfl, T.xc _ (List.mem_append_left _ (List.mem_map_of_mem hc)), (by have z := (T.ini c hc).no; rw [hcf] at z; exact z), r.same (x4.trans s'), _, hD', ?_, same_of s' d4, ?_⟩
      · rw [List.length_replicate, sizeLine_eq]
        omega
      · rw [upd_same, ← List.replicate_succ']
    rintro H4 ⟨s4, hD4⟩
    have l4 : (cutV (as.map V.ref) (some 21) none).length = 2 := by
      rw [c4, List.length_take, List.length_drop, List.length_map, len]
      rfl
    rw [l4] at hD4
    have y4 : Same H H4 := x4.trans s4
    have z4 := ((same_upd n4).trans s4) _ _ (upd_same (H := H2) (a := D3))
    refine ⟨D3, D4, _, _, rfl, rfl, z4, hD4, ?_, fun D5 d5 => ?_⟩
    · rw [List.length_append, List.length_replicate, List.length_replicate, List.length_replicate, sizeLine_eq]
      omega
    exact k D5 _ (y4.trans (same_upd d5)) (y4.free d5) upd_same
end
end K00
end
section
namespace K00
open PySem PySem.Spec PyProof.Rows L2 L2.Xv He
/-- v is some data that repr shows -/
def Shows (K : PySem.W.Frag) (H : Hp) (v : V) : Prop := ∃ d, Sd K H v d ∧ d.showable = true ∧ d.shown.length ≤ sizeLine ∧ d.depth ≤ 60
mutual
theorem sd_same {K : PySem.W.Frag} {H H' : Hp} (s : Same H H') {v : V} {d : PyData} : Sd K H v d → Sd K H' v d
  | .non => .non
  | .bl b => .bl b
  | .int i => .int i
  | .str x => .str x
  | .lst h t => .lst (s.seq h) (sdAll_same s t)
  | .tup h t => .tup (h.elim (fun r => .inl (r.elim (fun e => .inl (s _ _ e)) fun ⟨o, e⟩ => .inr ⟨o, s _ _ e⟩)) .inr) (sdAll_same s t)
  | .dct h t => .dct (s _ _ h) (sdKv_same s t)
theorem sdAll_same {K : PySem.W.Frag} {H H' : Hp} (s : Same H H') {vs : List V} {ds : List PyData} : SdAll K H vs ds → SdAll K H' vs ds
  | .nil => .nil
  | .cons h t => .cons (sd_same s h) (sdAll_same s t)
theorem sdKv_same {K : PySem.W.Frag} {H H' : Hp} (s : Same H H') {vs : List (Key × V)} {ds : List (PyData × PyData)} : SdKv K H vs ds → SdKv K H' vs ds
  | .nil => .nil
  | .cons h t => .cons (sd_same s h) (sdKv_same s t)
end
theorem Shows.same {K : PySem.W.Frag} {H H' : Hp} {v : V} (h : Shows K H v) (s : Same H H') : Shows K H' v := by
  obtain ⟨d, a, b⟩ := h
  exact ⟨d, sd_same s a, b⟩
def ones : PyData := .list ((List.range 23).map fun i => .list [.int (i : Nat)])
theorem ones_shaped : SeqAt.shaped ones = true := by decide +kernel
theorem ones_eqv : PyData.eqv ones ones = true := by decide +kernel
theorem hits_at {i : Nat} {c : Str × Str} (h : ecs[i]? = some c) : hits c.1 = [V.int (i : Nat)] := by
  have hi : i < 23 := (List.getElem?_eq_some_iff.mp h).1
  have all : (List.range 23).all (fun i => match ecs[i]? with | some c => decide (hits c.1 = [V.int (i : Nat)]) | none => false) = true := by decide +kernel
  have q := List.all_eq_true.mp all i (List.mem_range.mpr hi)
  rw [h] at q
  exact of_decide_eq_true q
/-- at D: n lists, of 0, 1, .. -/
def Ones (H : Hp) (D : Addr) (n : Nat) : Prop := ∃ qs : List Addr, H D = some (.lst (qs.map V.ref)) ∧ qs.length = n ∧ ∀ (j : Nat) (q : Addr), qs[j]? = some q → H q = some (.lst [V.int (j : Nat)])
theorem Ones.data {K : PySem.W.Frag} {H : Hp} {D : Addr} (o : Ones H D 23) : Dp K H (.ref D) ones := by
  obtain ⟨qs, hD, hl, hq⟩ := o
  refine .lst (SqL.of hD) ?_
  have key : ∀ (l : List Addr) (k : Nat), (∀ (j : Nat) (q : Addr), l[j]? = some q → H q = some (.lst [V.int ((k + j : Nat) : Int)])) → DpAll K H (l.map V.ref) ((List.range' k l.length).map fun i => PyData.list [.int (i : Nat)]) := by
    intro l
    induction l with
    | nil => intro k _; exact .nil
    | cons a l ih =>
      intro k h
      refine .cons (.lst (SqL.of (h 0 a rfl)) (.cons (.int _) .nil)) (ih (k + 1) fun j q e => ?_)
      have z := h (j + 1) q e
      rw [show k + 1 + j = k + (j + 1) by omega]
      exact z
  have r := key qs 0 fun j q e => by
    rw [Nat.zero_add]
    exact hq j q e
  rw [hl] at r
  rw [List.range_eq_range']
  exact r
theorem Ones.more {H H' : Hp} {D q : Addr} {n : Nat} (o : Ones H D n) (s : Same H H') (hq : H' q = some (.lst [V.int (n : Nat)])) (nq : H q = none) (hn : n < 100) :
    ∃ acc, H' D = some (.lst acc) ∧ acc.length < sizeLine ∧ Ones (upd H' D (.lst (acc ++ [V.ref q]))) D (n + 1) := by
  obtain ⟨qs, hD, hl, hj⟩ := o
  have nd : ∀ (j : Nat) (p : Addr), qs[j]? = some p → p ≠ D := by
    rintro j p e rfl
    have z := hj j p e
    rw [hD] at z
    have z2 : qs.map V.ref = [V.int (j : Nat)] := by
      have z3 : HO.lst (qs.map V.ref) = HO.lst [V.int (j : Nat)] := Option.some.inj z
      injection z3
    cases qs with
    | nil => cases z2
    | cons x r => cases z2
  have ne : q ≠ D := fun z => by
    rw [z, hD] at nq
    cases nq
  refine ⟨_, s _ _ hD, by rw [List.length_map, hl, sizeLine_eq]; omega, qs ++ [q], by rw [upd_same, List.map_append]; rfl, by rw [List.length_append, hl]; rfl, fun j p e => ?_⟩
  rw [List.getElem?_append] at e
  split at e
  · rw [upd_ne (nd j p e)]
    exact s _ _ (hj j p e)
  · rename_i h
    have ej : j = qs.length := by
      have := (List.getElem?_eq_some_iff.mp e).1
      rw [List.length_singleton] at this
      omega
    rw [ej, Nat.sub_self] at e
    have : q = p := Option.some.inj e
    subst this
    rw [upd_ne ne, ej, hl]
    exact hq
def spRight (K : PySem.W.Frag) : Sp := fun vs H Q _ => ∃ (p : Addr) (as : List Addr) (v : V), vs = [.ref p, v] ∧ H p = some (.lst (as.map V.ref)) ∧ Errs K H v as ecs ∧ Shows K H v ∧ ∀ H' : Hp, Same H H' → Q (.bl true) H'
theorem scRight : FnScope ["_law_errors", "_law_given", "_law_error", "_law_at", "_law_one"] ["_law_errors", "_law_given"] (defScope (top 36)) := ⟨rfl, rfl, rfl, by decide +kernel, rfl, by decide +kernel, by decide +kernel⟩
abbrev nR : List Str := ["_law_errors", "_law_given", "_law_error", "_law_at", "_law_one"]
section
variable {P : Program} {w : World} {K : PySem.W.Frag} {mg : Str → Option Value} {base : Heap} {f fK fF : Addr} {fd fdK fdF : FuncData}
theorem okRight (F : FunT K 36 "_law_right" f fd) (FK : FunT K 31 "_law_kinds" fK fdK) (gK : mg "_law_kinds" = some (.ref fK)) (FF : FunT K 35 "_law_fields" fF fdF) (gF : mg "_law_fields" = some (.ref fF)) (T : Tx P w K mg base) : FnQ P w K mg base 2 f fd ["_law_errors", "_law_given"] (spRight K) := by
  have GK : FnOk P w K mg base CX0 1 fK fdK ["_law_error"] (spKinds K) := okKinds FK T
  have bK : Binds K fdK ["_law_error"] [] := FK.bindsN fun _ _ _ _ _ _ us hl => match us, hl with | [_], _ => rfl
  have GF : FnOk P w K mg base CX0 1 fF fdF ["_law_errors"] (spFields K) := okFields FF T
  have bF : Binds K fdF ["_law_errors"] [] := FF.bindsN fun _ _ _ _ _ _ us hl => match us, hl with | [_], _ => rfl
  refine fnQ F scRight (fun vs H Q E h => ?_) (fun cdv A outer s H vs Q E hq h => ?_)
  · obtain ⟨_, _, _, rfl, _⟩ := h
    rfl
  · obtain ⟨p, as, v, rfl, hp, er, sh, k⟩ := h
    have hr := hq.1
    refine ⟨_, PSs.nox (pss_cons (ps_if (pt_cmpR (op_neD hr.units)
          (pe_lc (own := [("_law_error", 2)]) (g := gName 2) (tt := tYes) (te := tCall (spKinds K) [] E0 (tCons (tVar 2) tNil)) rfl scRight.nd (pi_list (pv 0)) (blkOk_by (N := nR) (sc := defScope (top 36)) (by decide +kernel)) (fun _ _ _ _ _ => pg_name (i := 2) scRight.nd rfl (Or.inl rfl)) (fun _ _ _ _ _ => pts_nil)
            (fun _ _ _ _ _ => pe_call GK hr rfl gK FK.kp bK .nil pass0 (pa_cons (pv 2) pa_nil)))
          (pe_lc (own := [("_law_at", 3)]) (g := gName 3) (tt := tYes) (te := tLst (tCons (tVar 3) tNil)) rfl scRight.nd (pi_range1 rfl (T.free _ (by decide +kernel)) (pa_cons pe_int pa_nil)) (blkOk_by (N := nR) (sc := defScope (top 36)) (by decide +kernel)) (fun _ _ _ _ _ => pg_name (i := 3) scRight.nd rfl (Or.inl rfl)) (fun _ _ _ _ _ => pts_nil)
            (fun _ _ _ _ _ => pe_lst (pa_cons (pv 3) pa_nil))) (nomark _))
        (pss_one (ps_ret pe_bl)) pss_nil)
      (pss_one (ps_ret (pe_cmpR (op_eqD hr.units)
          (pe_lc (own := [("_law_one", 4)]) (g := gName 4) (tt := tTest (tOp rNe (tCB (rRepr K) (tCons (tVar 4) tNil)) (tCB (rRepr K) (tCons (tVar 1) tNil)))) (te := tVar 4) rfl scRight.nd (pi_list (pe_call GF hr rfl gF FF.kp bF .nil pass0 (pa_cons (pv 0) pa_nil))) (blkOk_by (N := nR) (sc := defScope (top 36)) (by decide +kernel)) (fun _ _ _ _ _ => pg_name (i := 4) scRight.nd rfl (Or.inl rfl))
            (fun _ _ _ _ _ => pts_one (pt_cmpR op_ne (pe_callB (call_repr T.sys hq) rfl (T.free _ (by decide +kernel)) boot_repr (pa_cons (pv 4) pa_nil)) (pe_callB (call_repr T.sys hq) rfl (T.free _ (by decide +kernel)) boot_repr (pa_cons (pv 1) pa_nil)) (nomark _)))
            (fun _ _ _ _ _ => pv 4)) (pe_lst pa_nil) (nomark _))))), ?_⟩
    refine ⟨_, rfl, p, rfl, ⟨_, SqL.of hp⟩, fun D1 d1 => ?_⟩
    refine lc_list (K := K) (a := p) (xs := as.map V.ref) (fun i H' => Same H H' ∧ Ones H' D1 i) ⟨same_upd d1, [], upd_same, rfl, fun j q e => by simp at e⟩ (fun i H' _ z => SqL.of (z.1 _ _ hp)) ?_ ?_
    · rintro i y H' hy ⟨s', o⟩
      obtain ⟨a, c, rfl, hc, r⟩ := er.at hy
      have hi : i < 23 := (List.getElem?_eq_some_iff.mp hc).1
      have hm := List.mem_of_getElem? hc
      refine ⟨rfl, ?_⟩
      refine yes ?_
      refine ⟨_, rfl, a, c.1, rfl, List.mem_append_left _ (List.mem_map_of_mem hm), .inl ⟨_, _, r.same s'⟩, fun q H2 s2 nq hq2 => ?_⟩
      rw [hits_at hc] at hq2
      obtain ⟨acc, e1, e2, e3⟩ := o.more s2 hq2 nq (by omega)
      refine ⟨acc, e1, e2, ?_, e3⟩
      intro b u e
      by_cases eb : b = D1
      · rw [eb, d1] at e
        cases e
      · rw [upd_ne eb]
        exact s2 _ _ (s' b u e)
    · rintro H1 ⟨s1, o1⟩
      rw [List.length_map, er.len] at o1
      refine ⟨_, rfl, by decide, by decide, fun D2 d2 => ?_⟩
      refine lc_range (lo := 0) (n := 23) (fun i H' => Same H1 H' ∧ Ones H' D2 i) ⟨same_upd d2, [], upd_same, rfl, fun j q e => by simp at e⟩ ?_ ?_
      · rintro i H' hi ⟨s', o⟩
        refine ⟨rfl, ?_⟩
        refine yes ?_
        refine ⟨_, rfl, (by show 1 ≤ sizeLine; decide), fun q nq => ?_⟩
        obtain ⟨acc, e1, e2, e3⟩ := o.more (H' := upd H' q (.lst [V.int (0 + ((i : Nat) : Int))])) (q := q) (same_upd nq) (by rw [upd_same, Int.zero_add]) nq (by omega)
        refine ⟨acc, e1, e2, ?_, e3⟩
        intro b u e
        by_cases eb : b = D2
        · rw [eb, d2] at e
          cases e
        · rw [upd_ne eb]
          exact (s'.trans (same_upd nq)) b u e
      · rintro H2 ⟨s2, o2⟩
        have o1' : Ones H2 D1 23 := by
          obtain ⟨qs, a1, a2, a3⟩ := o1
          exact ⟨qs, s2 _ _ a1, a2, fun j q e => s2 _ _ (a3 j q e)⟩
        refine ⟨ones, ones, o1'.data, o2.data, ones_shaped, ones_shaped, _, rfl, ?_⟩
        rw [ones_eqv]
        refine iteF ?_
        have s12 : Same H H2 := s1.trans s2
        refine ⟨_, rfl, p, as, v, rfl, s12 _ _ hp, er.same s12, fun q H3 s3 nq hq3 => ⟨q, rfl, ⟨_, SqL.of hq3⟩, fun D3 d3 => ?_⟩⟩
        have s13 : Same H H3 := s12.trans s3
        refine lc_list (K := K) (a := q) (xs := List.replicate 23 v) (fun i H' => Same H3 H' ∧ H' D3 = some (.lst [])) ⟨same_upd d3, upd_same⟩ (fun i H' _ z => SqL.of (z.1 _ _ hq3)) ?_ ?_
        · rintro i y H' hy ⟨s', hD⟩
          obtain rfl : y = v := by
            have := List.mem_of_getElem? hy
            exact (List.mem_replicate.mp this).2
          obtain ⟨d, e1, e2, e3, e4⟩ := sh.same (s13.trans s')
          refine ⟨rfl, _, rfl, y, d, rfl, e1, e2, e3, e4, _, rfl, y, d, rfl, e1, e2, e3, e4, rfl, _, rfl, ?_⟩
          rw [decide_eq_true rfl]
          refine iteF ⟨s', hD⟩
        · rintro H4 ⟨s4, hD⟩
          refine ⟨Nat.zero_le _, fun l nl => ?_⟩
          refine ⟨.list [], .list [], .lst (SqL.of ?_) .nil, .lst (SqL.of upd_same) .nil, by decide +kernel, by decide +kernel, ?_⟩
          · rw [upd_ne (ne_of_none hD nl)]
            exact hD
          · exact k _ ((s13.trans s4).trans (same_upd nl))
end
end K00
end
section
/-! How long a shown text is at most. -/
namespace L2.Xv
open PySem PySem.Spec PyProof.Rows
mutual
def wt : PyData → Nat
  | .none => 4
  | .bool _ => 5
  | .int _ => 1921
  | .str x => (reprText x).length
  | .list xs => 2 + wtAll xs
  | .tuple xs => 3 + wtAll xs
  | .dict kvs => 2 + wtKv kvs
def wtAll : List PyData → Nat
  | [] => 0
  | x :: xs => wt x + 2 + wtAll xs
def wtKv : List (PyData × PyData) → Nat
  | [] => 0
  | (k, v) :: r => wt k + wt v + 4 + wtKv r
end
theorem textFrom_le : ∀ (ts : List Str) (k : Nat) (acc : Str), (textFrom k acc ts).length ≤ acc.length + piled ts
  | [], k, acc => by
    show acc.length ≤ _
    omega
  | t :: r, k, acc => by
    have h := textFrom_le r (k + 1) (acc ++ (if k > 0 then ", " else "" : String) ++ t)
    have e : (acc ++ (if k > 0 then ", " else "" : String) ++ t).length ≤ acc.length + 2 + t.length := by
      rw [strLen_append, strLen_append]
      split
      · exact Nat.le_refl _
      · show acc.length + 0 + t.length ≤ _
        omega
    show (textFrom (k + 1) _ r).length ≤ _
    have p : piled (t :: r) = t.length + 2 + piled r := by simp [piled, Nat.add_comm, Nat.add_left_comm]
    omega
theorem join_le (ts : List Str) : (Str.join ", " ts).length ≤ piled ts := by
  by_cases h : ts = []
  · subst h
    exact Nat.zero_le _
  · have := join_length_add ts h
    omega
mutual
theorem shown_le : ∀ d : PyData, d.showable = true → d.shown.length ≤ wt d
  | .none, _ => Nat.le_refl 4
  | .bool b, _ => by cases b <;> decide
  | .int i, h => int_text_len_1921 (of_decide_eq_true h)
  | .str x, _ => Nat.le_refl _
  | .list xs, h => by
    have h1 := all_le xs h
    have h2 := textFrom_le (PyData.shownAll xs) 0 "["
    show (textFrom 0 "[" (PyData.shownAll xs) ++ ("]" : Str)).length ≤ _
    rw [strLen_append]
    have e1 : (("[" : String) : Str).length = 1 := rfl
    have e2 : (("]" : String) : Str).length = 1 := rfl
    show _ ≤ 2 + wtAll xs
    rw [e1] at h2
    rw [e2]
    omega
  | .tuple xs, h => by
    have h1 := all_le xs h
    have h2 := join_le (PyData.shownAll xs)
    show (("(" : Str) ++ Str.join ", " (PyData.shownAll xs) ++ (if (PyData.shownAll xs).length == 1 then ",)" else ")" : String)).length ≤ 3 + wtAll xs
    rw [strLen_append, strLen_append]
    have e1 : (("(" : String) : Str).length = 1 := rfl
    rw [e1]
    split
    · have e2 : ((",)" : String) : Str).length = 2 := rfl
      rw [e2]
      omega
    · have e2 : ((")" : String) : Str).length = 1 := rfl
      rw [e2]
      omega
  | .dict kvs, h => by
    have h1 := kv_le kvs h
    have h2 := join_le (PyData.shownKv kvs)
    show (("{" : Str) ++ Str.join ", " (PyData.shownKv kvs) ++ ("}" : Str)).length ≤ 2 + wtKv kvs
    rw [strLen_append, strLen_append]
    have e1 : (("{" : String) : Str).length = 1 := rfl
    have e2 : (("}" : String) : Str).length = 1 := rfl
    rw [e1, e2]
    omega
theorem all_le : ∀ xs : List PyData, PyData.showableAll xs = true → piled (PyData.shownAll xs) ≤ wtAll xs
  | [], _ => Nat.le_refl _
  | x :: xs, h => by
    have h' : x.showable = true ∧ PyData.showableAll xs = true := Bool.and_eq_true_iff.mp h
    have h1 := shown_le x h'.1
    have h2 := all_le xs h'.2
    have p : piled (PyData.shownAll (x :: xs)) = x.shown.length + 2 + piled (PyData.shownAll xs) := by simp [PyData.shownAll, piled, Nat.add_comm, Nat.add_left_comm]
    rw [p]
    show _ ≤ wt x + 2 + wtAll xs
    omega
theorem kv_le : ∀ kvs : List (PyData × PyData), PyData.showableKv kvs = true → piled (PyData.shownKv kvs) ≤ wtKv kvs
  | [], _ => Nat.le_refl _
  | (k, v) :: r, h => by
    have h' : (k.showable && v.showable) = true ∧ PyData.showableKv r = true := Bool.and_eq_true_iff.mp h
    have h'' : k.showable = true ∧ v.showable = true := Bool.and_eq_true_iff.mp h'.1
    have h1 := shown_le k h''.1
    have h2 := shown_le v h''.2
    have h3 := kv_le r h'.2
    have p : piled (PyData.shownKv ((k, v) :: r)) = (k.shown ++ ": " ++ v.shown).length + 2 + piled (PyData.shownKv r) := by simp [PyData.shownKv, piled, Nat.add_comm, Nat.add_left_comm]
    rw [p, strLen_append, strLen_append]
    have e1 : ((": " : String) : Str).length = 2 := rfl
    rw [e1]
    show _ ≤ wt k + wt v + 4 + wtKv r
    omega
end
end L2.Xv
end
section
namespace K00
open PySem PySem.Spec PyProof.Rows L2 L2.Xv He
/-- where the law's values stand -/
structure Ad where
  n : Int
  t1 : Addr
  l1 : Addr
  d1 : Addr
  l2 : Addr
  m1 : Addr
  m2 : Addr
  t2 : Addr
  t0 : Addr
def Ad.vals (A : Ad) : List V := [.int A.n, .int (0 - A.n), .non, .bl true, .str "mill", .str "", .ref A.t1, .ref A.l1, .ref A.d1, .ref A.l2, .ref A.t2, .int (10 ^ Int.toNat 60)]
def kA : Key := .inr "a"
def kB : Key := .inr "b"
/-- what stands there behind i turns -/
structure Ob (A : Ad) (i : Nat) (H : Hp) : Prop where
  n0 : 0 ≤ A.n
  n1 : A.n < 1000000000
  t1 : H A.t1 = some (.tup [.int A.n, .int 1])
  l1 : H A.l1 = some (.lst (if 7 < i then [.int A.n, .str "more"] else [.int A.n]))
  d1 : H A.d1 = some (.dK (if 8 < i then [(kA, .int A.n), (kB, .str "more")] else [(kA, .int A.n)]))
  l2 : H A.l2 = some (.lst (if 9 < i then [.ref A.m1, .ref A.m2, .str "more"] else [.ref A.m1, .ref A.m2]))
  m1 : H A.m1 = some (.lst [.int A.n])
  m2 : H A.m2 = some (.lst [])
  t2 : H A.t2 = some (.tup [.ref A.t0, .str "a"])
  t0 : H A.t0 = some (.tup [])
theorem Ob.same {A : Ad} {i : Nat} {H H' : Hp} (o : Ob A i H) (s : Same H H') : Ob A i H' :=
  ⟨o.n0, o.n1, s _ _ o.t1, s _ _ o.l1, s _ _ o.d1, s _ _ o.l2, s _ _ o.m1, s _ _ o.m2, s _ _ o.t2, s _ _ o.t0⟩
theorem shows_of {K : PySem.W.Frag} {H : Hp} {v : V} (d : PyData) (h : Sd K H v d) (hs : d.showable = true) (hw : wt d ≤ 16777216) (hd : d.depth ≤ 60) : Shows K H v :=
  ⟨d, h, hs, Nat.le_trans (shown_le d hs) (by rw [sizeLine_eq]; exact hw), hd⟩
theorem log_n {n : Int} (h0 : 0 ≤ n) (h1 : n < 1000000000) : n.natAbs.log2 < 1920 := by
  by_cases z : n.natAbs = 0
  · rw [z]
    decide
  · exact Nat.lt_of_lt_of_le ((Nat.log2_lt z).mpr (show n.natAbs < 2 ^ 30 by omega)) (by decide)
theorem log_m {n : Int} (h0 : 0 ≤ n) (h1 : n < 1000000000) : (0 - n).natAbs.log2 < 1920 := by
  by_cases z : (0 - n).natAbs = 0
  · rw [z]
    decide
  · exact Nat.lt_of_lt_of_le ((Nat.log2_lt z).mpr (show (0 - n).natAbs < 2 ^ 30 by omega)) (by decide)
theorem sh_int {n : Int} (h : n.natAbs.log2 < 1920) : PyData.showable (.int n) = true := decide_eq_true h
/-- each value is shown, whatever turn it is -/
theorem Ob.shows {K : PySem.W.Frag} {A : Ad} {i j : Nat} {H : Hp} {v : V} (o : Ob A i H) (h : A.vals[j]? = some v) : Shows K H v := by
  have en := sh_int (log_n o.n0 o.n1)
  have wM : wt (.str "more") = 6 := by decide +kernel
  have wA : wt (.str "a") = 3 := by decide +kernel
  have wB : wt (.str "b") = 3 := by decide +kernel
  have em := sh_int (log_m o.n0 o.n1)
  have hj : j < 12 := (List.getElem?_eq_some_iff.mp h).1
  match j, hj with
  | 0, _ =>
    obtain rfl : V.int A.n = v := Option.some.inj h
    exact shows_of _ (.int _) en (Nat.le_of_ble_eq_true rfl) (Nat.le_of_ble_eq_true rfl)
  | 1, _ =>
    obtain rfl : V.int (0 - A.n) = v := Option.some.inj h
    exact shows_of _ (.int _) em (Nat.le_of_ble_eq_true rfl) (Nat.le_of_ble_eq_true rfl)
  | 2, _ =>
    obtain rfl : V.non = v := Option.some.inj h
    exact shows_of _ .non rfl (Nat.le_of_ble_eq_true rfl) (Nat.le_of_ble_eq_true rfl)
  | 3, _ =>
    obtain rfl : V.bl true = v := Option.some.inj h
    exact shows_of _ (.bl _) rfl (Nat.le_of_ble_eq_true rfl) (Nat.le_of_ble_eq_true rfl)
  | 4, _ =>
    obtain rfl : V.str "mill" = v := Option.some.inj h
    exact shows_of _ (.str _) rfl (by decide +kernel) (Nat.le_of_ble_eq_true rfl)
  | 5, _ =>
    obtain rfl : V.str "" = v := Option.some.inj h
    exact shows_of _ (.str _) rfl (Nat.le_of_ble_eq_true rfl) (Nat.le_of_ble_eq_true rfl)
  | 6, _ =>
    obtain rfl : V.ref A.t1 = v := Option.some.inj h
    refine shows_of (.tuple [.int A.n, .int 1]) (.tup (.inl (.inl o.t1)) (.cons (.int _) (.cons (.int _) .nil))) ?_ (Nat.le_of_ble_eq_true rfl) (Nat.le_of_ble_eq_true rfl)
    simp only [PyData.showable, PyData.showableAll, Bool.and_true, Bool.and_eq_true] at en ⊢
    exact ⟨en, by decide⟩
  | 7, _ =>
    obtain rfl : V.ref A.l1 = v := Option.some.inj h
    have e := o.l1
    split at e
    · refine shows_of (.list [.int A.n, .str "more"]) (.lst (SqL.of e) (.cons (.int _) (.cons (.str _) .nil))) ?_ ?_ ?_
      · simp only [PyData.showable, PyData.showableAll, Bool.and_true, Bool.and_eq_true] at en ⊢
        exact en
      · show 2 + (1921 + 2 + (wt (.str "more") + 2 + 0)) ≤ _
        simp only [wM, wA, wB]
        decide
      · exact (Nat.le_of_ble_eq_true rfl)
    · refine shows_of (.list [.int A.n]) (.lst (SqL.of e) (.cons (.int _) .nil)) ?_ (Nat.le_of_ble_eq_true rfl) (Nat.le_of_ble_eq_true rfl)
      simp only [PyData.showable, PyData.showableAll, Bool.and_true, Bool.and_eq_true] at en ⊢
      exact en
  | 8, _ =>
    obtain rfl : V.ref A.d1 = v := Option.some.inj h
    have e := o.d1
    split at e
    · refine shows_of (.dict [(.str "a", .int A.n), (.str "b", .str "more")]) (.dct e (.cons (.int _) (.cons (.str _) .nil))) ?_ ?_ ?_
      · simp only [PyData.showable, PyData.showableKv, Bool.and_true, Bool.and_eq_true, Bool.true_and] at en ⊢
        exact en
      · show 2 + (wt (.str "a") + 1921 + 4 + (wt (.str "b") + wt (.str "more") + 4 + 0)) ≤ _
        simp only [wM, wA, wB]
        decide
      · exact (Nat.le_of_ble_eq_true rfl)
    · refine shows_of (.dict [(.str "a", .int A.n)]) (.dct e (.cons (.int _) .nil)) ?_ ?_ ?_
      · simp only [PyData.showable, PyData.showableKv, Bool.and_true, Bool.and_eq_true, Bool.true_and] at en ⊢
        exact en
      · show 2 + (wt (.str "a") + 1921 + 4 + 0) ≤ _
        simp only [wM, wA, wB]
        decide
      · exact (Nat.le_of_ble_eq_true rfl)
  | 9, _ =>
    obtain rfl : V.ref A.l2 = v := Option.some.inj h
    have e := o.l2
    have s1 : Sd K H (.ref A.m1) (.list [.int A.n]) := .lst (SqL.of o.m1) (.cons (.int _) .nil)
    have s2 : Sd K H (.ref A.m2) (.list []) := .lst (SqL.of o.m2) .nil
    split at e
    · refine shows_of (.list [.list [.int A.n], .list [], .str "more"]) (.lst (SqL.of e) (.cons s1 (.cons s2 (.cons (.str _) .nil)))) ?_ ?_ ?_
      · simp only [PyData.showable, PyData.showableAll, Bool.and_true, Bool.and_eq_true] at en ⊢
        exact en
      · show 2 + ((2 + (1921 + 2 + 0)) + 2 + ((2 + 0) + 2 + (wt (.str "more") + 2 + 0))) ≤ _
        simp only [wM, wA, wB]
        decide
      · exact (Nat.le_of_ble_eq_true rfl)
    · refine shows_of (.list [.list [.int A.n], .list []]) (.lst (SqL.of e) (.cons s1 (.cons s2 .nil))) ?_ (Nat.le_of_ble_eq_true rfl) (Nat.le_of_ble_eq_true rfl)
      simp only [PyData.showable, PyData.showableAll, Bool.and_true, Bool.and_eq_true] at en ⊢
      exact en
  | 10, _ =>
    obtain rfl : V.ref A.t2 = v := Option.some.inj h
    exact shows_of (.tuple [.tuple [], .str "a"]) (.tup (.inl (.inl o.t2)) (.cons (.tup (.inl (.inl o.t0)) .nil) (.cons (.str _) .nil))) rfl (by decide +kernel) (Nat.le_of_ble_eq_true rfl)
  | 11, _ =>
    obtain rfl : V.int (10 ^ Int.toNat 60) = v := Option.some.inj h
    exact shows_of _ (.int _) (by decide +kernel) (Nat.le_of_ble_eq_true rfl) (Nat.le_of_ble_eq_true rfl)
/-- the list of what was made at the first i turns -/
def Early (K : PySem.W.Frag) (A : Ad) (e : Addr) (i : Nat) (H : Hp) : Prop := ∃ ts : List Addr, H e = some (.lst (ts.map V.ref)) ∧ ts.length = i ∧
  ∀ (j : Nat) (t : Addr), ts[j]? = some t → ∃ (p : Addr) (as : List Addr) (v : V), A.vals[j]? = some v ∧ H t = some (.tup [.ref p, v]) ∧ H p = some (.lst (as.map V.ref)) ∧ Errs K H v as ecs
/-- an object that is neither a tuple, an error nor a list of 23 -/
def Odd (H : Hp) (x : Addr) : Prop := (∃ ys, H x = some (.lst ys) ∧ ys.length ≠ 23) ∨ ∃ kv, H x = some (.dK kv)
theorem Odd.ne_err {H : Hp} {x a C : Addr} {f : Str} {v : V} {d : Addr} (o : Odd H x) (h1 : H a = some (exo a C (some d))) (h2 : H d = some (exd d [(f, v)])) : a ≠ x ∧ d ≠ x := by
  constructor
  · rintro rfl
    rcases o with ⟨ys, h, _⟩ | ⟨kv, h⟩
    · rw [h1] at h
      cases (show HO.ext _ = HO.lst ys from Option.some.inj h)
    · rw [h1] at h
      cases (show HO.ext _ = HO.dK kv from Option.some.inj h)
  · rintro rfl
    rcases o with ⟨ys, h, _⟩ | ⟨kv, h⟩
    · rw [h2] at h
      cases (show HO.ext _ = HO.lst ys from Option.some.inj h)
    · rw [h2] at h
      cases (show HO.ext _ = HO.dK kv from Option.some.inj h)
theorem Errs.keep {K : PySem.W.Frag} {H : Hp} {v : V} {as : List Addr} {cs : List (Str × Str)} {x : Addr} {o : HO} (e : Errs K H v as cs) (od : Odd H x) : Errs K (upd H x o) v as cs :=
  Paired.mapP e fun a c ⟨d, h1, h2⟩ => ⟨d, by rw [upd_ne (od.ne_err h1 h2).1]; exact h1, by rw [upd_ne (od.ne_err h1 h2).2]; exact h2⟩
theorem Odd.ne_tup {H : Hp} {x t : Addr} {ys : List V} (o : Odd H x) (h : H t = some (.tup ys)) : t ≠ x := by
  rintro rfl
  rcases o with ⟨zs, h', _⟩ | ⟨kv, h'⟩ <;> rw [h] at h' <;> cases h'
theorem Odd.ne_23 {H : Hp} {x p : Addr} {ys : List V} (o : Odd H x) (h : H p = some (.lst ys)) (hl : ys.length = 23) : p ≠ x := by
  rintro rfl
  rcases o with ⟨zs, h', n⟩ | ⟨kv, h'⟩
  · rw [h] at h'
    have : HO.lst ys = HO.lst zs := Option.some.inj h'
    injection this with q
    rw [← q] at n
    exact n hl
  · rw [h] at h'
    cases h'
theorem Early.keep {K : PySem.W.Frag} {A : Ad} {e x : Addr} {i : Nat} {H : Hp} {o : HO} (h : Early K A e i H) (od : Odd H x) (ne : e ≠ x) : Early K A e i (upd H x o) := by
  obtain ⟨ts, h1, h2, h3⟩ := h
  refine ⟨ts, by rw [upd_ne ne]; exact h1, h2, fun j t ht => ?_⟩
  obtain ⟨p, as, v, a1, a2, a3, a4⟩ := h3 j t ht
  exact ⟨p, as, v, a1, by rw [upd_ne (od.ne_tup a2)]; exact a2, by rw [upd_ne (od.ne_23 a3 (by rw [List.length_map]; exact a4.len))]; exact a3, a4.keep od⟩
theorem Early.same {K : PySem.W.Frag} {A : Ad} {e : Addr} {i : Nat} {H H' : Hp} (h : Early K A e i H) (s : Same H H') : Early K A e i H' := by
  obtain ⟨ts, h1, h2, h3⟩ := h
  refine ⟨ts, s _ _ h1, h2, fun j t ht => ?_⟩
  obtain ⟨p, as, v, a1, a2, a3, a4⟩ := h3 j t ht
  exact ⟨p, as, v, a1, s _ _ a2, s _ _ a3, a4.same s⟩
end K00
end
section
namespace K00
open PySem PySem.Spec PyProof.Rows L2 L2.Xv He
/-- the lists that the law holds stand apart -/
structure Apart (A : Ad) (e V0 : Addr) : Prop where
  e1 : A.l1 ≠ e
  e2 : A.l2 ≠ e
  e3 : A.m1 ≠ e
  e4 : A.m2 ≠ e
  e5 : V0 ≠ e
  v1 : V0 ≠ A.l1
  v2 : V0 ≠ A.l2
  a1 : A.l2 ≠ A.l1
  a2 : A.m1 ≠ A.l1
  a3 : A.m2 ≠ A.l1
  a4 : A.m1 ≠ A.l2
  a5 : A.m2 ≠ A.l2
theorem ne_tl {H : Hp} {t x : Addr} {xs ys : List V} (h : H t = some (.tup xs)) (h' : H x = some (.lst ys)) : t ≠ x := by
  rintro rfl
  rw [h] at h'
  cases h'
theorem ne_dl {H : Hp} {t x : Addr} {xs : List (Key × V)} {ys : List V} (h : H t = some (.dK xs)) (h' : H x = some (.lst ys)) : t ≠ x := by
  rintro rfl
  rw [h] at h'
  cases h'
theorem ne_ld {H : Hp} {t x : Addr} {xs : List (Key × V)} {ys : List V} (h : H t = some (.lst ys)) (h' : H x = some (.dK xs)) : t ≠ x := by
  rintro rfl
  rw [h] at h'
  cases h'
theorem ne_td {H : Hp} {t x : Addr} {xs : List (Key × V)} {ys : List V} (h : H t = some (.tup ys)) (h' : H x = some (.dK xs)) : t ≠ x := by
  rintro rfl
  rw [h] at h'
  cases h'
theorem Ob.keepE {A : Ad} {e V0 : Addr} {i : Nat} {H : Hp} {ys : List V} {o : HO} (b : Ob A i H) (ap : Apart A e V0) (h : H e = some (.lst ys)) : Ob A i (upd H e o) where
  n0 := b.n0
  n1 := b.n1
  t1 := by rw [upd_ne (ne_tl b.t1 h)]; exact b.t1
  l1 := by rw [upd_ne ap.e1]; exact b.l1
  d1 := by rw [upd_ne (ne_dl b.d1 h)]; exact b.d1
  l2 := by rw [upd_ne ap.e2]; exact b.l2
  m1 := by rw [upd_ne ap.e3]; exact b.m1
  m2 := by rw [upd_ne ap.e4]; exact b.m2
  t2 := by rw [upd_ne (ne_tl b.t2 h)]; exact b.t2
  t0 := by rw [upd_ne (ne_tl b.t0 h)]; exact b.t0
theorem Ob.step {A : Ad} {i : Nat} {H : Hp} (b : Ob A i H) (h7 : i ≠ 7) (h8 : i ≠ 8) (h9 : i ≠ 9) : Ob A (i + 1) H where
  n0 := b.n0
  n1 := b.n1
  t1 := b.t1
  l1 := by rw [b.l1]; congr 2; by_cases q : 7 < i <;> simp only [q, if_pos, if_neg, if_true, if_false] <;> (first | rw [if_pos (by omega)] | rw [if_neg (by omega)])
  d1 := by rw [b.d1]; congr 2; by_cases q : 8 < i <;> simp only [q, if_pos, if_neg, if_true, if_false] <;> (first | rw [if_pos (by omega)] | rw [if_neg (by omega)])
  l2 := by rw [b.l2]; congr 2; by_cases q : 9 < i <;> simp only [q, if_pos, if_neg, if_true, if_false] <;> (first | rw [if_pos (by omega)] | rw [if_neg (by omega)])
  m1 := b.m1
  m2 := b.m2
  t2 := b.t2
  t0 := b.t0
theorem Ob.step7 {A : Ad} {e V0 : Addr} {H : Hp} (b : Ob A 7 H) (ap : Apart A e V0) : Ob A 8 (upd H A.l1 (.lst [.int A.n, .str "more"])) where
  n0 := b.n0
  n1 := b.n1
  t1 := by rw [upd_ne (ne_tl b.t1 b.l1)]; exact b.t1
  l1 := upd_same
  d1 := by rw [upd_ne (ne_dl b.d1 b.l1)]; exact b.d1
  l2 := by rw [upd_ne ap.a1]; exact b.l2
  m1 := by rw [upd_ne ap.a2]; exact b.m1
  m2 := by rw [upd_ne ap.a3]; exact b.m2
  t2 := by rw [upd_ne (ne_tl b.t2 b.l1)]; exact b.t2
  t0 := by rw [upd_ne (ne_tl b.t0 b.l1)]; exact b.t0
theorem Ob.step8 {A : Ad} {H : Hp} (b : Ob A 8 H) : Ob A 9 (upd H A.d1 (.dK [(kA, .int A.n), (kB, .str "more")])) where
  n0 := b.n0
  n1 := b.n1
  t1 := by rw [upd_ne (ne_td b.t1 b.d1)]; exact b.t1
  l1 := by rw [upd_ne (ne_ld b.l1 b.d1)]; exact b.l1
  d1 := upd_same
  l2 := by rw [upd_ne (ne_ld b.l2 b.d1)]; exact b.l2
  m1 := by rw [upd_ne (ne_ld b.m1 b.d1)]; exact b.m1
  m2 := by rw [upd_ne (ne_ld b.m2 b.d1)]; exact b.m2
  t2 := by rw [upd_ne (ne_td b.t2 b.d1)]; exact b.t2
  t0 := by rw [upd_ne (ne_td b.t0 b.d1)]; exact b.t0
theorem Ob.step9 {A : Ad} {e V0 : Addr} {H : Hp} (b : Ob A 9 H) (ap : Apart A e V0) : Ob A 10 (upd H A.l2 (.lst [.ref A.m1, .ref A.m2, .str "more"])) where
  n0 := b.n0
  n1 := b.n1
  t1 := by rw [upd_ne (ne_tl b.t1 b.l2)]; exact b.t1
  l1 := by rw [upd_ne ap.a1.symm]; exact b.l1
  d1 := by rw [upd_ne (ne_dl b.d1 b.l2)]; exact b.d1
  l2 := upd_same
  m1 := by rw [upd_ne ap.a4]; exact b.m1
  m2 := by rw [upd_ne ap.a5]; exact b.m2
  t2 := by rw [upd_ne (ne_tl b.t2 b.l2)]; exact b.t2
  t0 := by rw [upd_ne (ne_tl b.t0 b.l2)]; exact b.t0
theorem Early.more {K : PySem.W.Frag} {A : Ad} {e t p : Addr} {as ts : List Addr} {v : V} {i : Nat} {H : Hp} (h1 : H e = some (.lst (ts.map V.ref))) (h2 : ts.length = i) (hi : i < 12)
    (h3 : ∀ (j : Nat) (t : Addr), ts[j]? = some t → ∃ (p : Addr) (as : List Addr) (v : V), A.vals[j]? = some v ∧ H t = some (.tup [.ref p, v]) ∧ H p = some (.lst (as.map V.ref)) ∧ Errs K H v as ecs)
    (hv : A.vals[i]? = some v) (ht : H t = some (.tup [.ref p, v])) (hp : H p = some (.lst (as.map V.ref))) (er : Errs K H v as ecs) : Early K A e (i + 1) (upd H e (.lst (ts.map V.ref ++ [.ref t]))) := by
  have od : Odd H e := .inl ⟨_, h1, by rw [List.length_map, h2]; omega⟩
  have lift : ∀ {t p : Addr} {as : List Addr} {v : V}, H t = some (.tup [.ref p, v]) → H p = some (.lst (as.map V.ref)) → Errs K H v as ecs → ∀ o, upd H e o t = some (.tup [.ref p, v]) ∧ upd H e o p = some (.lst (as.map V.ref)) ∧ Errs K (upd H e o) v as ecs := fun {t p as v} a b c o =>
    ⟨by rw [upd_ne (od.ne_tup a)]; exact a, by rw [upd_ne (od.ne_23 b (by rw [List.length_map]; exact c.len))]; exact b, c.keep od⟩
  refine ⟨ts ++ [t], by rw [upd_same, List.map_append]; rfl, by rw [List.length_append, h2]; rfl, fun j t' e' => ?_⟩
  rw [List.getElem?_append] at e'
  split at e'
  · obtain ⟨p', as', v', a1, a2, a3, a4⟩ := h3 j t' e'
    obtain ⟨b1, b2, b3⟩ := lift a2 a3 a4 (.lst (ts.map V.ref ++ [.ref t]))
    exact ⟨p', as', v', a1, b1, b2, b3⟩
  · rename_i h
    have ej : j = ts.length := by
      have := (List.getElem?_eq_some_iff.mp e').1
      rw [List.length_singleton] at this
      omega
    rw [ej, Nat.sub_self] at e'
    obtain rfl : t = t' := Option.some.inj e'
    obtain ⟨b1, b2, b3⟩ := lift ht hp er (.lst (ts.map V.ref ++ [.ref t]))
    exact ⟨p, as, v, by rw [ej, h2]; exact hv, b1, b2, b3⟩
/-- what isinstance tells of each value -/
theorem kind_of {K : PySem.W.Frag} {A : Ad} {i : Nat} {H : Hp} {v : V} (o : Ob A i H) (h : A.vals[i]? = some v) (h7 : i ≠ 7) (h8 : i ≠ 8) (h9 : i ≠ 9) : ∃ T : String, TyX K H v (.type T) ∧ L2.kitB T "list" = some false ∧ L2.kitB T "dict" = some false := by
  have hj : i < 12 := (List.getElem?_eq_some_iff.mp h).1
  match i, hj with
  | 0, _ | 1, _ | 11, _ =>
    cases Option.some.inj h
    exact ⟨"int", .base (.int _), by decide +kernel, by decide +kernel⟩
  | 2, _ =>
    cases Option.some.inj h
    exact ⟨"NoneType", .base .non, by decide +kernel, by decide +kernel⟩
  | 3, _ =>
    cases Option.some.inj h
    exact ⟨"bool", .base (.bl _), by decide +kernel, by decide +kernel⟩
  | 4, _ | 5, _ =>
    cases Option.some.inj h
    exact ⟨"str", .base (.str _), by decide +kernel, by decide +kernel⟩
  | 6, _ =>
    cases Option.some.inj h
    exact ⟨"tuple", .base (.tup o.t1), by decide +kernel, by decide +kernel⟩
  | 10, _ =>
    cases Option.some.inj h
    exact ⟨"tuple", .base (.tup o.t2), by decide +kernel, by decide +kernel⟩
end K00
end
section
namespace K00
open PySem PySem.Spec PyProof.Rows L2 L2.Xv He
def spLaw (K : PySem.W.Frag) : Sp := fun vs H Q _ => ∃ (a : Addr) (ns : List Int), vs = [.ref a] ∧ SqL K H a (ns.map V.int) ∧ ∀ H', Q (.bl true) H'
abbrev nL : List Str := ["_law_script", "_law_generator_here", "_law_number_here", "_law_early", "_law_values", "_law_given", "_law_plain_here", "_law_named_here", "_law_errors"]
theorem scLaw : FnScope nL ["_law_script"] (defScope (top 37)) := ⟨rfl, rfl, rfl, by decide +kernel, rfl, by decide +kernel, by decide +kernel⟩
structure Fds (K : PySem.W.Frag) (mg : Str → Option Value) : Prop where
  hash : ∃ f fd, FunT K 27 "_law_hash" f fd ∧ mg "_law_hash" = some (.ref f)
  rand : ∃ f fd, FunT K 28 "_law_random" f fd ∧ mg "_law_random" = some (.ref f)
  cell : ∃ f fd, FunT K 29 "_law_cell" f fd ∧ mg "_law_cell" = some (.ref f)
  gene : ∃ f fd, FunT K 30 "_law_generator" f fd ∧ mg "_law_generator" = some (.ref f)
  kinds : ∃ f fd, FunT K 31 "_law_kinds" f fd ∧ mg "_law_kinds" = some (.ref f)
  plain : ∃ f fd, FunT K 32 "_law_plain" f fd ∧ mg "_law_plain" = some (.ref f)
  named : ∃ f fd, FunT K 33 "_law_named" f fd ∧ mg "_law_named" = some (.ref f)
  bare : ∃ f fd, FunT K 34 "_law_bare" f fd ∧ mg "_law_bare" = some (.ref f)
  fields : ∃ f fd, FunT K 35 "_law_fields" f fd ∧ mg "_law_fields" = some (.ref f)
  right : ∃ f fd, FunT K 36 "_law_right" f fd ∧ mg "_law_right" = some (.ref f)
theorem upd_at {H : Hp} {p : Addr} {o : HO} (_ : H p = none) : upd H p o p = some o := upd_same
section
variable {P : Program} {w : World} {K : PySem.W.Frag} {mg : Str → Option Value} {base : Heap} {f : Addr} {fd : FuncData}
theorem okLaw (F : FunT K 37 "law" f fd) (D : Fds K mg) (T : Tx P w K mg base) : FnQ P w K mg base 4 f fd ["_law_script"] (spLaw K) := by
  obtain ⟨fH, dH, FH, gH⟩ := D.hash
  obtain ⟨fR, dR, FR, gR⟩ := D.rand
  obtain ⟨fC, dC, FC, gC⟩ := D.cell
  obtain ⟨fG, dG, FG, gG⟩ := D.gene
  obtain ⟨fK, dK, FK, gK⟩ := D.kinds
  obtain ⟨fP, dP, FP, gP⟩ := D.plain
  obtain ⟨fN, dN, FN, gN⟩ := D.named
  obtain ⟨fB, dB, FB, gB⟩ := D.bare
  obtain ⟨fF, dF, FF, gF⟩ := D.fields
  obtain ⟨fT, dT, FT, gT⟩ := D.right
  have free : ∀ x ∈ frees, mg x = none := T.free
  have GG : FnOk P w K mg base CX0 2 fG dG ["_law_script", "_law_index"] (spGene K) := okGene FG FC gC (free _ (by decide +kernel)) (free _ (by decide +kernel)) (free _ (by decide +kernel))
  have bG : Binds K dG ["_law_script", "_law_index"] [] := FG.bindsN fun _ _ _ _ _ _ us hl => match us, hl with | [_, _], _ => rfl
  have GR : FnOk P w K mg base CX0 2 fR dR ["_law_generator_here", "_law_bound"] spRand := okRand FR FH gH (free _ (by decide +kernel)) (free _ (by decide +kernel))
  have bR : Binds K dR ["_law_generator_here", "_law_bound"] [] := FR.bindsN fun _ _ _ _ _ _ us hl => match us, hl with | [_, _], _ => rfl
  have GP : FnOk P w K mg base CX0 3 fP dP ["_law_given"] (spPlain K) := okPlain FP T
  have bP : Binds K dP ["_law_given"] [] := FP.bindsN fun _ _ _ _ _ _ us hl => match us, hl with | [_], _ => rfl
  have GN : FnOk P w K mg base CX0 3 fN dN ["_law_given"] (spPlain K) := okNamed FN T
  have bN : Binds K dN ["_law_given"] [] := FN.bindsN fun _ _ _ _ _ _ us hl => match us, hl with | [_], _ => rfl
  have GB : FnOk P w K mg base CX0 3 fB dB [] (spBare K) := okBare FB T
  have bB : Binds K dB [] [] := FB.bindsN fun _ _ _ _ _ _ us hl => match us, hl with | [], _ => rfl
  have GK : FnOk P w K mg base CX0 1 fK dK ["_law_error"] (spKinds K) := okKinds FK T
  have bK : Binds K dK ["_law_error"] [] := FK.bindsN fun _ _ _ _ _ _ us hl => match us, hl with | [_], _ => rfl
  have GT : FnQ P w K mg base 2 fT dT ["_law_errors", "_law_given"] (spRight K) := okRight FT FK gK FF gF T
  have bT : Binds K dT ["_law_errors", "_law_given"] [] := FT.bindsN fun _ _ _ _ _ _ us hl => match us, hl with | [_, _], _ => rfl
  refine fnQ F scLaw (fun vs H Q E h => ?_) (fun cdv A0 outer s H vs Q E hq h => ?_)
  · obtain ⟨_, _, rfl, _⟩ := h
    rfl
  · obtain ⟨a, ns, rfl, hS, k⟩ := h
    have hr := hq.1
    have hr1 : Room 1 _ := hr.mono (by decide)
    have hr2 : Room 2 _ := hr.mono (by decide)
    have hq2 : Quiet 2 _ := hq.mono (by decide)
    have hu := hu_of hr
    refine ⟨_, PSs.nox (pss_cons (ps_set (i := 1) scLaw.nd rfl (Or.inl rfl) (pe_call GG hr2 rfl gG FG.kp bG .nil pass0 (pa_cons (pv 0) (pa_cons pe_int pa_nil))))
      (pss_cons (ps_par (i := 2) (j := 3) (by rfl) scLaw.nd rfl rfl (by decide) rfl rfl (pa_cons (pe_call GR hr2 rfl gR FR.kp bR .nil pass0 (pa_cons (pv 1) (pa_cons (pe_op op_pow pe_int pe_int) pa_nil))) (pa_cons (pe_lst pa_nil) pa_nil)) (by rfl))
      (pss_cons (ps_set (i := 4) scLaw.nd rfl (Or.inl rfl) (pe_lst (pa_cons (pv 2) (pa_cons (pe_op op_sub pe_int (pv 2)) (pa_cons pe_non (pa_cons pe_bl (pa_cons pe_str (pa_cons pe_str (pa_cons (pe_tup (pa_cons (pv 2) (pa_cons pe_int pa_nil))) (pa_cons (pe_lst (pa_cons (pv 2) pa_nil)) pa_nil))))))))))
      (pss_cons (ps_set (i := 4) scLaw.nd rfl (Or.inl rfl) (pe_op op_cat (pv 4) (pe_lst (pa_cons (pe_disp (pps_cons pe_str (pv 2) pps_nil) (by rfl) (by rfl) (fun z => by cases z) (by decide)) (pa_cons (pe_lst (pa_cons (pe_lst (pa_cons (pv 2) pa_nil)) (pa_cons (pe_lst pa_nil) pa_nil))) pa_nil)))))
      (pss_cons (ps_set (i := 4) scLaw.nd rfl (Or.inl rfl) (pe_op op_cat (pv 4) (pe_lst (pa_cons (pe_tup (pa_cons (pe_tup pa_nil) (pa_cons pe_str pa_nil))) (pa_cons (pe_op op_pow pe_int pe_int) pa_nil)))))
      (pss_cons (ps_for PassesOwn.never rfl (pi_list (pv 4)) (pg_name (i := 5) scLaw.nd rfl (Or.inl rfl))
        (pss_cons (ps_par (i := 6) (j := 7) (by rfl) scLaw.nd rfl rfl (by decide) rfl rfl (pa_cons (pe_call GP hr rfl gP FP.kp bP .nil pass0 (pa_cons (pv 5) pa_nil)) (pa_cons (pe_call GN hr rfl gN FN.kp bN .nil pass0 (pa_cons (pv 5) pa_nil)) pa_nil)) (by rfl))
        (pss_cons (ps_if (PW.pt (pw_or (pt_not (pt_val (pe_callQ (E := E0) GT hq2 rfl gT FT.kp bT .nil (pa_cons (pv 6) (pa_cons (pv 5) pa_nil))))) (pw_or1 (pt_not (pt_val (pe_callQ (E := E0) GT hq2 rfl gT FT.kp bT .nil (pa_cons (pv 7) (pa_cons (pv 5) pa_nil)))))))) (pss_one (ps_ret pe_bl)) pss_nil)
        (pss_cons (ps_expr (pe_bm PySem.F.plainAttrs_list PySem.F.slot_list_append PySem.F.type_list_append mt_append (pv 3) (pa_cons (pe_tup (pa_cons (pv 6) (pa_cons (pv 5) pa_nil))) pa_nil)))
        (pss_cons (ps_if (pt_val (pe_callB call_isi rfl (free _ (by decide +kernel)) boot_isinstance (pa_cons (pv 5) (pa_cons (pe_bltn (v := .ty "list") rfl (free _ (by decide +kernel)) boot_list rfl) pa_nil))))
          (pss_one (ps_expr (pe_bm PySem.F.plainAttrs_list PySem.F.slot_list_append PySem.F.type_list_append mt_append (pv 5) (pa_cons pe_str pa_nil)))) pss_nil)
        (pss_one (ps_if (pt_val (pe_callB call_isi rfl (free _ (by decide +kernel)) boot_isinstance (pa_cons (pv 5) (pa_cons (pe_bltn (v := .ty "dict") rfl (free _ (by decide +kernel)) boot_dict rfl) pa_nil))))
          (pss_one (ps_dput hu (pv 5) pe_str pe_str rfl)) pss_nil)))))))
      (pss_cons (ps_if (pt_not (pt_val (pe_callQ (E := E0) GT hq2 rfl gT FT.kp bT .nil (pa_cons (pe_call0 GB hr rfl gB FB.kp bB .nil pass0) (pa_cons pe_non pa_nil))))) (pss_one (ps_ret pe_bl)) pss_nil)
      (pss_cons (ps_for PassesOwn.never rfl (pi_list (pv 3)) (pg_tup (by rfl) (pgs_cons (pg_name (i := 8) scLaw.nd rfl (Or.inl rfl)) (pgs_cons (pg_name (i := 5) scLaw.nd rfl (Or.inl rfl)) pgs_nil)))
        (pss_one (ps_if (pt_not (pt_val (pe_callQ (E := E0) GT hq2 rfl gT FT.kp bT .nil (pa_cons (pv 8) (pa_cons (pv 5) pa_nil))))) (pss_one (ps_ret pe_bl)) pss_nil)))
      (pss_one (ps_ret (pe_and (pe_cmpR (op_eqD hr.units) (pe_call GK hr1 rfl gK FK.kp bK .nil pass0 (pa_cons (pe_x00 PySem.F.excBase_ValueError (T.exc "NothingToUndo" (by decide +kernel)) (T.xc _ (by decide +kernel)).ox.kC rfl (T.glo _ (by decide +kernel))) pa_nil)) (pe_lst (pa_cons pe_int pa_nil)) (nomark _))
        (pe_one (pe_cmpR (op_eqD hr.units) (pe_call GK hr1 rfl gK FK.kp bK .nil pass0 (pa_cons (pe_x00 PySem.F.excBase_ValueError (T.exc "MillError" (by decide +kernel)) (T.xc _ (by decide +kernel)).ox.kC rfl (T.glo _ (by decide +kernel))) pa_nil)) (pe_lst pa_nil) (nomark _)))))))))))))), ?_⟩
    -- the generator, the number, the list of what is made
    refine ⟨_, rfl, a, ns, 0, rfl, hS, by decide, fun g H1 ng gen1 bt1 => ?_⟩
    have s1 : Same H H1 := fun b o e => by
      rw [bt1 b (ne_of_none e ng)]
      exact e
    refine ⟨_, rfl, _, _, rfl, rfl, ⟨by decide, by decide, by decide⟩, g, _, 64000, rfl, by decide, by decide, by decide, gen1, fun n H2 n0 n1 gen2 bt2 => ?_⟩
    have n1' : n < 1000000000 := n1
    refine ⟨Nat.zero_le _, fun e ne => ⟨_, _, rfl, ?_⟩⟩
    -- the values
    refine ⟨_, rfl, _, rfl, _, _, rfl, rfl, _, rfl, (by show 2 ≤ sizeLine; decide), fun t1 nt1 => ⟨_, rfl, (by show 1 ≤ sizeLine; decide), fun l1 nl1 => ⟨(by show 8 ≤ sizeLine; decide), fun q0 nq0 => ?_⟩⟩⟩
    refine ⟨_, rfl, fun d1 nd1 => ⟨_, rfl, upd_same, [(kA, .int n)], rfl, (by show 1 ≤ 15; decide), ?_⟩⟩
    have x3 := same_upd (o := .lst []) ne
    have x4 := same_upd (o := .tup [.int n, .int 1]) nt1
    have x5 := same_upd (o := .lst [.int n]) nl1
    have x6 := same_upd (o := .lst [.int n, .int (0 - n), .non, .bl true, .str "mill", .str "", .ref t1, .ref l1]) nq0
    have x7 := same_of (o := .dK (mergeK [] [(kA, .int n)])) (same_upd (o := .dK []) nd1) nd1
    refine ⟨_, rfl, (by show 1 ≤ sizeLine; decide), fun m1 nm1 => ⟨Nat.zero_le _, fun m2 nm2 => ⟨(by show 2 ≤ sizeLine; decide), fun l2 nl2 => ⟨(by show 2 ≤ sizeLine; decide), fun q1 nq1 => ?_⟩⟩⟩⟩
    have x8 := same_upd (o := .lst [.int n]) nm1
    have x9 := same_upd (o := .lst []) nm2
    have x10 := same_upd (o := .lst [.ref m1, .ref m2]) nl2
    have x11 := same_upd (o := .lst [.ref d1, .ref l2]) nq1
    refine ⟨q0, q1, _, _, rfl, rfl, (x7.trans (x8.trans (x9.trans (x10.trans x11)))) _ _ upd_same, upd_same, (by show 10 ≤ sizeLine; decide), fun q2 nq2 => ?_⟩
    have x12 := same_upd (o := .lst ([.int n, .int (0 - n), .non, .bl true, .str "mill", .str "", .ref t1, .ref l1] ++ [.ref d1, .ref l2])) nq2
    refine ⟨_, rfl, Nat.zero_le _, fun t0 nt0 => ⟨(by show 2 ≤ sizeLine; decide), fun t2 nt2 => ⟨_, _, rfl, rfl, ⟨by decide, by decide, by decide⟩, (by show 2 ≤ sizeLine; decide), fun q3 nq3 => ?_⟩⟩⟩
    have x13 := same_upd (o := .tup []) nt0
    have x14 := same_upd (o := .tup [.ref t0, .str "a"]) nt2
    have x15 := same_upd (o := .lst [.ref t2, .int (10 ^ Int.toNat 60)]) nq3
    refine ⟨q2, q3, _, _, rfl, rfl, (x13.trans (x14.trans x15)) _ _ upd_same, upd_same, (by show 12 ≤ sizeLine; decide), fun V0 nV0 => ?_⟩
    have x16 := same_upd (o := .lst (([.int n, .int (0 - n), .non, .bl true, .str "mill", .str "", .ref t1, .ref l1] ++ [.ref d1, .ref l2]) ++ [.ref t2, .int (10 ^ Int.toNat 60)])) nV0
    have y14 := x15.trans x16
    have y13 := x14.trans y14
    have y12 := x13.trans y13
    have y10 := x11.trans (x12.trans y12)
    have y9 := x10.trans y10
    have y8 := x9.trans y9
    have y7 := x8.trans y8
    have y5 := x6.trans (x7.trans y7)
    have y4 := x5.trans y5
    have y3 := x4.trans y4
    let A : Ad := ⟨n, t1, l1, d1, l2, m1, m2, t2, t0⟩
    have ob : Ob A 0 _ := ⟨n0, n1', y4 _ _ upd_same, y5 _ _ upd_same, y7 _ _ upd_same, y10 _ _ upd_same, y8 _ _ upd_same, y9 _ _ upd_same, y14 _ _ upd_same, y13 _ _ upd_same⟩
    have ap : Apart A e V0 := by
      have z4 : Same _ _ := x4
      refine ⟨(ne_of_none (x4 _ _ upd_same) nl1).symm, (ne_of_none ((x4.trans (x5.trans (x6.trans (x7.trans (x8.trans x9))))) _ _ upd_same) nl2).symm, (ne_of_none ((x4.trans (x5.trans (x6.trans x7))) _ _ upd_same) nm1).symm, (ne_of_none ((x4.trans (x5.trans (x6.trans (x7.trans x8)))) _ _ upd_same) nm2).symm, ?_, ?_, ?_, ?_, ?_, ?_, ?_, ?_⟩
      · exact (ne_of_none ((x4.trans (x5.trans (x6.trans (x7.trans (x8.trans (x9.trans (x10.trans (x11.trans (x12.trans (x13.trans (x14.trans x15))))))))))) _ _ upd_same) nV0).symm
      · exact (ne_of_none ((x6.trans (x7.trans (x8.trans (x9.trans (x10.trans (x11.trans (x12.trans (x13.trans (x14.trans x15))))))))) _ _ upd_same) nV0).symm
      · exact (ne_of_none ((x11.trans (x12.trans (x13.trans (x14.trans x15)))) _ _ upd_same) nV0).symm
      · exact (ne_of_none ((x6.trans (x7.trans (x8.trans x9))) _ _ upd_same) nl2).symm
      · exact (ne_of_none ((x6.trans x7) _ _ upd_same) nm1).symm
      · exact (ne_of_none ((x6.trans (x7.trans x8)) _ _ upd_same) nm2).symm
      · exact (ne_of_none (x9 _ _ upd_same) nl2)
      · exact (ne_of_none upd_same nl2)
    have ea := y3 _ _ (upd_same (H := H2) (a := e) (o := .lst []))
    have hv := upd_at (o := .lst A.vals) nV0
    refine ⟨_, rfl, V0, rfl, ⟨_, SqL.of hv⟩, ?_⟩
    refine for_list (K := K) (a := V0) (xs := A.vals) (fun i σ H' => ∃ o5 o6 o7 o8 : Option V, σ = [some (.ref a), some (.ref g), some (.int n), some (.ref e), some (.ref V0), o5, o6, o7, o8] ∧ Ob A i H' ∧ Early K A e i H' ∧ H' V0 = some (.lst A.vals)) ?_ (fun i σ H' _ ⟨_, _, _, _, _, _, _, z⟩ => SqL.of z) ?_ ?_
    · exact ⟨none, none, none, none, rfl, ob, ⟨[], ea, rfl, fun j t z => by simp at z⟩, hv⟩
    · rintro i v σ H' hvi ⟨o5, o6, o7, o8, rfl, ob', er', hv'⟩
      have hi : i < 12 := (List.getElem?_eq_some_iff.mp hvi).1
      have sh : Shows K H' v := ob'.shows hvi
      refine ⟨v, rfl, v, rfl, fun p as H3 s3 np hp e3 => ⟨v, rfl, v, rfl, fun q bs H4 s4 nq hq4 e4 => ⟨_, _, rfl, ?_⟩⟩⟩
      refine ⟨_, rfl, _, rfl, p, as, v, rfl, s4 _ _ hp, e3.same s4, sh.same (s3.trans s4), fun H5 s5 => ⟨true, rfl, ?_⟩⟩
      refine iteF ⟨_, rfl, _, rfl, q, bs, v, rfl, s5 _ _ hq4, e4.same s5, sh.same (s3.trans (s4.trans s5)), fun H6 s6 => ⟨true, rfl, iteF ?_⟩⟩
      have t36 : Same H' H6 := s3.trans (s4.trans (s5.trans s6))
      obtain ⟨ts, he, hl, hts⟩ := er'.same t36
      refine ⟨_, rfl, .inl ⟨rfl, _, SqL.of he⟩, _, rfl, _, rfl, (by show 2 ≤ sizeLine; decide), fun t nt => ⟨e, ts.map V.ref, _, rfl, rfl, ?_, ?_, ?_⟩⟩
      · rw [upd_ne (ne_of_none he nt)]
        exact he
      · rw [List.length_map, hl, sizeLine_eq]
        omega
      have st := same_upd (o := .tup [.ref p, v]) nt
      have ob6 := (ob'.same t36).same st
      have he6 := st _ _ he
      have em := Early.more (K := K) (A := A) he6 hl hi (fun j t' z => by
        obtain ⟨p', as', v', a1, a2, a3, a4⟩ := hts j t' z
        exact ⟨p', as', v', a1, st _ _ a2, st _ _ a3, a4.same st⟩) hvi upd_same (st _ _ (s6 _ _ (s5 _ _ (s4 _ _ hp)))) ((e3.same (s4.trans (s5.trans s6))).same st)
      have ob7 := ob6.keepE (o := .lst (ts.map V.ref ++ [.ref t])) ap he6
      have hv7 : (upd (upd H6 t (.tup [.ref p, v])) e (.lst (ts.map V.ref ++ [.ref t]))) V0 = some (.lst A.vals) := by
        rw [upd_ne ap.e5]
        exact st _ _ (t36 _ _ hv')
      generalize upd (upd H6 t (.tup [.ref p, v])) e (.lst (ts.map V.ref ++ [.ref t])) = H7 at em ob7 hv7
      by_cases h7 : i = 7
      · subst h7
        obtain rfl : V.ref l1 = v := Option.some.inj hvi
        have hl1 : H7 l1 = some (.lst [.int n]) := ob7.l1
        have k1 : L2.kitB "list" "list" = some true := by decide +kernel
        have k2 : L2.kitB "list" "dict" = some false := by decide +kernel
        refine ⟨_, rfl, _, _, .type "list", .type "list", true, rfl, .ty _, .base (.lst hl1), kit_ty k1, true, rfl, iteT ?_⟩
        refine ⟨_, rfl, .inl ⟨rfl, _, SqL.of hl1⟩, l1, [.int n], _, rfl, rfl, hl1, (by show 1 < sizeLine; decide), ?_⟩
        refine ⟨_, rfl, _, _, .type "list", .type "dict", false, rfl, .ty _, .base (.lst upd_same), kit_ty k2, false, rfl, iteF ?_⟩
        refine ⟨_, _, _, _, rfl, ob7.step7 ap, em.keep (.inl ⟨_, hl1, (by show 1 ≠ 23; decide)⟩) ap.e1.symm, ?_⟩
        rw [upd_ne ap.v1]
        exact hv7
      by_cases h8 : i = 8
      · subst h8
        obtain rfl : V.ref d1 = v := Option.some.inj hvi
        have hd1 : H7 d1 = some (.dK [(kA, .int n)]) := ob7.d1
        have k1 : L2.kitB "dict" "list" = some false := by decide +kernel
        have k2 : L2.kitB "dict" "dict" = some true := by decide +kernel
        refine ⟨_, rfl, _, _, .type "dict", .type "list", false, rfl, .ty _, .base (.dK hd1), kit_ty k1, false, rfl, iteF ?_⟩
        refine ⟨_, rfl, _, _, .type "dict", .type "dict", true, rfl, .ty _, .base (.dK hd1), kit_ty k2, true, rfl, iteT ?_⟩
        refine ⟨_, rfl, d1, _, rfl, DPut.k (k := kB) hd1 (by show 1 < sizeLine; decide), ?_⟩
        have ne1 : e ≠ d1 := by
          obtain ⟨ts', q1, _⟩ := em
          exact ne_ld q1 hd1
        refine ⟨_, _, _, _, rfl, ob7.step8, em.keep (.inr ⟨_, hd1⟩) ne1, ?_⟩
        rw [upd_ne (ne_ld hv7 hd1)]
        exact hv7
      by_cases h9 : i = 9
      · subst h9
        obtain rfl : V.ref l2 = v := Option.some.inj hvi
        have hl2 : H7 l2 = some (.lst [.ref m1, .ref m2]) := ob7.l2
        have k1 : L2.kitB "list" "list" = some true := by decide +kernel
        have k2 : L2.kitB "list" "dict" = some false := by decide +kernel
        refine ⟨_, rfl, _, _, .type "list", .type "list", true, rfl, .ty _, .base (.lst hl2), kit_ty k1, true, rfl, iteT ?_⟩
        refine ⟨_, rfl, .inl ⟨rfl, _, SqL.of hl2⟩, l2, [.ref m1, .ref m2], _, rfl, rfl, hl2, (by show 2 < sizeLine; decide), ?_⟩
        refine ⟨_, rfl, _, _, .type "list", .type "dict", false, rfl, .ty _, .base (.lst upd_same), kit_ty k2, false, rfl, iteF ?_⟩
        refine ⟨_, _, _, _, rfl, ob7.step9 ap, em.keep (.inl ⟨_, hl2, (by show 2 ≠ 23; decide)⟩) ap.e2.symm, ?_⟩
        rw [upd_ne ap.v2]
        exact hv7
      obtain ⟨T', tx, k1, k2⟩ := kind_of (K := K) ob7 hvi h7 h8 h9
      refine ⟨_, rfl, _, _, .type T', .type "list", false, rfl, .ty _, tx, kit_ty k1, false, rfl, iteF ?_⟩
      refine ⟨_, rfl, _, _, .type T', .type "dict", false, rfl, .ty _, tx, kit_ty k2, false, rfl, iteF ?_⟩
      exact ⟨_, _, _, _, rfl, ob7.step h7 h8 h9, em, hv7⟩
    · rintro σ H' ⟨o5, o6, o7, o8, rfl, ob', er', hv'⟩
      have sn : ∀ {H : Hp}, Shows K H .non := fun {H} => ⟨.none, .non, rfl, by decide +kernel, by decide⟩
      refine ⟨rfl, fun p as H3 s3 np hp e3 => ⟨p, as, .non, rfl, hp, e3, sn, fun H4 s4 => ⟨true, rfl, iteF ?_⟩⟩⟩
      obtain ⟨ts, he, hl, hts⟩ := er'.same (s3.trans s4)
      have ob4 := ob'.same (s3.trans s4)
      refine ⟨_, rfl, e, rfl, ⟨_, SqL.of he⟩, ?_⟩
      refine for_list (K := K) (a := e) (xs := ts.map V.ref) (fun i σ H5 => ∃ o5 o6 o7 o8 : Option V, σ = [some (.ref a), some (.ref g), some (.int n), some (.ref e), some (.ref V0), o5, o6, o7, o8] ∧ Same H4 H5) ⟨_, _, _, _, rfl, Same.refl _⟩ (fun i σ H5 _ ⟨_, _, _, _, _, z⟩ => SqL.of (z _ _ he)) ?_ ?_
      · rintro i v σ H5 hvi ⟨o5, o6, o7, o8, rfl, s5⟩
        rw [List.getElem?_map] at hvi
        cases et : ts[i]? with
        | none =>
          rw [et] at hvi
          cases hvi
        | some t =>
          rw [et] at hvi
          obtain rfl : V.ref t = v := Option.some.inj hvi
          obtain ⟨p', as', v', a1, a2, a3, a4⟩ := hts i t et
          refine ⟨t, _, rfl, .inl (.inl (s5 _ _ a2)), rfl, ⟨_, _, rfl, ⟨_, _, rfl, ⟨rfl, ?_⟩⟩⟩⟩
          refine ⟨_, rfl, _, rfl, p', as', v', rfl, s5 _ _ a3, a4.same s5, (ob4.same s5).shows a1, fun H6 s6 => ⟨true, rfl, iteF ?_⟩⟩
          exact ⟨_, _, _, _, rfl, s5.trans s6⟩
      · rintro σ H5 ⟨o5, o6, o7, o8, rfl, s5⟩
        have c23 : PyData.eqv (.list [.int 23]) (.list [.int 23]) = true := by decide +kernel
        have c0 : PyData.eqv (.list []) (.list []) = true := by decide +kernel
        have h23 : hits "NothingToUndo" = [V.int 23] := by decide +kernel
        have h0 : hits "MillError" = [] := by decide +kernel
        refine fun x1 nx1 => ⟨x1, "NothingToUndo", rfl, by decide +kernel, .inr upd_same, fun q1' H6 s6 nq1' hq1' => ⟨(by show 1 ≤ sizeLine; decide), fun q2' nq2' => ?_⟩⟩
        rw [h23] at hq1'
        refine ⟨.list [.int 23], .list [.int 23], .lst (SqL.of (by rw [upd_ne (ne_of_none hq1' nq2')]; exact hq1')) (.cons (.int _) .nil), .lst (SqL.of upd_same) (.cons (.int _) .nil), by decide +kernel, by decide +kernel, _, rfl, ?_⟩
        rw [c23]
        refine iteT ?_
        refine fun x2 nx2 => ⟨x2, "MillError", rfl, by decide +kernel, .inr upd_same, fun q3' H7 s7 nq3' hq3' => ⟨Nat.zero_le _, fun q4' nq4' => ?_⟩⟩
        rw [h0] at hq3'
        refine ⟨.list [], .list [], .lst (SqL.of (by rw [upd_ne (ne_of_none hq3' nq4')]; exact hq3')) .nil, .lst (SqL.of upd_same) .nil, by decide +kernel, by decide +kernel, ?_⟩
        rw [c0]
        exact k _
end
end K00
end
section
namespace K00
open PySem PySem.Spec PyProof.Rows L2 L2.Xv He
theorem all_facts {P : Program} {w : World} {K : PySem.W.Frag} {h : Heap} {mg : Str → Option Value} {f : Addr} (X : K.In h) (G : h.Ns mainGlobals mg) (hfa : mg ("law" : Str) = some (.ref f)) (c : ck K = true) (S : SaysD [] fn K) :
    ∃ fd : FuncData, (∀ (s : Shared) (v : Value), BindsTo s fd ⟨[v], []⟩ [("_law_script", v)]) ∧ ∀ base : Heap, K.In base → base.Ns mainGlobals mg → FnQ P w K mg base 4 f fd ["_law_script"] (spLaw K) := by
  have T : ∀ base, Tx P w K mg base := fun base => tx X G c S
  have gf := (T h).gf
  obtain ⟨d0, F0⟩ := S.def_ 23 (d := dF 0 "_law_hash") rfl
  obtain ⟨d1, F1⟩ := S.def_ 24 (d := dF 1 "_law_random") rfl
  obtain ⟨d2, F2⟩ := S.def_ 25 (d := dF 2 "_law_cell") rfl
  obtain ⟨d3, F3⟩ := S.def_ 26 (d := dF 3 "_law_generator") rfl
  obtain ⟨d4, F4⟩ := S.def_ 27 (d := dF 4 "_law_kinds") rfl
  obtain ⟨d5, F5⟩ := S.def_ 28 (d := dF 5 "_law_plain") rfl
  obtain ⟨d6, F6⟩ := S.def_ 29 (d := dF 6 "_law_named") rfl
  obtain ⟨d7, F7⟩ := S.def_ 30 (d := dF 7 "_law_bare") rfl
  obtain ⟨d8, F8⟩ := S.def_ 31 (d := dF 8 "_law_fields") rfl
  obtain ⟨d9, F9⟩ := S.def_ 32 (d := dF 9 "_law_right") rfl
  obtain ⟨fd, F⟩ := S.def_ 33 (d := dF 10 "law") rfl
  have at_ : ∀ i (d : DefD), dFs[i]? = some d → mg d.name = some (.ref (ga K d.name)) := fun i d e => gf d (List.mem_of_getElem? e)
  have D : Fds K mg := ⟨⟨_, d0, F0, at_ 0 _ rfl⟩, ⟨_, d1, F1, at_ 1 _ rfl⟩, ⟨_, d2, F2, at_ 2 _ rfl⟩, ⟨_, d3, F3, at_ 3 _ rfl⟩, ⟨_, d4, F4, at_ 4 _ rfl⟩, ⟨_, d5, F5, at_ 5 _ rfl⟩, ⟨_, d6, F6, at_ 6 _ rfl⟩, ⟨_, d7, F7, at_ 7 _ rfl⟩, ⟨_, d8, F8, at_ 8 _ rfl⟩, ⟨_, d9, F9, at_ 9 _ rfl⟩⟩
  have e := hfa.symm.trans (at_ 10 _ rfl)
  cases e
  have b := FunD.bindsA (ps := ["_law_script"]) F fun _ _ _ _ _ _ us hl => match us, hl with | [_], _ => rfl
  exact ⟨fd, fun s v => b s [v] rfl, fun base _ _ => okLaw F D (T base)⟩
end K00
open PySem PySem.W PySem.Calls PyProof.Rows
set_option maxRecDepth 100000 in
set_option maxHeartbeats 0 in
theorem PySem.Challenge.cw_millpapers_k00_errors_holds : PySem.Challenge.rw_millpapers_k00_errors.Holds := by
  w_on; o_law
  refine HandSHeadRun.head_any (r := K00.R) (q := view K00.R.prog [37]) (H := K00.hk) (ob := K00.ob) (M := 8000) (loose := K00.loose) (d := HandSHeadRun.topDef K00.R.prog 37) (kwd := []) K00.ob_eq
    (by kernel_rfl) (fun s => by kernel_rfl) K00.run (by kernel_rfl) (by kernel_rfl) (by kernel_rfl) (by rfl) (by first | assumption | decide +kernel) (by decide +kernel) ⟨rfl, rfl, rfl, rfl, rfl, by decide +kernel⟩ ?hw ?hc
  case hw => w_witness2
  case hc =>
    refine L2.Xv.law_by (l := PySem.Challenge.rw_millpapers_k00_errors) (n := 63) (k := 4) (x := "_law_script") rfl (by decide) (by kernel_rfl) ⟨rfl, by decide, by decide⟩ ?F
    intro w mg fa h Y G hmg0
    obtain ⟨K, KX, c, S⟩ := Y
    have hmg : mg ("law" : PySem.Str) = some (.ref fa) := by
      have e : (HandSHeadRun.topDef K00.R.prog 37).name = ("law" : PySem.Str) := by kernel_rfl
      rw [← e]
      exact hmg0
    obtain ⟨fd, hb, hF⟩ := K00.all_facts (P := (PySem.Challenge.rw_millpapers_k00_errors).prog) (w := w) KX G hmg c S
    exact ⟨K, fd, K00.spLaw K, KX, hb, fun H a ns hl hS => ⟨a, ns, rfl, hS, fun _ => rfl⟩, hF⟩
end
