import PyProof.Rows.All
import Wide.All
import OpenK.AllK
import Wide.FinOn
import HandS.ForMost
import PyProof.ReprRoads
import HandS.Defaults
import HandS.HeadEnd
import HandS.ExcInit
import HandS.IsInst
import HandS.ExcValue
import KE.KExcIs
import HandS.ExcOwn
import KE.KStateDown
import HandS.HeadHook1
import HandS.HeadHook2
import HandS.WideBits
import HandS.Wide
import HandS.Deep
import HandS.Text
import HandS.Walk
import HandS.Words
import HandS.Comp
import HandS.Zip
import HandS.Style
import HandS.MakeKw
import PyProof.EqKinds
import PyProof.InstNe
import HandS.WordsExc
import HandS.Head0
import HandS.Head1
import HandS.Head2
import HandS.List
import HandS.Gcd
import HandS.Flow
import KE.KMathGC
import HandS.MakeKwOnly
import HandS.Head3
import PySem.Challenge.RW_millpapers_k13_rows_refused
set_option Elab.async false
set_option linter.all false
set_option maxRecDepth 100000
set_option maxHeartbeats 8000000
section
/-! Defs whose promise knows that no repr is under way (so that they may ask repr of a list). -/
namespace L2.Xv
open PySem PySem.Spec PyProof.Rows
/-- room for k calls, and no repr under way -/
def Quiet (k : Nat) (A : Around) : Prop := Room k A ∧ A.guards = some []
theorem Quiet.mono {j k : Nat} {A : Around} (q : Quiet k A) (h : j ≤ k) : Quiet j A := ⟨q.1.mono h, q.2⟩
/-- FnOk under Quiet; nothing is raised -/
structure FnQ (P : Program) (w : World) (K : PySem.W.Frag) (mg : Str → Option Value) (base : Heap) (k : Nat) (f : Addr) (fd : FuncData) (ps : List Str) (sp : Sp) : Prop where
  num : ∀ vs H Q E, sp vs H Q E → vs.length = ps.length
  go : ∀ {A : Around} {outer : List Env} {s : Shared} {H : Hp} {args : Args} {us : List Value} {vs : List V} {Q : VK} {E : XK}, Quiet k A → Env0 P w K mg base A outer s H → BindsTo s fd args (ps.zip us) → Vals vs us → sp vs H Q E →
    codeAny (model P w) A (.call (.ref f) args) (CR CX0 outer P w H s Q E) s
section
variable {P : Program} {w : World} {K : PySem.W.Frag} {mg : Str → Option Value} {base : Heap} {f : Addr} {fd : FuncData} {ps N : List Str} {sp : Sp} {k : Nat} {x qual : Str} {params : Arguments} {body : List Stmt} {scope : Scope} {dvs : List V} {kws : List (Str × V)}
theorem FnQ.of (F : FnOk P w K mg base CX0 k f fd ps sp) : FnQ P w K mg base k f fd ps sp := ⟨F.len, fun q e b v h => F.run _ _ _ _ _ _ _ _ _ q.1 e b v h⟩
/-- a def's body, walked under Quiet, keeps the def's promise -/
theorem fnQ (F : FunD K x qual params body scope dvs kws f fd) (S : FnScope N ps scope) (num : ∀ vs H Q E, sp vs H Q E → vs.length = ps.length)
    (walk : ∀ (cdv : Value) (A : Around) (outer : List Env) (s : Shared) (H : Hp) (vs : List V) (Q : VK) (E : XK), Quiet k (A.deeper (envOfC qual scope s.heap.objs.size f cdv)) → sp vs H Q E →
      ∃ t, PSs (cxOf CX0 P w K mg base N qual scope f cdv A outer s H E) body t ∧ t { nx := fun _ H' => Q .non H', rt := Q } (start N vs) H) : FnQ P w K mg base (k + 1) f fd ps sp := by
  refine ⟨num, ?_⟩
  intro A outer s H args us vs Q E q e0 hb rv h
  obtain ⟨oc, od, dV, kV, doc, pm, an, cdv, ct, osl, rfl, lk, hcd, _, _⟩ := F.ex
  have up : ∀ b o, base.get? b = some o → s.heap.get? b = some o := fun b o z => (e0.bs b o z).1
  have KX := e0.mod.kin.keeps up
  refine codeAny_call_function q.1.depth (KX _ _ lk) rfl S.co S.gen rfl (PySem.W.codeRec_of KX hcd) (hb _ _ _ _ (wpAny_newFunctionEnv_cells S.kind ?_ ?_))
  · rintro ⟨n, v⟩ hy
    have hn := (List.of_mem_zip hy).1
    exact (S.par n hn).imp id fun c => ⟨c, PySem.W.cellsFrom_some _ _ _ (.inl c)⟩
  · rintro env rfl s1 y
    refine ⟨(e0.mod.nolimit.keeps up).keeps y.toInCall.keep, codeAny_func ?_⟩
    obtain ⟨t, ht, hq⟩ := walk cdv A outer s H vs Q E ⟨q.1.deeper _, q.2⟩ h
    have J := inv_start (CX := CX0) (N := N) (E := E) S q.1.hd e0 (num _ _ _ _ h) rv y
    refine wpAny_mono (ht.run [] s1 (start N vs) H _ J hq) ?_ fun _ _ z => z
    intro fl s' hs
    cases fl with
    | next => obtain ⟨_, H', J', z⟩ := hs; exact ⟨.non, H', J'.os, J'.bare, J'.base, J'.hok, rfl, z⟩
    | ret u => obtain ⟨v, _, H', J', r', z⟩ := hs; exact ⟨v, H', J'.os, J'.bare, J'.base, J'.hok, r', z⟩
    | brk => obtain ⟨_, _, _, z⟩ := hs; exact z.elim
    | cont => obtain ⟨_, _, _, z⟩ := hs; exact z.elim
end
section
variable {X : Cx} {k : Nat} {f : Addr} {fd : FuncData} {ps : List Str} {sp : Sp} {dvs : List V} {ds : List Value} {E : XK} {x : Str} {p pos : Pos} {e : Expr} {es : List Expr} {t : TA}
theorem run_q {pins : List (Addr × Obj)} {σ : St} {H : Hp} {s : Shared} {Q : VK} {us : List Value} {vs : List V} (F : FnQ X.prog X.w X.K X.mg X.base k f fd ps sp) (q : Quiet k X.A) (hb : Binds X.K fd ps ds) (hd : Vals dvs ds)
    (I : Inv X pins σ H s) (r : Vals vs us) (h : sp (vs ++ dvs) H Q E) : wpAny (model X.prog X.w) X.A (call (.ref f) us) (EP X pins σ Q) X.xe s := by
  have rr : Vals (vs ++ dvs) (us ++ ds) := r.append hd
  have n : (us ++ ds).length = ps.length := rr.length.symm.trans (F.num _ _ _ _ h)
  refine wpAny_call (codeAny_mono (F.go q I.env0 (hb s us I.kIn n) rr h) ?_)
  rintro (er | fl) s' z
  · exact z.elim
  · cases fl with
    | ret u => exact I.after z
    | _ => exact False.elim z
theorem pe_callQ (F : FnQ X.prog X.w X.K X.mg X.base k f fd ps sp) (q : Quiet k X.A) (hg : Gl X x) (hm : X.mg x = some (.ref f)) (hk : PySem.W.keepIn X.K (.ref f) = true) (hb : Binds X.K fd ps ds) (hd : Vals dvs ds)
    (ha : PA X (e :: es) t) (hdb : (x == ("__debug__" : Str)) = false := by decide) (he : starEach (e :: es) X.env = (false, eval e X.env) :: starEach es X.env := by rfl) (hpl : (backTo pos (starEach es X.env)).any (·.1) = false := by rfl) :
    PE X (.Call (.Name x p) (e :: es) [] pos) (tCall sp dvs E t) :=
  ⟨fun pins s σ H _ I h => wpAny_Call_Name_kw (ld_glob I hg hm (PySem.W.callWith_K (h₀ := X.base) I.ok.mod.kin hk (thn (ha.run pos pins s σ H _ I h) fun _ _ ⟨_, _, I1, r, z⟩ => ⟨I1.kIn, run_q F q hb hd I1 r z⟩) he hpl) hdb)⟩
end
/-! ### the law's call -/
/-- the script alone is tracked, or it is one of the module's objects -/
theorem law_go {P : Program} {w : World} {K : PySem.W.Frag} {mg mb : Str → Option Value} {k : Nat} {fa a : Addr} {fd : FuncData} {x : Str} {sp : Sp} {s₁ : Shared} {vs : List Value} {H : Hp}
    (KX : K.In s₁.heap) (hns : s₁.heap.Ns mainGlobals mg) (hb : s₁.heap.Ns builtinsNs mb) (hbb : ∀ x : Str, x ≠ "__name__" → mb x = bootBuiltins x) (hlim : s₁.heap.NoLimit) (hg : s₁.gens = #[])
    (ha : s₁.heap.get? a = some { cls := .type "list", data := .seq vs.toArray }) (hr : Room k callerA)
    (F : ∀ base : Heap, K.In base → base.Ns mainGlobals mg → FnQ P w K mg base k fa fd [x] sp) (hbind : ∀ (s : Shared) (u : Value), BindsTo s fd ⟨[u], []⟩ [(x, u)])
    (hO : Only H) (hok : HOk P w H s₁.heap) (only : ∀ b u, H b = some u → b = a ∧ K.lookup a = none) (hsp : sp [.ref a] H (fun v _ => v = .bl true) fun _ _ _ => False) :
    codeAny (model P w) callerA (.call (.ref fa) ⟨[.ref a], []⟩) (fun r s' => r = .ok (.ret (.bool true)) ∧ OldK s₁.heap s'.heap ∧ s'.os = s₁.os ∧ AllBare s'.gens) s₁ := by
  have hid : ∀ {b : Addr} {o : Obj}, s₁.heap.get? b = some o → (∀ u, H b ≠ some u) → (hidT s₁.heap H).get? b = some o := fun e n => hidT_get e (Option.eq_none_iff_forall_ne_some.mpr n)
  have dictOk : ∀ {b : Addr} {m : Str → Option Value}, s₁.heap.Ns b m → (hidT s₁.heap H).Ns b m := by
    rintro b m ⟨o, es, ep, e, d, r⟩
    refine ⟨o, es, ep, hid e fun u z => ?_, d, r⟩
    obtain ⟨rfl, _⟩ := only b u z
    rw [ha] at e
    cases e
    cases (show Data.seq vs.toArray _ = Data.dict es ep from d)
  have hK : K.In (hidT s₁.heap H) := fun b o e => hid (KX b o e) fun u z => by
    obtain ⟨rfl, n⟩ := only b u z
    rw [n] at e
    cases e
  have M : Mod K mg (hidT s₁.heap H) := ⟨hK, dictOk hns, ⟨mb, dictOk hb, hbb⟩, by obtain ⟨m, h1, h2⟩ := hlim; exact ⟨m, dictOk h1, h2⟩⟩
  have e0 : Env0 P w K mg (hidT s₁.heap H) callerA [] s₁ H := { frames := rfl, mod := M, bs := fun _ _ e => of_hidT e, bsz := Nat.le_of_eq (hidT_size _ _), funs := trivial, frf := fun b z => absurd (show b ∈ ([] : List Addr) from z) (by simp), hok := hok, bare := .of_eq hg }
  refine codeAny_mono ((F _ hK (dictOk hns)).go (us := [Value.ref a]) (vs := [V.ref a]) ⟨hr, rfl⟩ e0 (hbind s₁ (.ref a)) (.cons rfl .nil) hsp) ?_
  rintro (er | fl) s' z
  · exact z.elim
  cases fl with
  | ret u =>
    obtain ⟨v, H', os, bare, un, hok', rv, ev⟩ := z
    rw [show v = .bl true from ev] at rv
    refine ⟨congrArg (fun q => Except.ok (Flow.ret q)) rv, OldK.of_keep fun b o e => ?_, os, bare⟩
    have fr : b ∉ frs ([] : List Env) := fun q => absurd (show b ∈ ([] : List Addr) from q) (by simp)
    cases q : H b with
    | none => exact un.keep b o e q fr (by simp)
    | some u =>
      rcases hO b with n | ⟨ob, xs, y⟩
      · rw [q] at n
        cases n
      · have h1 := (hok b _ y).1
        have h2 := (hok' b _ (un.frzs b ob _ y)).1
        rw [e] at h1
        cases h1
        exact h2
  | _ => exact False.elim z
/-- a law by the promise of its def -/
theorem law_by {l : PySem.W.OpenLaw} {n k : Nat} {q : Program} {loose : List Str} {XP : (Str → Option Value) → Heap → Prop} {YP : World → Heap → Prop} {d : DefRec} {x : Str}
    (hn : l.most = some n) (hn2 : n ≤ sizeLine) (hdf : d.params.defaults = []) (hr : Room k callerA)
    (F : ∀ (w : World) (mg : Str → Option Value) (fa : Addr) (h : Heap), YP w h → h.Ns mainGlobals mg → mg d.name = some (.ref fa) →
      ∃ (K : PySem.W.Frag) (fd : FuncData) (sp : Sp), K.In h ∧ (∀ (s : Shared) (u : Value), BindsTo s fd ⟨[u], []⟩ [(x, u)]) ∧
        (∀ (H : Hp) (a : Addr) (ns : List Int), ns.length ≤ n → SqL K H a (ns.map V.int) → sp [.ref a] H (fun v _ => v = .bl true) fun _ _ _ => False) ∧
        ∀ base : Heap, K.In base → base.Ns mainGlobals mg → FnQ l.prog w K mg base k fa fd [x] sp) :
    PySem.W.WalkO q loose XP YP l.row.toRowW d [] (fun f vs => PySem.call f vs) := by
  refine Att.attach_call hn hdf fun w s₀ s₁ mg mb fa o pm cd doc a vs ns G Y ho hd hcd hmg hobj hints hlen hg => ?_
  obtain ⟨K, fd, sp, KX, hb, hsp, hF⟩ := F w mg fa _ Y G.T.g hmg
  have rv := vals_ints hints
  have sz : ns.length ≤ sizeLine := Nat.le_trans hlen hn2
  cases hk : K.lookup a with
  | some ob =>
    have e := KX a ob hk
    rw [hobj] at e
    cases e
    refine law_go (H := fun _ => none) KX G.T.g G.T.b G.T.builtins G.T.nolimit hg hobj hr hF hb (fun _ => .inl rfl) (fun b u z => by cases z) (fun b u z => by cases z) (hsp _ a ns hlen ?_)
    exact .inr ⟨_, vs.toArray, _, hk, rfl, rfl, rfl, by rw [List.size_toArray, ← rv.length, List.length_map]; exact sz, by simpa using rv⟩
  | none =>
    have at_ : ∀ {b : Addr} {u : HO}, (if b = a then some (HO.frz { cls := .type "list", data := .seq vs.toArray } (.lst (ns.map V.int))) else none) = some u → b = a ∧ u = .frz { cls := .type "list", data := .seq vs.toArray } (.lst (ns.map V.int)) := by
      intro b u z
      split at z
      · rename_i eb
        exact ⟨eb, (Option.some.inj z).symm⟩
      · cases z
    refine law_go (H := fun b => if b = a then some (.frz { cls := .type "list", data := .seq vs.toArray } (.lst (ns.map V.int))) else none) KX G.T.g G.T.b G.T.builtins G.T.nolimit hg hobj hr hF hb (fun b => ?_) (fun b u z => ?_) (fun b u z => ⟨(at_ z).1, hk⟩) (hsp _ a ns hlen (.inl (.inr ⟨_, if_pos rfl⟩)))
    · by_cases eb : b = a
      · exact .inr ⟨_, _, if_pos eb⟩
      · exact .inl (if_neg eb)
    · obtain ⟨rfl, rfl⟩ := at_ z
      exact ⟨hobj, by rw [List.length_map]; exact sz, vs, _, rv, hobj⟩
end L2.Xv
end
section
/-! repr of what stands in the heap, dicts too. -/
namespace L2.Xv
open PySem PySem.Spec PyProof.Rows
def keyD : Key → PyData
  | .inl i => .int i
  | .inr x => .str x
mutual
/-- v is the data d, in the heap H -/
inductive Sd (K : PySem.W.Frag) (H : Hp) : V → PyData → Prop
  | non : Sd K H .non .none
  | bl (b : Bool) : Sd K H (.bl b) (.bool b)
  | int (i : Int) : Sd K H (.int i) (.int i)
  | str (x : Str) : Sd K H (.str x) (.str x)
  | lst {a : Addr} {xs : List V} {ds : List PyData} : SqL K H a xs → SdAll K H xs ds → Sd K H (.ref a) (.list ds)
  | tup {a : Addr} {xs : List V} {ds : List PyData} : SqT K H a xs → SdAll K H xs ds → Sd K H (.ref a) (.tuple ds)
  | dct {a : Addr} {kvs : List (Key × V)} {ds : List (PyData × PyData)} : H a = some (.dK kvs) → SdKv K H kvs ds → Sd K H (.ref a) (.dict ds)
inductive SdAll (K : PySem.W.Frag) (H : Hp) : List V → List PyData → Prop
  | nil : SdAll K H [] []
  | cons {v : V} {vs : List V} {d : PyData} {ds : List PyData} : Sd K H v d → SdAll K H vs ds → SdAll K H (v :: vs) (d :: ds)
inductive SdKv (K : PySem.W.Frag) (H : Hp) : List (Key × V) → List (PyData × PyData) → Prop
  | nil : SdKv K H [] []
  | cons {k : Key} {v : V} {vs : List (Key × V)} {d : PyData} {ds : List (PyData × PyData)} : Sd K H v d → SdKv K H vs ds → SdKv K H ((k, v) :: vs) ((keyD k, d) :: ds)
end
/-- where the interpreter's modules stand is no list -/
def SysK (K : PySem.W.Frag) : Prop := ∃ o, K.lookup sysModules = some o ∧ o.cls ≠ .type "list"
theorem key_reads {h : Heap} {k : Key} {u : Value} (e : keyIs k u = true) : Reads h u (keyD k) [] := by
  rcases keyIs_shape e with ⟨i, t, rfl, rfl⟩ | ⟨x, t, rfl, rfl⟩
  · exact .int i t
  · exact .str x t
section
variable {X : Cx} {pins : List (Addr × Obj)} {σ : St} {H : Hp} {s : Shared}
mutual
theorem Sd.reads (I : Inv X pins σ H s) (S : SysK X.K) {v : V} {d : PyData} : Sd X.K H v d → ∀ u, RelV v u → ∃ as, Reads s.heap u d as ∧ sysModules ∉ as
  | .non, _, r => by
    cases r
    exact ⟨[], .none, by simp⟩
  | .bl b, _, r => by
    cases r
    exact ⟨[], .bool b, by simp⟩
  | .int i, _, r => by
    obtain ⟨t, rfl⟩ := r
    exact ⟨[], .int i t, by simp⟩
  | .str x, _, r => by
    obtain ⟨t, rfl⟩ := r
    exact ⟨[], .str x t, by simp⟩
  | .lst (a := a) hs ha, _, r => by
    cases r
    obtain ⟨its, rv, ⟨o, n, ho, hc, _, hd⟩, _⟩ := I.list hs
    obtain ⟨as, q, nq⟩ := SdAll.reads I S ha _ rv
    refine ⟨a :: as, .list ho hc hd q, fun z => ?_⟩
    rcases List.mem_cons.mp z with e | z
    · obtain ⟨om, lm, cm⟩ := S
      have y := I.kIn _ _ lm
      rw [e, ho] at y
      cases y
      exact cm hc
    · exact nq z
  | .tup hs ha, _, r => by
    cases r
    obtain ⟨its, rv, ⟨o, ho, hc, n, hd⟩, _⟩ := I.tuple hs
    obtain ⟨as, q, nq⟩ := SdAll.reads I S ha _ rv
    exact ⟨as, .tuple ho hc hd q, nq⟩
  | .dct (a := a) (kvs := kvs) e hk, _, r => by
    cases r
    obtain ⟨_, ns, vs, rv, o, es, ep, ho, hx, hd, hko, hp, _⟩ := (show ObjOk X.prog X.w H s.heap a (.dK kvs) from I.hok a _ e)
    obtain ⟨as, bs, q1, q2, n1, n2⟩ := SdKv.reads I S hk _ _ rv hp
    refine ⟨a :: as ++ bs, .dict ho hx.1 hd q1 q2, fun z => ?_⟩
    rcases List.mem_append.mp z with z | z
    · rcases List.mem_cons.mp z with z | z
      · rw [← z] at ns
        simp at ns
      · exact n1 z
    · exact n2 z
theorem SdAll.reads (I : Inv X pins σ H s) (S : SysK X.K) {vs : List V} {ds : List PyData} : SdAll X.K H vs ds → ∀ us, Vals vs us → ∃ as, ReadsAll s.heap us ds as ∧ sysModules ∉ as
  | .nil, _, r => by
    cases r
    exact ⟨[], .nil, by simp⟩
  | .cons h t, _, r => by
    cases r with
    | cons r1 r2 =>
      obtain ⟨as, q1, n1⟩ := Sd.reads I S h _ r1
      obtain ⟨bs, q2, n2⟩ := SdAll.reads I S t _ r2
      exact ⟨as ++ bs, .cons q1 q2, fun z => (List.mem_append.mp z).elim n1 n2⟩
theorem SdKv.reads (I : Inv X pins σ H s) (S : SysK X.K) {kvs : List (Key × V)} {ds : List (PyData × PyData)} : SdKv X.K H kvs ds → ∀ (vs : List (Key × Value)) (es : List DictEntry), KV kvs vs → Pairs (mixKind X.prog X.w) es vs →
    ∃ as bs, ReadsAll s.heap (es.map (·.key)) (ds.map (·.1)) as ∧ ReadsAll s.heap (es.map (·.val)) (ds.map (·.2)) bs ∧ sysModules ∉ as ∧ sysModules ∉ bs
  | .nil, _, _, r, p => by
    cases r
    cases p
    exact ⟨[], [], .nil, .nil, by simp, by simp⟩
  | .cons (k := k) h t, _, _, r, p => by
    cases r with
    | cons r1 r2 =>
      cases p with
      | cons p1 p2 p3 =>
        obtain ⟨e1, rv⟩ := r1
        obtain ⟨bs, q2, n2⟩ := Sd.reads I S h _ rv
        obtain ⟨cs, ds', q3, q4, n3, n4⟩ := SdKv.reads I S t _ _ r2 p3
        dsimp only at e1 rv q2
        rw [← e1] at p1
        refine ⟨[] ++ cs, bs ++ ds', .cons (key_reads p1) q3, ?_, fun z => ?_, fun z => (List.mem_append.mp z).elim n2 n4⟩
        · refine .cons ?_ q4
          show Reads s.heap _ _ _
          dsimp only
          rw [p2]
          exact q2
        · rw [List.nil_append] at z
          exact n3 z
end
end
/-- repr(x) -/
def rRepr (K : PySem.W.Frag) : List V → Hp → VK → Prop := fun xs H Q => ∃ (v : V) (d : PyData), xs = [v] ∧ Sd K H v d ∧ d.showable = true ∧ d.shown.length ≤ sizeLine ∧ d.depth ≤ 60 ∧ Q (.str d.shown) H
theorem call_repr {X : Cx} {k : Nat} (S : SysK X.K) (q : Quiet k X.A) : CallR X (.builtin "repr") (rRepr X.K) := by
  intro pins s σ H xs us Q I r h
  obtain ⟨v, d, rfl, hv, hs, hz, hd, z⟩ := h
  cases r with
  | cons rv rn =>
    rename_i u _
    cases rn
    have back : ∀ {tk : Nat} {t : Tok}, EP X pins σ Q (.str d.shown t) { s with toks := tk } := fun {tk t} => ⟨.str d.shown, H, I.tok tk, ⟨t, rfl⟩, z⟩
    cases hv with
    | non => cases rv; exact PySem.P.repr_of_none back
    | bl b => cases rv; exact PySem.P.repr_of_bool back
    | int i => obtain ⟨t, rfl⟩ := rv; exact PySem.P.repr_of_int (of_decide_eq_true hs) back
    | str x => obtain ⟨t, rfl⟩ := rv; exact PySem.P.repr_of_str back hz
    | _ =>
      cases rv
      rename_i a _ _ h1 h2
      obtain ⟨as, rd, na⟩ := Sd.reads I S (v := .ref a) (by first | exact Sd.lst h1 h2 | exact Sd.tup h1 h2 | exact Sd.dct h1 h2) (.ref a) rfl
      refine repr_of_reads' rd hs (fun _ => na) q.2 ?_ (fun _ _ e => e) (fun h' u tk hk => ⟨.str _, H, I.kept (t' := tk) hk, ⟨u, rfl⟩, z⟩) hz
      have := q.1.un
      omega
end L2.Xv
end
section
/-! How long a shown text is at most. -/
namespace L2.Xv
open PySem PySem.Spec PyProof.Rows
mutual
def wt : PyData → Nat
  | .none => 4
  | .bool _ => 5
  | .int _ => 1921
  | .str x => (reprText x).length
  | .list xs => 2 + wtAll xs
  | .tuple xs => 3 + wtAll xs
  | .dict kvs => 2 + wtKv kvs
def wtAll : List PyData → Nat
  | [] => 0
  | x :: xs => wt x + 2 + wtAll xs
def wtKv : List (PyData × PyData) → Nat
  | [] => 0
  | (k, v) :: r => wt k + wt v + 4 + wtKv r
end
theorem textFrom_le : ∀ (ts : List Str) (k : Nat) (acc : Str), (textFrom k acc ts).length ≤ acc.length + piled ts
  | [], k, acc => by
    show acc.length ≤ _
    omega
  | t :: r, k, acc => by
    have h := textFrom_le r (k + 1) (acc ++ (if k > 0 then ", " else "" : String) ++ t)
    have e : (acc ++ (if k > 0 then ", " else "" : String) ++ t).length ≤ acc.length + 2 + t.length := by
      rw [strLen_append, strLen_append]
      split
      · exact Nat.le_refl _
      · show acc.length + 0 + t.length ≤ _
        omega
    show (textFrom (k + 1) _ r).length ≤ _
    have p : piled (t :: r) = t.length + 2 + piled r := by simp [piled, Nat.add_comm, Nat.add_left_comm]
    omega
theorem join_le (ts : List Str) : (Str.join ", " ts).length ≤ piled ts := by
  by_cases h : ts = []
  · subst h
    exact Nat.zero_le _
  · have := join_length_add ts h
    omega
mutual
theorem shown_le : ∀ d : PyData, d.showable = true → d.shown.length ≤ wt d
  | .none, _ => Nat.le_refl 4
  | .bool b, _ => by cases b <;> decide
  | .int i, h => int_text_len_1921 (of_decide_eq_true h)
  | .str x, _ => Nat.le_refl _
  | .list xs, h => by
    have h1 := all_le xs h
    have h2 := textFrom_le (PyData.shownAll xs) 0 "["
    show (textFrom 0 "[" (PyData.shownAll xs) ++ ("]" : Str)).length ≤ _
    rw [strLen_append]
    have e1 : (("[" : String) : Str).length = 1 := rfl
    have e2 : (("]" : String) : Str).length = 1 := rfl
    show _ ≤ 2 + wtAll xs
    rw [e1] at h2
    rw [e2]
    omega
  | .tuple xs, h => by
    have h1 := all_le xs h
    have h2 := join_le (PyData.shownAll xs)
    show (("(" : Str) ++ Str.join ", " (PyData.shownAll xs) ++ (if (PyData.shownAll xs).length == 1 then ",)" else ")" : String)).length ≤ 3 + wtAll xs
    rw [strLen_append, strLen_append]
    have e1 : (("(" : String) : Str).length = 1 := rfl
    rw [e1]
    split
    · have e2 : ((",)" : String) : Str).length = 2 := rfl
      rw [e2]
      omega
    · have e2 : ((")" : String) : Str).length = 1 := rfl
      rw [e2]
      omega
  | .dict kvs, h => by
    have h1 := kv_le kvs h
    have h2 := join_le (PyData.shownKv kvs)
    show (("{" : Str) ++ Str.join ", " (PyData.shownKv kvs) ++ ("}" : Str)).length ≤ 2 + wtKv kvs
    rw [strLen_append, strLen_append]
    have e1 : (("{" : String) : Str).length = 1 := rfl
    have e2 : (("}" : String) : Str).length = 1 := rfl
    rw [e1, e2]
    omega
theorem all_le : ∀ xs : List PyData, PyData.showableAll xs = true → piled (PyData.shownAll xs) ≤ wtAll xs
  | [], _ => Nat.le_refl _
  | x :: xs, h => by
    have h' : x.showable = true ∧ PyData.showableAll xs = true := Bool.and_eq_true_iff.mp h
    have h1 := shown_le x h'.1
    have h2 := all_le xs h'.2
    have p : piled (PyData.shownAll (x :: xs)) = x.shown.length + 2 + piled (PyData.shownAll xs) := by simp [PyData.shownAll, piled, Nat.add_comm, Nat.add_left_comm]
    rw [p]
    show _ ≤ wt x + 2 + wtAll xs
    omega
theorem kv_le : ∀ kvs : List (PyData × PyData), PyData.showableKv kvs = true → piled (PyData.shownKv kvs) ≤ wtKv kvs
  | [], _ => Nat.le_refl _
  | (k, v) :: r, h => by
    have h' : (k.showable && v.showable) = true ∧ PyData.showableKv r = true := Bool.and_eq_true_iff.mp h
    have h'' : k.showable = true ∧ v.showable = true := Bool.and_eq_true_iff.mp h'.1
    have h1 := shown_le k h''.1
    have h2 := shown_le v h''.2
    have h3 := kv_le r h'.2
    have p : piled (PyData.shownKv ((k, v) :: r)) = (k.shown ++ ": " ++ v.shown).length + 2 + piled (PyData.shownKv r) := by simp [PyData.shownKv, piled, Nat.add_comm, Nat.add_left_comm]
    rw [p, strLen_append, strLen_append]
    have e1 : ((": " : String) : Str).length = 2 := rfl
    rw [e1]
    show _ ≤ wt k + wt v + 4 + wtKv r
    omega
end
end L2.Xv
end
section
/-! A call C(.., f = v) of an own exception class over ValueError: its maker lets the keywords by, its own __init__ is handed them. -/
namespace Xv
open PySem PySem.W PySem.Calls PyProof.Rows PySem.HandSPX
/-- the class object that is meant, behind names of its parts -/
structure Kls where
  nm : Str
  qn : Str
  ns : Addr
  bases : List Value
  tail : List Value
  sn : List Str
  sub : List Value
  ab : Bool
  col : Option Bool
  dd : Option Addr
  s0 : Option Value
  s1 : Option Value
  s2 : Option Value
  s3 : Option Value
  s5 : Option Value
abbrev Kls.obj (k : Kls) (C : Addr) : Obj := excClassObj k.nm k.qn C k.ns k.bases k.tail true k.sn k.sub k.ab k.col k.dd k.s0 k.s1 k.s2 k.s3 k.s5 "ValueError.__new__"
/-- what its mro holds of the built-in classes -/
theorem Kls.holds {k : Kls} (hk : refsVE k.tail = true) (C : Addr) (T : String) : (Value.ref C :: k.tail).contains (.type T) = veTail.contains (.type T) := by
  rw [List.contains_cons, refsVE_contains T _ hk]
  rfl
/-- the fresh exception, and what was there -/
abbrev newHeap (h : Heap) (C : Addr) (us : List Value) : Heap := (h.push (kdv_tup us)).push (excO C h.objs.size)
theorem newHeap_keeps {h : Heap} {C : Addr} {us : List Value} (b : Addr) (o : Obj) (e : h.get? b = some o) : (newHeap h C us).get? b = some o := Heap.get?_push_of_some _ (Heap.get?_push_of_some _ e)
theorem newHeap_at {h : Heap} {C : Addr} {us : List Value} : (newHeap h C us).get? (h.objs.size + 1) = some (excO C h.objs.size) := by
  unfold newHeap
  heap_get
section
variable {M : Model} {prog : Program} {w : World} {A : Around} {E : Value → Shared → Prop} {R : Result → Shared → Prop} {C : Addr} {k : Kls} {us : List Value} {kw : List (Str × Value)} {s : Shared}
/-- the maker's own check -/
theorem kw_check {Q : Unit → Shared → Prop} (hk : refsVE k.tail = true) (hC : s.heap.get? C = some (k.obj C)) (q : Q () s) : wpAny M A (checkBuiltinCall "ValueError.__new__" ⟨.ref C :: us, kw⟩) Q E s := by
  obtain ⟨hp, g, d, t, os⟩ := s
  have B := F.excBase_ValueError
  have n := B.noStar
  have inB := (Kls.holds hk C "ValueError").trans B.hasB
  simp only [checkBuiltinCall, B.newKind, B.newSplit, B.newRow]
  repeat (first | refine wpAny_staticBase_exc hC ?_ | refine wpAny_madeBy_exc hC ?_ | (refine wpAny_isSubtype_exc hC ?_; rw [inB]) | refine wpAny_loadPart_at hC ?_ | simp only [bne_self_eq_false, if_false, Bool.false_eq_true] | wp_step)
  exact q
/-- the maker makes a bare exception that holds the positional arguments -/
theorem kw_new (hk : refsVE k.tail = true) (hC : s.heap.get? C = some (k.obj C)) (hl : us.length ≤ sizeLine) (q : R (.ok (.ret (.ref (s.heap.objs.size + 1)))) { s with heap := newHeap s.heap C us }) :
    codeAny (model prog w) A (.builtin "ValueError.__new__" ⟨.ref C :: us, kw⟩) R s := by
  obtain ⟨hp, g, d, t, os⟩ := s
  have B := F.excBase_ValueError
  have ends := B.ends
  have no : ∀ {T : String} {b : Bool}, veTail.contains (.type T) = b → (Value.ref C :: k.tail).contains (.type T) = b := fun {T b} e => (Kls.holds hk C T).trans e
  have inB := no B.hasB
  have outA := no B.noAttr
  have outN := no B.noName
  refine codeAny_builtinAt B.entry ?_
  unfold Builtin.«BaseException.__new__»
  refine PySem.wpAt_bind ?_
  show PySem.wpAt _ _ _ (stack >>= _) _ _ _
  refine PySem.wpAt_bind (PySem.wpAt_stack fun _ _ => PySem.wpAt_of_wpAny ?_)
  wp_walk
  refine PySem.wpAt_of_wpAny ?_
  rw [B.owner]
  repeat (first | with_reducible refine wpAny_loadPart_at hC ?_ | with_reducible refine wpAny_madeHere_exc B.canon hC ?_ | (with_reducible refine wpAny_isSubtype_exc hC ?_; first | rw [outA] | rw [outN] | rw [inB]) | wp_step)
  show R _ _
  rw [Heap.size_push]
  exact q
/-- type.__call__ lets any arguments of such a class by -/
theorem kw_tc {Q : Unit → Shared → Prop} (hC : s.heap.get? C = some (k.obj C)) (q : Q () s) : wpAny M A (checkBuiltinCall "type.__call__" ⟨.ref C :: us, kw⟩) Q E s := by
  obtain ⟨hp, g, d, t, os⟩ := s
  have sub := tc_sub
  have ty : (⟨hp, g, d, t, os⟩ : Shared).TypeIs (.ref C) "type" := ⟨_, hC, rfl⟩
  simp only [checkBuiltinCall, tc_split, tc_kind]
  repeat (any_goals (first | assumption | with_reducible refine wpAny_map ?_ | with_reducible refine wpAny_onRaise ?_ | with_reducible refine wpAny_loadPart_at hC ?_ | wp_step))
/-- type.__call__: the maker, then the own __init__ at the new exception -/
theorem kw_type {fI : Addr} {Q : Fin → Shared → Prop} (hk : refsVE k.tail = true) (hC : s.heap.get? C = some (k.obj C)) (hi : Looks (model prog w) s.heap (typeLookup (.ref C) "__init__") (some (.ref fI))) (hb : ∀ v, Looks (model prog w) s.heap (bindSpecial (.ref fI) v) (.ref fI, [v])) (hl : us.length ≤ sizeLine)
    (q : codeAny (model prog w) A (.call (.ref fI) ⟨.ref (s.heap.objs.size + 1) :: us, kw⟩) (fun r s' => (∃ e, r = .error e ∧ E e s') ∨ (r = .ok (.ret .none) ∧ Q (.done (.ret (.ref (s.heap.objs.size + 1)))) s')) { s with heap := newHeap s.heap C us }) :
    wpAny (model prog w) A (Builtin.«type.__call__» ⟨.ref C :: us, kw⟩) Q E s := by
  obtain ⟨hp, g, d, t, os⟩ := s
  repeat (first | with_reducible refine wpAny_madeBy_exc hC ?_ | with_reducible refine wpAny_loadPart_at hC ?_ | wp_step)
  refine codeAny_call_builtin_code (Code.quiet_builtin _ F.excBase_ValueError.quiet) (kw_check hk hC (kw_new hk hC hl ?_))
  show wpAny _ _ _ _ _ _
  have hC' := newHeap_keeps (C := C) (us := us) _ _ hC
  have me : (Value.ref C :: k.tail).contains (.ref C) = true := by simp
  unfold isInstance
  repeat (first | with_reducible refine wpAny_loadPart_at newHeap_at ?_ | (with_reducible refine wpAny_isSubtype_exc hC' ?_; rw [me]) | wp_step)
  show wpAny _ _ (typeLookup (.ref C) _) _ _ _
  refine (hi.keeps newHeap_keeps).at (wpAny_holding (wpAny_bind (((hb _).keeps newHeap_keeps).at (wpAny_bind (wpAny_call (codeAny_mono q ?_))))))
  rintro r s' (⟨e, rfl, z⟩ | ⟨rfl, z⟩)
  · exact z
  · first
      | exact wpAny_pure (wpAny_pure z)
      | (wp_walk; exact z)
/-- the whole call, up to the own __init__ -/
theorem call_kw {fI : Addr} (hk : refsVE k.tail = true) (hC : s.heap.get? C = some (k.obj C)) (hi : Looks (model prog w) s.heap (typeLookup (.ref C) "__init__") (some (.ref fI))) (hb : ∀ v, Looks (model prog w) s.heap (bindSpecial (.ref fI) v) (.ref fI, [v])) (hl : us.length ≤ sizeLine)
    (q : codeAny (model prog w) (A.under (.builtin "type.__call__" ⟨.ref C :: us, kw⟩)) (.call (.ref fI) ⟨.ref (s.heap.objs.size + 1) :: us, kw⟩) (fun r s' => (∃ e, r = .error e ∧ R (.error e) s') ∨ (r = .ok (.ret .none) ∧ R (.ok (.ret (.ref (s.heap.objs.size + 1)))) s')) { s with heap := newHeap s.heap C us }) :
    codeAny (model prog w) A (.call (.ref C) ⟨us, kw⟩) R s := by
  obtain ⟨hp, g, d, t, os⟩ := s
  have c1 := tc_lookup
  have c2 := tc_bind (.ref C)
  have ty : (⟨hp, g, d, t, os⟩ : Shared).TypeIs (.ref C) "type" := ⟨_, hC, rfl⟩
  refine codeAny_of_tree ?_
  show wpAny _ _ (callAny (.ref C) _) _ _ _
  repeat (any_goals (first | assumption | with_reducible refine wpAny_loadPart_at hC ?_ | wp_step))
  exact ⟨rfl, codeAny_call_builtin_at (Code.quiet_builtin _ (by decide +kernel)) entry_typeCall (kw_tc hC (kw_type hk hC hi hb hl (codeAny_mono q fun r s' z => z)))⟩
end
end Xv
end
section
/-! Own exceptions (over ValueError, an __init__ of one field) as values. -/
namespace L2.Xv
open PySem PySem.Spec PyProof.Rows
/-- at a stands an exception of the class at C, its field f is v -/
def ErrAt (H : Hp) (a C : Addr) (f : Str) (v : V) : Prop := ∃ d, H a = some (exo a C (some d)) ∧ H d = some (exd d [(f, v)])
theorem ErrAt.same {H H' : Hp} {a C : Addr} {f : Str} {v : V} (h : ErrAt H a C f v) (s : Same H H') : ErrAt H' a C f v := by
  obtain ⟨d, h1, h2⟩ := h
  exact ⟨d, s _ _ h1, s _ _ h2⟩
/-- what such a class's __init__ does -/
def spIn (C : Addr) (f : Str) : Sp := fun vs H Q _ => ∃ (a : Addr) (y : V), vs = [.ref a, y] ∧ H a = some (exo a C none) ∧ ∀ dx, H dx = none → dx ≠ a → Q .non (upd (upd H dx (exd dx [(f, y)])) a (exo a C (some dx)))
/-- what is known of such a class -/
structure XCls (K : PySem.W.Frag) (C : Addr) : Prop where
  ox : OexC K C
  ga : PySem.W.findIn K (.ref C) "__getattribute__" = some (some (.builtin "BaseException.__getattribute__"))
  gt : PySem.W.findIn K (.ref C) "__getattr__" = some none
  hd : PySem.W.hasDictIn K C = true
  cl : PySem.W.findIn K (.ref C) "__class__" = some (some (.builtin "object.__class__"))
  ob : PySem.W.mroIn K C (.type "object") = some true
/-- and what is known whatever the class -/
structure XAll (K : PySem.W.Frag) : Prop where
  hn : PySem.W.specialIn K (.builtin "object.__class__") "__get__" = some (some (.builtin "getset_descriptor.__get__"))
  ht : PySem.W.takesIn K (.builtin "object.__class__") = some true
section
variable {X : Cx} {pins : List (Addr × Obj)} {σ : St} {H : Hp} {s : Shared}
theorem make_x {C fI : Addr} {k : Nat} {fd : FuncData} {ps : List Str} {f : Str} {Q : VK} {us ws : List Value} {kw : List (Str × Value)} {y : V} {u : Value}
    (T : OexC X.K C) (iC : PySem.W.findIn X.K (.ref C) "__init__" = some (some (.ref fI))) (tI : PySem.W.typeIn X.K (.ref fI) = some (.type "function"))
    (F1 : FnOk X.prog X.w X.K X.mg X.base CX0 k fI fd ps (spIn C f)) (hr : Room (k + 1) X.A) (I : Inv X pins σ H s) (hus : us.length ≤ sizeLine) (ry : RelV y u)
    (hb : ∀ (self : Value) (s' : Shared), X.K.In s'.heap → BindsTo s' fd ⟨self :: us, kw⟩ (ps.zip [self, u]))
    (h : ∀ a H2, H a = none → Same H H2 → ErrAt H2 a C f y → Q (.ref a) H2) : wpAny (model X.prog X.w) X.A (call (.ref C) us kw) (EP X pins σ Q) X.xe s := by
  obtain ⟨nm, q, N, bs, bm, sn, sub, ab, col, dd, k0, k1, k2, k3, k5, hC, hbm⟩ := T.cls
  obtain ⟨hp, g, dr, tk, os⟩ := s
  have hsz : hp.objs.size ≤ hp.objs.size + 1 := Nat.le_succ _
  have hn : H (hp.objs.size + 1) = none := I.hok.fresh hsz
  have kk : ∀ b o, hp.get? b = some o → ((hp.push (PySem.W.kdv_tup us)).push (PySem.HandSPX.excO C hp.objs.size)).get? b = some o := fun b o e => Heap.get?_push_of_some _ (Heap.get?_push_of_some _ e)
  have hget : ((hp.push (PySem.W.kdv_tup us)).push (PySem.HandSPX.excO C hp.objs.size)).get? (hp.objs.size + 1) = some (PySem.HandSPX.excO C hp.objs.size) := by heap_get
  have I2 : Inv X pins σ (upd H (hp.objs.size + 1) (exo (hp.objs.size + 1) C none)) ⟨(hp.push (PySem.W.kdv_tup us)).push (PySem.HandSPX.excO C hp.objs.size), g, dr, tk, os⟩ :=
    I.laid (t' := tk) (a := hp.objs.size + 1) (o := exo (hp.objs.size + 1) C none) (h' := (hp.push (PySem.W.kdv_tup us)).push (PySem.HandSPX.excO C hp.objs.size)) kk hsz (exo_ok hget)
  have r2 : Vals [V.ref (hp.objs.size + 1), y] [Value.ref (hp.objs.size + 1), u] := .cons rfl (.cons ry .nil)
  have hq : spIn C f [V.ref (hp.objs.size + 1), y] (upd H (hp.objs.size + 1) (exo (hp.objs.size + 1) C none)) (fun v H2 => v = .non ∧ Q (.ref (hp.objs.size + 1)) H2) (fun _ _ _ => False) := by
    refine ⟨_, y, rfl, upd_same, fun dx hdx ne => ⟨rfl, h _ _ hn (fun b o e => ?_) ⟨dx, upd_same, ?_⟩⟩⟩
    · have nb : b ≠ hp.objs.size + 1 := ne_of_none e hn
      have nd : b ≠ dx := by
        intro z
        rw [z] at e
        rw [upd_ne ne, e] at hdx
        cases hdx
      rw [upd_ne nb, upd_ne nd, upd_ne nb]
      exact e
    · rw [upd_ne ne, upd_same]
  refine wpAny_call (_root_.Xv.call_kw (k := ⟨nm, q, N, bs, bm, sn, sub, ab, col, dd, k0, k1, k2, k3, k5⟩) hbm (I.kIn _ _ hC) (PySem.W.looks_findIn I.kIn iC) (fun self => PySem.W.bind_fn I.kIn self tI) hus
    (codeAny_mono (F1.run _ X.stack _ _ ⟨Value.ref (hp.objs.size + 1) :: us, kw⟩ [Value.ref (hp.objs.size + 1), u] _ _ (fun _ _ _ => False) (hr.make C us kw) (I2.env0.make C us kw) (hb _ _ I2.kIn) r2 hq) fun r s' hq' => ?_))
  cases r with
  | error er => exact hq'.elim
  | ok fl =>
    cases fl with
    | ret w =>
      obtain ⟨v, H', I3, rv, ev, q3⟩ := I2.after hq'
      subst ev
      obtain rfl : w = Value.none := rv
      exact .inr ⟨rfl, ⟨V.ref (hp.objs.size + 1), H', I3, rfl, q3⟩⟩
    | next => exact False.elim hq'
    | brk => exact False.elim hq'
    | cont => exact False.elim hq'
/-- the object behind ErrAt -/
theorem err_get {C a : Addr} {f : Str} {v : V} (I : Inv X pins σ H s) (e : ErrAt H a C f v) : ∃ (ox od : Obj) (d : Addr) (mA : Str → Option Value), PySem.W.InstAt s.heap a ox C (some od) ∧ s.heap.Ns1 d mA ∧ s.heap.get? d = some od ∧ (∀ g, RelO (([(f, v)] : List (Str × V)).lookup g) (mA g)) := by
  obtain ⟨d, h1, h2⟩ := e
  obtain ⟨t1, ho⟩ := exo_at I.hok h1
  obtain ⟨mA, hns, rel⟩ := exd_at I.hok h2
  obtain ⟨od, es, ep, e1, r⟩ := id hns
  exact ⟨_, od, d, mA, ⟨ho, rfl, rfl, e1⟩, hns, e1, rel⟩
end
/-! ### readings and rules -/
/-- C(e): a new error that holds what e gives -/
def tX1 (C : Addr) (f : Str) (te : TE) : TE := fun σ H Q => te σ H fun y H1 => ∀ a H2, H1 a = none → Same H1 H2 → ErrAt H2 a C f y → Q (.ref a) H2
/-- C() -/
def tX0 (C : Addr) (f : Str) : TE := fun σ H Q => ∀ a H2, H a = none → Same H H2 → ErrAt H2 a C f .non → Q (.ref a) H2
/-- e.f -/
def tXf (K : PySem.W.Frag) (f : Str) (te : TE) : TE := fun σ H Q => te σ H fun x H1 => ∃ (a C : Addr) (v : V), x = .ref a ∧ XCls K C ∧ PySem.W.findIn K (.ref C) f = some none ∧ ErrAt H1 a C f v ∧ Q v H1
section
variable {X : Cx} {C fI : Addr} {k : Nat} {fd : FuncData} {ps : List Str} {f x : Str} {e : Expr} {te : TE} {p pos kp : Pos}
theorem pe_x1 (T : OexC X.K C) (iC : PySem.W.findIn X.K (.ref C) "__init__" = some (some (.ref fI))) (tI : PySem.W.typeIn X.K (.ref fI) = some (.type "function"))
    (F1 : FnOk X.prog X.w X.K X.mg X.base CX0 k fI fd ps (spIn C f)) (hr : Room (k + 1) X.A) (hb : ∀ (self u : Value) (s' : Shared), X.K.In s'.heap → BindsTo s' fd ⟨[self, u], []⟩ (ps.zip [self, u]))
    (hg : Gl X x) (hm : X.mg x = some (.ref C)) (he : PE X e te) (hdb : (x == ("__debug__" : Str)) = false := by decide) (hs : starEach [e] X.env = (false, eval e X.env) :: starEach [] X.env := by rfl) :
    PE X (.Call (.Name x p) [e] [] pos) (tX1 C f te) := by
  refine ⟨fun pins s σ H Q I h => ?_⟩
  refine wpAny_Call_Name_kw (ld_glob I hg hm ?_ hdb)
  refine PySem.W.callWith_K (h₀ := X.base) I.ok.mod.kin T.kC ?_ hs (by rfl)
  rw [hs]
  show wpAny _ _ (spliced ((false, eval e X.env) :: backTo pos (starEach [] X.env))) _ _ s
  refine PySem.Calls.spliced_cons (thn (he.run pins s σ H _ I h) fun u s1 ⟨v, H1, I1, r1, q1⟩ => ?_)
  refine PySem.Calls.spliced_nil ⟨I1.kIn, ?_⟩
  exact make_x (ws := []) T iC tI F1 hr I1 (by show 1 ≤ sizeLine; rw [sizeLine_eq]; decide) r1 (fun self s' K' => hb self u s' K') fun a H2 n sm er => q1 a H2 n sm er
theorem pe_x0 (T : OexC X.K C) (iC : PySem.W.findIn X.K (.ref C) "__init__" = some (some (.ref fI))) (tI : PySem.W.typeIn X.K (.ref fI) = some (.type "function"))
    (F1 : FnOk X.prog X.w X.K X.mg X.base CX0 k fI fd ps (spIn C f)) (hr : Room (k + 1) X.A) (hb : ∀ (self : Value) (s' : Shared), X.K.In s'.heap → BindsTo s' fd ⟨[self], []⟩ (ps.zip [self, .none]))
    (hg : Gl X x) (hm : X.mg x = some (.ref C)) (hdb : (x == ("__debug__" : Str)) = false := by decide) : PE X (.Call (.Name x p) [] [] pos) (tX0 C f) := by
  refine ⟨fun pins s σ H Q I h => ?_⟩
  refine wpAny_Call_Name_kw (ld_glob I hg hm ?_ hdb)
  refine PySem.W.callWith_K0 I.kIn T.kC ?_
  exact make_x (us := []) (ws := []) (y := .non) (u := .none) T iC tI F1 hr I (Nat.zero_le _) rfl (fun self s' K' => hb self s' K') fun a H2 n sm er => h a H2 n sm er
theorem pe_xk (T : OexC X.K C) (iC : PySem.W.findIn X.K (.ref C) "__init__" = some (some (.ref fI))) (tI : PySem.W.typeIn X.K (.ref fI) = some (.type "function"))
    (F1 : FnOk X.prog X.w X.K X.mg X.base CX0 k fI fd ps (spIn C f)) (hr : Room (k + 1) X.A) (hb : ∀ (self u : Value) (s' : Shared), X.K.In s'.heap → BindsTo s' fd ⟨[self], [(f, u)]⟩ (ps.zip [self, u]))
    (hg : Gl X x) (hm : X.mg x = some (.ref C)) (he : PE X e te) (hdb : (x == ("__debug__" : Str)) = false := by decide) :
    PE X (.Call (.Name x p) [] [⟨some f, e, kp⟩] pos) (tX1 C f te) := by
  refine ⟨fun pins s σ H Q I h => ?_⟩
  refine wpAny_Call_Name_kw (ld_glob I hg hm ?_ hdb)
  refine PySem.W.callWith_KW0 (h₀ := X.base) I.ok.mod.kin T.kC (by rfl) ?_ (by rfl)
  show wpAny _ _ (evalAll ((do let v ← eval e X.env; standAt pos; pure v) :: (backToKw pos (keywordEach [] X.env)).map (·.2))) _ _ s
  refine wpAny_evalAll_cons (wpAny_bind (thn (he.run pins s σ H _ I h) fun u s1 ⟨v, H1, I1, r1, q1⟩ => wpAny_bind (wpAny_standAt (wpAny_pure ?_))))
  refine wpAny_evalAll_nil ⟨I1.kIn, ?_⟩
  exact make_x (us := []) (ws := []) T iC tI F1 hr I1 (Nat.zero_le _) r1 (fun self s' K' => hb self u s' K') fun a H2 n sm er => q1 a H2 n sm er
theorem pe_xf (he : PE X e te) (hb : attributeBase e f X.env (eval e X.env) = eval e X.env := by rfl) : PE X (.Attribute e f pos) (tXf X.K f te) := by
  refine ⟨fun pins s σ H Q I h => ?_⟩
  refine attr_of hb (thn (he.run pins s σ H _ I h) fun u s1 hh => ?_)
  obtain ⟨x, H1, I1, rx, a, C, v, ex, T, hno, er, q⟩ := hh
  subst ex
  obtain rfl : u = Value.ref a := rx
  obtain ⟨ox, od, d, mA, J, hns, hod, rel⟩ := err_get I1 er
  obtain ⟨od', ho', hl⟩ := lookIn_ns hns
  have eo : od' = od := by
    rw [hod] at ho'
    exact (Option.some.inj ho').symm
  subst eo
  have l : List.lookup f [(f, v)] = some v := by simp [List.lookup]
  obtain ⟨u, hu, ru⟩ := RelO.some_of (v := v) (o := mA f) (by rw [← l]; exact rel f)
  exact PySem.HandSPX.exc_get I1.kIn J T.ga T.gt T.ox.exC (PySem.W.findObj_own T.hd hno rfl (by rw [hl, hu])) (handed_of ru) ⟨v, H1, I1.tok _, ru, q⟩
end
/-- isinstance(e, c), e an error at a -/
def rIsX (K : PySem.W.Frag) : List V → Hp → VK → Prop := fun xs H Q => ∃ (a C : Addr) (c : V) (u : Value) (b : Bool), xs = [.ref a, c] ∧ ClsV c u ∧ XCls K C ∧ ((∃ f v, ErrAt H a C f v) ∨ H a = some (exo a C none)) ∧ PySem.W.kitOne K (.ref C) u = some b ∧ Q (.bl b) H
theorem call_isX {X : Cx} (T : XAll X.K) : CallR X (.builtin "isinstance") (rIsX X.K) := by
  intro pins s σ H xs us Q I r h
  obtain ⟨a, C, c, u, b, rfl, k, D, er, e, q⟩ := h
  obtain ⟨u1, u2, rfl, r1, r2⟩ := vals2 r
  have e2 := k.eq r2
  subst e2
  obtain rfl : u1 = Value.ref a := r1
  have hcl : (PySem.W.clsIn X.K C).isSome = true := by
    obtain ⟨cd, hc, _⟩ := PySem.W.any_some D.hd
    rw [hc]
    rfl
  obtain ⟨ox, od, J⟩ : ∃ (ox : Obj) (od : Option Obj), PySem.W.InstAt s.heap a ox C od := by
    rcases er with ⟨f, v, er⟩ | er
    · obtain ⟨ox, od, _, _, J, _⟩ := err_get I er
      exact ⟨ox, some od, J⟩
    · obtain ⟨t1, ho⟩ := exo_at I.hok er
      exact ⟨_, none, ho, rfl, rfl, trivial⟩
  exact PySem.W.kia_one (PySem.W.kitx_exc hcl D.ga D.gt D.ox.exC D.cl T.hn T.ht D.ob) I.kIn J e (fun z => nomatch z) fun tk => ⟨.bl b, H, I.tok tk, rfl, q⟩
end L2.Xv
namespace L2.Xv
open PySem PySem.Spec PyProof.Rows
section
variable {X : Cx} {C : Addr} {x : Str} {p pos : Pos} {bmB : List Value} {B newId initId : String}
/-- C(), C without an __init__ of its own -/
theorem pe_x00 (F : ExcBaseFacts B newId initId bmB) (q : PySem.W.excIn X.K C bmB newId = true) (kC : PySem.W.keepIn X.K (.ref C) = true) (hg : Gl X x) (hm : X.mg x = some (.ref C)) (hdb : (x == ("__debug__" : Str)) = false := by decide) :
    PE X (.Call (.Name x p) [] [] pos) (fun _ H Q => ∀ a, H a = none → Q (.ref a) (upd H a (exo a C none))) := by
  refine ⟨fun pins s σ H Q I h => wpAny_Call_Name_kw (ld_glob I hg hm (PySem.W.callWith_K0 I.kIn kC ?_) hdb)⟩
  obtain ⟨bm, N, nm, qn, bs, hdct, sn, sub, ab, col, dd, k0, k1, k2, k3, k5, mN, hC, hN, hni, T⟩ := exc_obj I.kIn q
  refine wpAny_call_exc_subT F T hC hN hni (fun h' a hm => ?_) (Nat.zero_le _)
  have hn : H a = none := I.hok.gone hm.new
  obtain ⟨t, ht, _, _⟩ := hm.there
  exact ⟨.ref a, upd H a (exo a C none), I.laidN hm.keeps hm.new hn (exo_ok ht), rfl, h a hn⟩
end
end L2.Xv
end
section
/-! Exceptions that were caught, as values. -/
namespace L2.Xv
open PySem PySem.Spec PyProof.Rows
/-- at a: an exception of the class cls that was caught -/
def exc2 (a : Addr) (cls : Value) (d : Option Addr) : HO := .ext fun h => ∃ (ox : Obj) (vs : Array Value), h.get? a = some ox ∧ ox.cls = cls ∧ ox.dict = d ∧ ox.data = .fields vs
theorem exc2_ok {P : Program} {w : World} {H : Hp} {h : Heap} {a : Addr} {cls : Value} {d : Option Addr} {ox : Obj} {vs : Array Value} (e : h.get? a = some ox) (h1 : ox.cls = cls) (h2 : ox.dict = d) (h3 : ox.data = .fields vs) : ObjOk P w H h a (exc2 a cls d) :=
  ⟨⟨ox, vs, e, h1, h2, h3⟩, ⟨_, e⟩, fun g1 g2 z k => by
    obtain ⟨o2, v2, e2, r⟩ := z
    exact ⟨o2, v2, k _ e2, r⟩⟩
theorem exc2_at {P : Program} {w : World} {H : Hp} {h : Heap} {a : Addr} {cls : Value} {d : Option Addr} (hok : HOk P w H h) (e : H a = some (exc2 a cls d)) : ∃ (ox : Obj) (vs : Array Value), h.get? a = some ox ∧ ox.cls = cls ∧ ox.dict = d ∧ ox.data = .fields vs := by
  have x : ObjOk P w H h a (.ext fun h => ∃ (ox : Obj) (vs : Array Value), h.get? a = some ox ∧ ox.cls = cls ∧ ox.dict = d ∧ ox.data = .fields vs) := hok a _ e
  exact x.1
/-- an error of the class at C, made or caught, its field f is v -/
def ErrV (H : Hp) (a C : Addr) (f : Str) (v : V) : Prop := ErrAt H a C f v ∨ ∃ d, H a = some (exc2 a (.ref C) (some d)) ∧ H d = some (.xd [(f, v)])
theorem ErrV.same {H H' : Hp} {a C : Addr} {f : Str} {v : V} (h : ErrV H a C f v) (s : Same H H') : ErrV H' a C f v := by
  rcases h with h | ⟨d, h1, h2⟩
  · exact .inl (h.same s)
  · exact .inr ⟨d, s _ _ h1, s _ _ h2⟩
section
variable {X : Cx} {pins : List (Addr × Obj)} {σ : St} {H : Hp} {s : Shared}
theorem errV_get {C a : Addr} {f : Str} {v : V} (I : Inv X pins σ H s) (e : ErrV H a C f v) : ∃ (ox od : Obj) (d : Addr) (mA : Str → Option Value), PySem.W.InstAt s.heap a ox C (some od) ∧ s.heap.Ns1 d mA ∧ s.heap.get? d = some od ∧ (∀ g, RelO (([(f, v)] : List (Str × V)).lookup g) (mA g)) ∧ ox.dict = some d := by
  rcases e with ⟨d, h1, h2⟩ | ⟨d, h1, h2⟩
  · obtain ⟨t1, ho⟩ := exo_at I.hok h1
    obtain ⟨mA, hns, rel⟩ := exd_at I.hok h2
    obtain ⟨od, es, ep, e1, r⟩ := id hns
    exact ⟨_, od, d, mA, ⟨ho, rfl, rfl, e1⟩, hns, e1, rel, rfl⟩
  · obtain ⟨ox, vs, e, c1, c2, c3⟩ := exc2_at I.hok h1
    obtain ⟨mA, hns, rel⟩ : ∃ mA, s.heap.Ns1 d mA ∧ ∀ g, RelO (([(f, v)] : List (Str × V)).lookup g) (mA g) := I.hok d _ h2
    obtain ⟨od, es, ep, e1, r⟩ := id hns
    exact ⟨ox, od, d, mA, ⟨e, c1, by unfold PySem.W.notCls; rw [c3], by rw [c2]; exact e1⟩, hns, e1, rel, c2⟩
/-- e.f, e made or caught -/
def tXf2 (K : PySem.W.Frag) (f : Str) (te : TE) : TE := fun σ H Q => te σ H fun x H1 => ∃ (a C : Addr) (v : V), x = .ref a ∧ XCls K C ∧ PySem.W.findIn K (.ref C) f = some none ∧ ErrV H1 a C f v ∧ Q v H1
theorem pe_xf2 {f : Str} {e : Expr} {te : TE} {pos : Pos} (he : PE X e te) (hb : attributeBase e f X.env (eval e X.env) = eval e X.env := by rfl) : PE X (.Attribute e f pos) (tXf2 X.K f te) := by
  refine ⟨fun pins s σ H Q I h => ?_⟩
  refine attr_of hb (thn (he.run pins s σ H _ I h) fun u s1 hh => ?_)
  obtain ⟨x, H1, I1, rx, a, C, v, ex, T, hno, er, q⟩ := hh
  subst ex
  obtain rfl : u = Value.ref a := rx
  obtain ⟨ox, od, d, mA, J, hns, hod, rel, hd⟩ := errV_get I1 er
  obtain ⟨od', ho', hl⟩ := lookIn_ns hns
  have eo : od' = od := by
    rw [hod] at ho'
    exact (Option.some.inj ho').symm
  subst eo
  have l : List.lookup f [(f, v)] = some v := by simp [List.lookup]
  obtain ⟨u, hu, ru⟩ := RelO.some_of (v := v) (o := mA f) (by rw [← l]; exact rel f)
  exact PySem.HandSPX.exc_get I1.kIn J T.ga T.gt T.ox.exC (PySem.W.findObj_own T.hd hno rfl (by rw [hl, hu])) (handed_of ru) ⟨v, H1, I1.tok _, ru, q⟩
/-- isinstance(e, c), e an error, made or caught -/
def rIsX2 (K : PySem.W.Frag) : List V → Hp → VK → Prop := fun xs H Q => ∃ (a C : Addr) (c : V) (u : Value) (b : Bool), xs = [.ref a, c] ∧ ClsV c u ∧ XCls K C ∧ (∃ f v, ErrV H a C f v) ∧ PySem.W.kitOne K (.ref C) u = some b ∧ Q (.bl b) H
theorem call_isX2 (T : XAll X.K) : CallR X (.builtin "isinstance") (rIsX2 X.K) := by
  intro pins s σ H xs us Q I r h
  obtain ⟨a, C, c, u, b, rfl, k, D, ⟨f, v, er⟩, e, q⟩ := h
  obtain ⟨u1, u2, rfl, r1, r2⟩ := vals2 r
  have e2 := k.eq r2
  subst e2
  obtain rfl : u1 = Value.ref a := r1
  have hcl : (PySem.W.clsIn X.K C).isSome = true := by
    obtain ⟨cd, hc, _⟩ := PySem.W.any_some D.hd
    rw [hc]
    rfl
  obtain ⟨ox, od, _, _, J, _⟩ := errV_get I er
  exact PySem.W.kia_one (PySem.W.kitx_exc hcl D.ga D.gt D.ox.exC D.cl T.hn T.ht D.ob) I.kIn J e (fun z => nomatch z) fun tk => ⟨.bl b, H, I.tok tk, rfl, q⟩
/-! ### try: body, except x as n: suite, the exception tracked -/
/-- a thing that stands in the heap is tracked -/
theorem trackX {a : Addr} {o : HO} (I : Inv X pins σ H s) (na : H a = none) (new : ObjOk X.prog X.w (upd H a o) s.heap a o) (n0 : X.s_0.heap.get? a = none) (nL : a ≠ X.env.locals) (nC : ∀ x c, X.env.cells.lookup x = some c → c ≠ a) (nP : ∀ p ∈ X.pn ++ pins, p.1 ≠ a) : Inv X pins σ (upd H a o) s := by
  have up : ∀ {b : Addr} {u : HO}, H b = some u → upd H a o b = some u := fun {b u} e => by rw [upd_ne (ne_of_none e na)]; exact e
  refine ⟨I.ok, I.os, I.bare, ⟨I.base.keep, I.base.slot, fun b u e n hx => ?_, I.base.there, fun b xs e => up (I.base.tups b xs e), fun b u v e => up (I.base.frzs b u v e), fun b ps e => ?_⟩, I.loc, I.cell, ?_, fun x c e => ?_, fun p hp => ?_, fun b u e => ?_, I.len⟩
  · have : b ≠ a := fun z => by rw [z, n0] at e; cases e
    rw [upd_ne this]
    exact I.base.free b u e n hx
  · obtain ⟨m, q⟩ := I.base.tbls b ps e
    exact ⟨m, up q⟩
  · rw [upd_ne (Ne.symm nL)]
    exact I.free
  · rw [upd_ne (nC x c e)]
    exact I.freeC x c e
  · obtain ⟨e, n, r⟩ := I.pin p hp
    exact ⟨e, by rw [upd_ne (nP p hp)]; exact n, r⟩
  · by_cases hb : b = a
    · subst hb
      rw [upd_same] at e
      cases e
      exact new
    · rw [upd_ne hb] at e
      exact (I.hok b u e).stay (fun _ _ _ q => q) (fun _ q => up q) fun _ _ q => up q
theorem suiteX {a : Addr} (I : Inv X pins σ H s) : Inv (X.suite a (X.pn ++ pins)) [] σ H s :=
  ⟨I.ok.suite _ _, I.os, I.bare, I.base, I.loc, I.cell, I.free, I.freeC, fun p hp => I.pin p (by rw [List.append_nil] at hp; exact hp), I.hok, I.len⟩
theorem unsuiteX {a : Addr} {pn' : List (Addr × Obj)} (I : Inv (X.suite a (X.pn ++ pins)) pn' σ H s) (ok : X.Ok) : Inv X pins σ H s :=
  ⟨ok, I.os, I.bare, I.base, I.loc, I.cell, I.free, I.freeC, fun p hp => I.pin p (List.mem_append_left _ hp), I.hok, I.len⟩
/-- what the clause wishes of an exception of the body -/
def wAs2 (K : PySem.W.Frag) (c : Value) (i : Nat) (ts : TS) (Wout : WX) (D : Ends) : WX := fun cls d σ H =>
  ∃ b, PySem.W.exmOne K cls c = some b ∧ (b = true → ∀ a, H a = none → ts { nx := fun σ' H' => D.nx (σ'.set i none) H', rt := D.rt, bk := fun σ' H' => D.bk (σ'.set i none) H', ct := fun σ' H' => D.ct (σ'.set i none) H' } (σ.set i (some (.ref a))) (upd H a (exc2 a cls d))) ∧
    (b = false → Wout cls d σ H)
section
variable {x n : Str} {c : Value} {i : Nat} {body suite : List Stmt} {b₀ : Stmt} {np pos pos' : Pos} {tb : WX → TS} {ts : TS} {Wout : WX}
theorem ps_try_as2 (hs : X.stack = X.env :: X.outer) (hf : X.env.frame = some X.env.locals) (hex : X.ex = []) (hN : X.N.Nodup) (hi : X.N[i]? = some n) (hln : X.env.kindOf n = some .local) (hc : Names X x c) (tk : Takes X Wout)
    (hb : ∀ (W : WX) (pn : List (Addr × Obj)) (xe : Value → Shared → Prop), Takes (X.tr pn xe) W → PassesOwn (model X.prog X.w) X.A X.env xe → PSs (X.tr pn xe) body (tb W))
    (hsu : ∀ (a : Addr) (pn : List (Addr × Obj)), PSs (X.suite a pn) (b₀ :: suite) ts) :
    PS X (.Try body [.ExceptHandler (some (.Name x np)) (some n) (b₀ :: suite) pos'] [] [] pos) (fun D σ H => tb (wAs2 X.K c i ts Wout D) D σ H) := by
  refine ⟨fun pins s σ H D I h => ?_⟩
  have ok := I.ok
  have hfr : X.A.frames = some (X.env :: X.outer) := by rw [ok.frames, hs]
  have hloc : Loc X.env.scope n := .inl hln
  refine wpAny_Try_except ?_
  refine wpAny_mono ((hb (wAs2 X.K c i ts Wout D) (X.pn ++ pins) (fun e s₁ => wpAny (model X.prog X.w) X.A (noteFrame e X.env) (fun _ s₂ => wpAny (model X.prog X.w) X.A (setFlight e none) (fun _ s₃ =>
    wpAny (model X.prog X.w) X.A (handleBy e X.env [.ExceptHandler (some (.Name x np)) (some n) (b₀ :: suite) pos']) (SP X pins D) X.xe s₃) X.xe s₂) X.xe s₁) (fun u s' xx => ?_) PassesOwn.looking).run [] s σ H D (I.toTry _) h) (fun f s1 hsp => ?_) (fun e s1 he => he)
  · obtain ⟨a, B, sI, pins', σ', H', cls, d, rfl, J', nb, up, sky, na, os, ag, b, hb1, hyes, hno⟩ := xx
    have J : Inv X pins σ' H' sI := J'.ofTry ok
    have sky' : Sky B (X.env :: X.outer) a (Zc cls d) X.env.locals s'.heap := by rw [← hs]; exact sky
    show wpAny (model X.prog X.w) X.A (noteFrame (.ref a) X.env) _ _ _
    refine Sky.land Zc.steady hfr hf sky' fun h3 fl3 up3 => ?_
    have J3 : Inv X pins σ' H' { s' with heap := h3 } := J.landed nb fl3.1 (up.trans up3) os ag
    obtain ⟨oe3, vs3, he3, hz3, hd3⟩ := fl3.there
    have notFr : ∀ {h : Heap} {o : Obj} {vs : Array Value}, h.FunFrames B (X.env :: X.outer) → h.get? a = some o → o.data = .fields vs → a ∉ frs (X.env :: X.outer) := fun {h o vs} ff e dd hm => by
      obtain ⟨_, o', e', hnf⟩ := ff.mem hm
      rw [e] at e'; cases e'
      exact hnf _ dd
    have nfr := notFr fl3.2.2.1 he3 hd3
    have nL : a ≠ X.env.locals := fun z => nfr (List.mem_filterMap.mpr ⟨X.env, List.mem_cons_self, by rw [hf, z]⟩)
    have nF : a ∉ X.fs := fun hm => by
      obtain ⟨e, he, q⟩ := List.mem_filterMap.mp hm
      exact nfr (List.mem_filterMap.mpr ⟨e, List.mem_cons_of_mem _ he, q⟩)
    have nI : sI.heap.get? a = none := by
      cases q : sI.heap.get? a with
      | none => rfl
      | some o =>
        have := nb a o q (by rw [hs]; exact nfr)
        rw [fl3.2.1] at this
        cases this
    have n0 : X.s_0.heap.get? a = none := by
      cases q : X.s_0.heap.get? a with
      | none => rfl
      | some o =>
        obtain ⟨o', q'⟩ := J.base.there a o q (by rw [hex]; exact List.not_mem_nil)
        rw [nI] at q'
        cases q'
    have nP : ∀ p ∈ X.pn ++ pins, p.1 ≠ a := fun p hp z => by
      have := (J.pin p hp).1
      rw [z, nI] at this
      cases this
    have S3 := J3.suite he3 hd3 na nL nF
    refine wpAny_handleBy_cons (codeAny_handlers_test ?_) (by intro q; cases q)
    have LT : PySem.W.Looks (model X.prog X.w) h3 (typeOf (.ref a)) cls := fun A Q E s k q => wpAny_typeOf_ref (k _ _ he3) (by rw [hz3.1]; exact q)
    have LM := PySem.W.exm_one (M := model X.prog X.w) (J3.kIn) LT hb1
    have test : ∀ {Q : Value → Shared → Prop} {E : Value → Shared → Prop}, Q c { s' with heap := h3 } → wpAny (model X.prog X.w) (X.A.mark (some (.ref a))) (eval (.Name x np) X.env) Q E { s' with heap := h3 } := fun {Q E} q => by
      obtain ⟨hg, hdbg, hm | ⟨hm, hv, hnn⟩⟩ := hc
      · exact ld_glob (X := X.suite a ((a, oe3) :: (X.pn ++ pins))) S3 hg hm q hdbg
      · exact ld_blt (X := X.suite a ((a, oe3) :: (X.pn ++ pins))) S3 hg hm hv q hnn hdbg
    refine test (LM.here ?_)
    cases b with
    | true =>
      refine codeAny_handlers_suite_as ?_
      refine HandSPX.lands_againZ fl3 fun h4 fl4 up4 => ?_
      have J4 : Inv X pins σ' H' { s' with heap := h4 } := J.landed nb fl4.1 ((up.trans up3).trans up4) os ag
      obtain ⟨oe4, vs4, he4, hz4, hd4⟩ := fl4.there
      have nC : ∀ y c, X.env.cells.lookup y = some c → c ≠ a := fun y c' e z => by
        obtain ⟨v, ob, e1, e2⟩ := J4.cell y c' e
        rw [z] at e1
        rw [show ({ s' with heap := h4 } : Shared).heap.get? a = some oe4 from he4] at e1
        cases e1
        rw [hd4] at e2
        cases e2
      have J5 := trackX J4 na (o := exc2 a cls d) (exc2_ok he4 hz4.1 hz4.2 hd4) n0 nL nC nP
      refine store_ok (X := X.suite a (X.pn ++ pins)) (v := .ref a) (suiteX (a := a) J5) hN hi hloc rfl (fun s5 S5 => ?_) (.inr hln)
      refine wpAny_mono ((hsu a (X.pn ++ pins)).run [] s5 _ _ _ S5 (hyes rfl a na)) (fun f s6 hsp => ?_) (fun _ _ z => False.elim z)
      have end_ : ∀ {σ6 : St} {H6 : Hp} {Q : Shared → Prop}, Inv (X.suite a (X.pn ++ pins)) [] σ6 H6 s6 → (∀ s7, Inv X pins (σ6.set i none) H6 s7 → Q s7) →
          wpAny (model X.prog X.w) X.A (do bindName X.env n .none; unbindBehindTheSuite X.env n pos') (fun _ s7 => Q s7) X.xe s6 := fun {σ6 H6 Q} S6 hq => gone_ok (unsuiteX S6 ok) hN hi hln hq
      cases f with
      | next =>
        obtain ⟨σ6, H6, S6, q6⟩ := hsp
        exact end_ S6 fun s7 J7 => ⟨_, _, J7, q6⟩
      | brk =>
        obtain ⟨σ6, H6, S6, q6⟩ := hsp
        exact end_ S6 fun s7 J7 => ⟨_, _, J7, q6⟩
      | cont =>
        obtain ⟨σ6, H6, S6, q6⟩ := hsp
        exact end_ S6 fun s7 J7 => ⟨_, _, J7, q6⟩
      | ret u =>
        obtain ⟨v6, σ6, H6, S6, r6, q6⟩ := hsp
        exact end_ S6 fun s7 J7 => ⟨_, _, _, J7, r6, q6⟩
    | false =>
      show wpAny _ X.A (handleBy (.ref a) X.env []) _ _ _
      refine wpAny_handleBy_nil ?_
      obtain ⟨k1, k2, k3, oe, vs, T, oT, ts', he, hz, hd, h1, hr⟩ := id fl3
      unfold PySem.passOn
      refine wpAny_bind (wpAny_field he hd h1 ?_)
      rw [if_neg (show ¬ ((Value.ref T == Value.none) = true) from by simp)]
      have fin : wpAny (model X.prog X.w) X.A (setFlight (.ref a) X.env.frame) (fun _ s4 => wpAny (model X.prog X.w) X.A (throw (.ref a) : Sem Flow) (SP X pins D) X.xe s4) X.xe { s' with heap := h3 } := by
        rw [hf]
        refine HandSPX.setFlight_upZ fl3 fun h4 hh4 up4 => wpAny_throw (tk _ _ ?_)
        exact ⟨a, B, sI, pins, σ', H', cls, d, rfl, J, nb, (up.trans up3).trans up4, .inr (.inr (by rw [hs]; exact hh4)), na, os, ag, hno rfl⟩
      first
        | exact wpAny_bind (wpAny_pure (wpAny_bind fin))
        | exact wpAny_bind fin
  · cases f with
    | next =>
      obtain ⟨σ', H', J', q⟩ := hsp
      exact wpAny_execs_nil ⟨σ', H', J'.ofTry ok, q⟩
    | brk =>
      obtain ⟨σ', H', J', q⟩ := hsp
      exact ⟨σ', H', J'.ofTry ok, q⟩
    | cont =>
      obtain ⟨σ', H', J', q⟩ := hsp
      exact ⟨σ', H', J'.ofTry ok, q⟩
    | ret u =>
      obtain ⟨v, σ', H', J', r, q⟩ := hsp
      exact ⟨v, σ', H', J'.ofTry ok, r, q⟩
end
end
end L2.Xv
end
section
/-! What the top leaves, read by one look: defs by names, and any checks of one's own over the written part. -/
namespace L2.Xv
open PySem PySem.Spec PyProof.Rows He
/-- the written part that is looked at: what the module's names reach, and where the interpreter's modules stand -/
def partG (n : Nat) (g : Addr → Option Obj) : PySem.W.Frag := frG g (sysModules :: asD g n)
def obsX (n : Nat) (ck : PySem.W.Frag → Bool) (fn : List DefD) (g : Addr → Option Obj) : Bool × AlD := (fun K => (ck K, obsD [] fn K)) (partG n g)
def hookX (n : Nat) (ck : PySem.W.Frag → Bool) (fn : List DefD) : PySem.W.Hook where
  α := Bool × AlD
  obs := fun s => obsX n ck fn s.heap.get?
  val := fun _ => (true, valD fn)
  says := fun _ h => ∃ K : PySem.W.Frag, K.In h ∧ ck K = true ∧ SaysD [] fn K
  of := fun _ _ e => ⟨_, frG_in, congrArg Prod.fst e, congrArg Prod.snd e⟩
  keeps := fun _ _ _ ⟨K, a, b, c⟩ k => ⟨K, PySem.W.Frag.In.keeps a k, b, c⟩
theorem obsX_eq {n : Nat} {ck : PySem.W.Frag → Bool} {fn : List DefD} {g : Addr → Option Obj} {s : Shared} (h : ∀ a, g a = s.heap.get? a) : obsX n ck fn g = (hookX n ck fn).obs s := by
  have e : g = s.heap.get? := funext h
  rw [e]
  rfl
/-! ### checks -/
def isO (a b : Option Bool) : Bool := match a, b with
  | some x, some y => x == y
  | _, _ => false
theorem isO_ok {a : Option Bool} {b : Bool} (h : isO a (some b) = true) : a = some b := by
  cases a with
  | none => cases h
  | some x =>
    have e : (x == b) = true := h
    rw [eq_of_beq e]
def isV (a : Option Value) (T : String) : Bool := match a with
  | some (.type t) => t == T
  | _ => false
theorem isV_ok {a : Option Value} {T : String} (h : isV a T = true) : a = some (.type T) := by
  unfold isV at h
  split at h
  · rw [eq_of_beq h]
  · cases h
def ooB (a : Option (Option Value)) (n : String) : Bool := match a with
  | some (some (.builtin m)) => m == n
  | _ => false
theorem ooB_ok {a : Option (Option Value)} {n : String} (h : ooB a n = true) : a = some (some (.builtin n)) := by
  unfold ooB at h
  split at h
  · rw [eq_of_beq h]
  · cases h
def ooN (a : Option (Option Value)) : Bool := match a with
  | some none => true
  | _ => false
theorem ooN_ok {a : Option (Option Value)} (h : ooN a = true) : a = some none := by
  unfold ooN at h
  split at h
  · rfl
  · cases h
def ooR (a : Option (Option Value)) (p : Addr) : Bool := match a with
  | some (some (.ref q)) => q == p
  | _ => false
theorem ooR_ok {a : Option (Option Value)} {p : Addr} (h : ooR a p = true) : a = some (some (.ref p)) := by
  unfold ooR at h
  split at h
  · rw [eq_of_beq h]
  · cases h
/-- the class object of an own exception -/
def excB (K : PySem.W.Frag) (C : Addr) : Bool := match K.lookup C with
  | some ⟨.type "type", _, .cls cd, sl⟩ => (match cd.mro, sl.toList with
    | .ref C' :: bm, [_, _, _, _, some (.builtin n), _] => C' == C && (n == "ValueError.__new__" && (!cd.hasDel && (cd.hasDict && PySem.HandSPX.refsVE bm)))
    | _, _ => false)
  | _ => false
theorem excB_ok {K : PySem.W.Frag} {C : Addr} (q : excB K C = true) : ∃ nm q N bs bm sn sub ab col dd k0 k1 k2 k3 k5, K.lookup C = some (excClassObj nm q C N bs bm true sn sub ab col dd k0 k1 k2 k3 k5 "ValueError.__new__") ∧ PySem.HandSPX.refsVE bm = true := by
  unfold excB at q
  split at q
  · rename_i dd cd sl ho
    split at q
    · rename_i C' bm k0 k1 k2 k3 n k5 hm hs
      simp only [Bool.and_eq_true, Bool.not_eq_true'] at q
      obtain ⟨e1, e2, e3, e4, e5⟩ := q
      have e1 := eq_of_beq e1
      have e2 := eq_of_beq e2
      subst e1 e2
      obtain ⟨nm, bs, mro, ns, qn, hd, sn, sub, ab, col, del⟩ := cd
      obtain ⟨l⟩ := sl
      dsimp only at hm hs e3 e4
      subst hm hs e3 e4
      exact ⟨nm, qn, ns, bs, bm, sn, sub, ab, col, dd, k0, k1, k2, k3, k5, ho, e5⟩
    · cases q
  · cases q
def xclsB (K : PySem.W.Frag) (C : Addr) : Bool := excB K C && (ooB (PySem.W.findIn K (.ref C) "__setattr__") "object.__setattr__" && (isO (PySem.W.subIn K (.ref C) (.type "BaseException")) (some true) && (isV (PySem.W.typeIn K (.ref C)) "type" && (PySem.W.keepIn K (.ref C) &&
  (ooB (PySem.W.findIn K (.ref C) "__getattribute__") "BaseException.__getattribute__" && (ooN (PySem.W.findIn K (.ref C) "__getattr__") && (PySem.W.hasDictIn K C && (ooB (PySem.W.findIn K (.ref C) "__class__") "object.__class__" && isO (PySem.W.mroIn K C (.type "object")) (some true)))))))))
theorem xclsB_ok {K : PySem.W.Frag} {C : Addr} (h : xclsB K C = true) : XCls K C := by
  obtain ⟨h1, h⟩ := ba h
  obtain ⟨h2, h⟩ := ba h
  obtain ⟨h3, h⟩ := ba h
  obtain ⟨h4, h⟩ := ba h
  obtain ⟨h5, h⟩ := ba h
  obtain ⟨h6, h⟩ := ba h
  obtain ⟨h7, h⟩ := ba h
  obtain ⟨h8, h⟩ := ba h
  obtain ⟨h9, h10⟩ := ba h
  exact ⟨⟨excB_ok h1, ooB_ok h2, isO_ok h3, isV_ok h4, h5⟩, ooB_ok h6, ooN_ok h7, h8, ooB_ok h9, isO_ok h10⟩
def xallB (K : PySem.W.Frag) : Bool := ooB (PySem.W.specialIn K (.builtin "object.__class__") "__get__") "getset_descriptor.__get__" && isO (PySem.W.takesIn K (.builtin "object.__class__")) (some true)
theorem xallB_ok {K : PySem.W.Frag} (h : xallB K = true) : XAll K := ⟨ooB_ok (ba h).1, isO_ok (ba h).2⟩
def sysB (K : PySem.W.Frag) : Bool := match K.lookup sysModules with
  | some o => (match o.cls with
    | .type t => !(t == "list")
    | _ => true)
  | none => false
theorem sysB_ok {K : PySem.W.Frag} (h : sysB K = true) : SysK K := by
  unfold sysB at h
  split at h
  · rename_i o e
    refine ⟨o, e, fun z => ?_⟩
    rw [z] at h
    simp at h
  · cases h
/-- the module's name x is an object -/
def gloB (K : PySem.W.Frag) (x : Str) : Bool := ooR (PySem.W.nsIn K mainGlobals x) (ga K x)
def freeB (K : PySem.W.Frag) (x : Str) : Bool := ooN (PySem.W.nsIn K mainGlobals x)
theorem gloB_ok {K : PySem.W.Frag} {h : Heap} {mg : Str → Option Value} (X : K.In h) (G : h.Ns mainGlobals mg) {x : Str} (c : gloB K x = true) : mg x = some (.ref (ga K x)) := PySem.W.mg_of X G (ooR_ok c)
theorem freeB_ok {K : PySem.W.Frag} {h : Heap} {mg : Str → Option Value} (X : K.In h) (G : h.Ns mainGlobals mg) {x : Str} (c : freeB K x = true) : mg x = none := PySem.W.mg_none_of X G (ooN_ok c)
/-- a class's own __init__ -/
def initB (K : PySem.W.Frag) (C : Addr) : Bool := ooR (PySem.W.findIn K (.ref C) "__init__") (ma K C "__init__") && isV (PySem.W.typeIn K (.ref (ma K C "__init__"))) "function"
end L2.Xv
end
section
/-! Values as trees, beside a store of what may still be changed. -/
namespace L2.Hy
open PySem PySem.Spec PyProof.Rows
/-- a value: what is settled, as a tree; h n: the n-th cell of the store -/
inductive D where
  | non | bl (b : Bool) | int (i : Int) | str (x : Str) | ty (n : String) | cls (x : Str) | nfn (x : Str)
  | tup (ds : List D) | lst (ds : List D) | dct (kvs : List (Key × D)) | obj (c : Str) (fs : List (Str × D)) | exc (c : Str) (f : Str) (d : D)
  | h (n : Nat) | scr (is : List Int)
/-- a cell: a list, a dict or an object that may be changed -/
inductive Cell where
  | cl (ds : List D) | cd (kvs : List (Key × D)) | ci (c : Str) (fs : List (Str × D))
abbrev Store := List (Option Cell)
mutual
/-- v is d: G tells what is settled, as where the cells stand -/
inductive RV (K : PySem.W.Frag) (G : Hp) (as : List Addr) : V → D → Prop
  | non : RV K G as .non .non
  | bl (b : Bool) : RV K G as (.bl b) (.bl b)
  | int (i : Int) : RV K G as (.int i) (.int i)
  | str (x : Str) : RV K G as (.str x) (.str x)
  | ty (n : String) : RV K G as (.ty n) (.ty n)
  | cls (x : Str) : RV K G as (.ref (He.ga K x)) (.cls x)
  | nfn (x : Str) : RV K G as (.ref (He.ga K x)) (.nfn x)
  | tup {a : Addr} {xs : List V} {ds : List D} : SqT K G a xs → RVs K G as xs ds → RV K G as (.ref a) (.tup ds)
  | lst {a : Addr} {xs : List V} {ds : List D} : G a = some (.lst xs) → RVs K G as xs ds → RV K G as (.ref a) (.lst ds)
  | scr {a : Addr} {is : List Int} : SqL K G a (is.map V.int) → RV K G as (.ref a) (.scr is)
  | dct {a : Addr} {kvs : List (Key × V)} {ds : List (Key × D)} : G a = some (.dK kvs) → RVk K G as kvs ds → RV K G as (.ref a) (.dct ds)
  | obj {a dx : Addr} {c : Str} {fs : List (Str × V)} {ds : List (Str × D)} : G a = some (.ins (He.ga K c) dx fs) → RVf K G as fs ds → RV K G as (.ref a) (.obj c ds)
  | exc {a : Addr} {c f : Str} {v : V} {d : D} : Xv.ErrV G a (He.ga K c) f v → RV K G as v d → RV K G as (.ref a) (.exc c f d)
  | h {a : Addr} (n : Nat) : as[n]? = some a → RV K G as (.ref a) (.h n)
inductive RVs (K : PySem.W.Frag) (G : Hp) (as : List Addr) : List V → List D → Prop
  | nil : RVs K G as [] []
  | cons {v : V} {vs : List V} {d : D} {ds : List D} : RV K G as v d → RVs K G as vs ds → RVs K G as (v :: vs) (d :: ds)
inductive RVk (K : PySem.W.Frag) (G : Hp) (as : List Addr) : List (Key × V) → List (Key × D) → Prop
  | nil : RVk K G as [] []
  | cons {k : Key} {v : V} {vs : List (Key × V)} {d : D} {ds : List (Key × D)} : RV K G as v d → RVk K G as vs ds → RVk K G as ((k, v) :: vs) ((k, d) :: ds)
inductive RVf (K : PySem.W.Frag) (G : Hp) (as : List Addr) : List (Str × V) → List (Str × D) → Prop
  | nil : RVf K G as [] []
  | cons {k : Str} {v : V} {vs : List (Str × V)} {d : D} {ds : List (Str × D)} : RV K G as v d → RVf K G as vs ds → RVf K G as ((k, v) :: vs) ((k, d) :: ds)
end
theorem sqT_same {K : PySem.W.Frag} {H H' : Hp} {a : Addr} {xs : List V} (s : Same H H') (h : SqT K H a xs) : SqT K H' a xs :=
  h.elim (fun r => .inl (r.elim (fun e => .inl (s _ _ e)) fun ⟨o, e⟩ => .inr ⟨o, s _ _ e⟩)) .inr
section
variable {K : PySem.W.Frag} {G G' : Hp} {as as' : List Addr}
mutual
theorem RV.up (s : Same G G') (p : ∀ (n : Nat) (a : Addr), as[n]? = some a → as'[n]? = some a) {v : V} {d : D} : RV K G as v d → RV K G' as' v d
  | .non => .non
  | .bl b => .bl b
  | .int i => .int i
  | .str x => .str x
  | .ty n => .ty n
  | .cls x => .cls x
  | .nfn x => .nfn x
  | .tup h t => .tup (sqT_same s h) (RVs.up s p t)
  | .lst h t => .lst (s _ _ h) (RVs.up s p t)
  | .scr h => .scr (s.seq h)
  | .dct h t => .dct (s _ _ h) (RVk.up s p t)
  | .obj h t => .obj (s _ _ h) (RVf.up s p t)
  | .exc h t => .exc (h.same s) (RV.up s p t)
  | .h n e => .h n (p _ _ e)
theorem RVs.up (s : Same G G') (p : ∀ (n : Nat) (a : Addr), as[n]? = some a → as'[n]? = some a) {v : List V} {d : List D} : RVs K G as v d → RVs K G' as' v d
  | .nil => .nil
  | .cons h t => .cons (RV.up s p h) (RVs.up s p t)
theorem RVk.up (s : Same G G') (p : ∀ (n : Nat) (a : Addr), as[n]? = some a → as'[n]? = some a) {v : List (Key × V)} {d : List (Key × D)} : RVk K G as v d → RVk K G' as' v d
  | .nil => .nil
  | .cons h t => .cons (RV.up s p h) (RVk.up s p t)
theorem RVf.up (s : Same G G') (p : ∀ (n : Nat) (a : Addr), as[n]? = some a → as'[n]? = some a) {v : List (Str × V)} {d : List (Str × D)} : RVf K G as v d → RVf K G' as' v d
  | .nil => .nil
  | .cons h t => .cons (RV.up s p h) (RVf.up s p t)
end
theorem RVs.len {vs : List V} {ds : List D} : RVs K G as vs ds → vs.length = ds.length
  | .nil => rfl
  | .cons _ t => congrArg Nat.succ (RVs.len t)
theorem RVs.at : ∀ {vs : List V} {ds : List D} {i : Nat} {d : D}, RVs K G as vs ds → ds[i]? = some d → ∃ v, vs[i]? = some v ∧ RV K G as v d
  | _, _, _, _, .nil, e => by simp at e
  | _, _, 0, _, .cons h _, e => by cases e; exact ⟨_, rfl, h⟩
  | _, _, i + 1, _, .cons _ t, e => RVs.at (i := i) t e
theorem RVs.at' : ∀ {vs : List V} {ds : List D} {i : Nat} {v : V}, RVs K G as vs ds → vs[i]? = some v → ∃ d, ds[i]? = some d ∧ RV K G as v d
  | _, _, _, _, .nil, e => by simp at e
  | _, _, 0, _, .cons h _, e => by cases e; exact ⟨_, rfl, h⟩
  | _, _, i + 1, _, .cons _ t, e => RVs.at' (i := i) t e
theorem RVs.append : ∀ {vs ws : List V} {ds es : List D}, RVs K G as vs ds → RVs K G as ws es → RVs K G as (vs ++ ws) (ds ++ es)
  | _, _, _, _, .nil, e => e
  | _, _, _, _, .cons h t, e => .cons h (RVs.append t e)
theorem RVs.set : ∀ {vs : List V} {ds : List D} {v : V} {d : D} (i : Nat), RVs K G as vs ds → RV K G as v d → RVs K G as (vs.set i v) (ds.set i d)
  | _, _, _, _, _, .nil, _ => .nil
  | _, _, _, _, 0, .cons _ t, r => .cons r t
  | _, _, _, _, i + 1, .cons h t, r => .cons h (RVs.set i t r)
theorem RVs.take : ∀ {vs : List V} {ds : List D} (n : Nat), RVs K G as vs ds → RVs K G as (vs.take n) (ds.take n)
  | _, _, 0, _ => .nil
  | _, _, _ + 1, .nil => .nil
  | _, _, n + 1, .cons h t => .cons h (RVs.take n t)
theorem RVs.drop : ∀ {vs : List V} {ds : List D} (n : Nat), RVs K G as vs ds → RVs K G as (vs.drop n) (ds.drop n)
  | _, _, 0, r => r
  | _, _, _ + 1, .nil => .nil
  | _, _, n + 1, .cons _ t => RVs.drop n t
theorem RVs.reverse : ∀ {vs : List V} {ds : List D}, RVs K G as vs ds → RVs K G as vs.reverse ds.reverse
  | _, _, .nil => .nil
  | _, _, .cons h t => by
    rw [List.reverse_cons, List.reverse_cons]
    exact RVs.append (RVs.reverse t) (.cons h .nil)
end
/-- a cell as it stands in the heap H; nothing settled stands there -/
def CellAt (K : PySem.W.Frag) (G : Hp) (as : List Addr) (H : Hp) (a : Addr) : Cell → Prop
  | .cl ds => ∃ xs, H a = some (.lst xs) ∧ RVs K G as xs ds
  | .cd kvs => ∃ xs, H a = some (.dK xs) ∧ RVk K G as xs kvs
  | .ci c fs => ∃ dx xs, H a = some (.ins (He.ga K c) dx xs) ∧ RVf K G as xs fs
/-- the heap H is what is settled, G, and the cells S, at as -/
structure Ht (K : PySem.W.Frag) (G : Hp) (as : List Addr) (S : Store) (H : Hp) : Prop where
  sub : Same G H
  len : as.length = S.length
  nd : as.Nodup
  there : ∀ a ∈ as, H a ≠ none
  cell : ∀ (n : Nat) (c : Cell), S[n]? = some (some c) → ∃ a, as[n]? = some a ∧ G a = none ∧ CellAt K G as H a c
/-- from (G, as, H) one comes to (G', as', H'): what is settled stays, what is not ours stays as it is -/
structure Le (G : Hp) (as : List Addr) (H : Hp) (G' : Hp) (as' : List Addr) (H' : Hp) : Prop where
  g : Same G G'
  ad : ∀ (n : Nat) (a : Addr), as[n]? = some a → as'[n]? = some a
  h : ∀ b o, H b = some o → b ∉ as → H' b = some o
  free : ∀ b, G b = none → H b ≠ none → b ∉ as → G' b = none
  new : ∀ b ∈ as', b ∈ as ∨ H b = none
theorem Le.refl {G : Hp} {as : List Addr} {H : Hp} : Le G as H G as H := ⟨Same.refl G, fun _ _ e => e, fun _ _ e _ => e, fun _ e _ _ => e, fun _ e => .inl e⟩
theorem Le.trans {G G1 G2 H H1 H2 : Hp} {as as1 as2 : List Addr} (x : Le G as H G1 as1 H1) (y : Le G1 as1 H1 G2 as2 H2) : Le G as H G2 as2 H2 where
  g := x.g.trans y.g
  ad := fun n a e => y.ad n a (x.ad n a e)
  h := fun b o e n => y.h b o (x.h b o e n) fun z => (x.new b z).elim n fun q => by rw [e] at q; cases q
  free := fun b e1 e2 n => by
    obtain ⟨o, e⟩ := Option.ne_none_iff_exists'.mp e2
    refine y.free b (x.free b e1 e2 n) (by rw [x.h b o e n]; simp) fun z => (x.new b z).elim n fun q => e2 q
  new := fun b e => (y.new b e).elim (fun z => x.new b z) fun q => by
    by_cases z : H b = none
    · exact .inr z
    · by_cases n : b ∈ as
      · exact .inl n
      · obtain ⟨o, e⟩ := Option.ne_none_iff_exists'.mp z
        rw [x.h b o e n] at q
        cases q
theorem RV.le {K : PySem.W.Frag} {G G' H H' : Hp} {as as' : List Addr} {v : V} {d : D} (r : RV K G as v d) (l : Le G as H G' as' H') : RV K G' as' v d := r.up l.g l.ad
theorem RVs.le {K : PySem.W.Frag} {G G' H H' : Hp} {as as' : List Addr} {v : List V} {d : List D} (r : RVs K G as v d) (l : Le G as H G' as' H') : RVs K G' as' v d := r.up l.g l.ad
theorem CellAt.up {K : PySem.W.Frag} {G G' : Hp} {as as' : List Addr} {H H' : Hp} {a : Addr} {c : Cell} (s : Same G G') (p : ∀ (n : Nat) (a : Addr), as[n]? = some a → as'[n]? = some a) (h : H' a = H a) (x : CellAt K G as H a c) : CellAt K G' as' H' a c := by
  cases c with
  | cl ds => obtain ⟨xs, e, r⟩ := x; exact ⟨xs, h.trans e, r.up s p⟩
  | cd ds => obtain ⟨xs, e, r⟩ := x; exact ⟨xs, h.trans e, r.up s p⟩
  | ci c ds => obtain ⟨dx, xs, e, r⟩ := x; exact ⟨dx, xs, h.trans e, r.up s p⟩
section
variable {K : PySem.W.Frag} {G H : Hp} {as : List Addr} {S : Store}
theorem Ht.gfree (t : Ht K G as S H) {p : Addr} (n : H p = none) : G p = none := t.sub.free n
theorem Ht.notin (t : Ht K G as S H) {p : Addr} (n : H p = none) : p ∉ as := fun z => t.there p z n
/-- a new settled object -/
theorem Ht.settle (t : Ht K G as S H) {p : Addr} (n : H p = none) (o : HO) : Ht K (upd G p o) as S (upd H p o) ∧ Le G as H (upd G p o) as (upd H p o) := by
  have gs : Same G (upd G p o) := fun b u e => by rw [upd_ne (ne_of_none e (t.gfree n))]; exact e
  refine ⟨⟨fun b u e => ?_, t.len, t.nd, fun a ha => ?_, fun m c e => ?_⟩, gs, fun _ _ e => e, fun b u e _ => ?_, fun b e1 e2 _ => ?_, fun _ e => .inl e⟩
  · by_cases z : b = p
    · subst z
      rw [upd_same] at e ⊢
      exact e
    · rw [upd_ne z] at e ⊢
      exact t.sub _ _ e
  · have : a ≠ p := fun z => t.notin n (z ▸ ha)
    rw [upd_ne this]
    exact t.there a ha
  · obtain ⟨a, e1, e2, e3⟩ := t.cell m c e
    have : a ≠ p := fun z => t.notin n (z ▸ List.mem_of_getElem? e1)
    exact ⟨a, e1, by rw [upd_ne this]; exact e2, e3.up gs (fun _ _ e => e) (upd_ne this)⟩
  · rw [upd_ne (ne_of_none e n)]
    exact e
  · have : b ≠ p := fun z => e2 (z ▸ n)
    rw [upd_ne this]
    exact e1
/-- a new cell -/
theorem Ht.alloc (t : Ht K G as S H) {p : Addr} (n : H p = none) {o : HO} {c : Cell} (hc : ∀ H' : Hp, H' p = some o → CellAt K G as H' p c) : Ht K G (as ++ [p]) (S ++ [some c]) (upd H p o) ∧ Le G as H G (as ++ [p]) (upd H p o) := by
  have ap : ∀ (m : Nat) (a : Addr), as[m]? = some a → (as ++ [p])[m]? = some a := fun m a e => by
    rw [List.getElem?_append_left (List.getElem?_eq_some_iff.mp e).1]
    exact e
  refine ⟨⟨fun b u e => ?_, by rw [List.length_append, List.length_append, t.len]; rfl, ?_, fun a ha => ?_, fun m c' e => ?_⟩, Same.refl G, ap, fun b u e _ => ?_, fun _ e _ _ => e, fun b e => ?_⟩
  · rw [upd_ne (ne_of_none (t.sub _ _ e) n)]
    exact t.sub _ _ e
  · rw [List.nodup_append]
    refine ⟨t.nd, by simp, fun a ha b hb => ?_⟩
    rw [List.mem_singleton] at hb
    subst hb
    exact fun z => t.notin n (z ▸ ha)
  · rcases List.mem_append.mp ha with z | z
    · have : a ≠ p := fun q => t.notin n (q ▸ z)
      rw [upd_ne this]
      exact t.there a z
    · rw [List.mem_singleton] at z
      rw [z, upd_same]
      simp
  · rw [List.getElem?_append] at e
    split at e
    · obtain ⟨a, e1, e2, e3⟩ := t.cell m c' e
      have : a ≠ p := fun z => t.notin n (z ▸ List.mem_of_getElem? e1)
      exact ⟨a, ap _ _ e1, e2, e3.up (Same.refl G) ap (upd_ne this)⟩
    · rename_i hm
      have em : m = S.length := by
        have := (List.getElem?_eq_some_iff.mp e).1
        rw [List.length_singleton] at this
        omega
      rw [em, Nat.sub_self] at e
      cases e
      refine ⟨p, ?_, t.gfree n, (hc _ upd_same).up (Same.refl G) ap rfl⟩
      rw [em, ← t.len, List.getElem?_append_right (Nat.le_refl _), Nat.sub_self]
      rfl
  · rw [upd_ne (ne_of_none e n)]
    exact e
  · rcases List.mem_append.mp e with z | z
    · exact .inl z
    · rw [List.mem_singleton] at z
      exact .inr (z ▸ n)
/-- a cell is changed -/
theorem Ht.store (t : Ht K G as S H) {m : Nat} {p : Addr} {c0 c : Cell} {o : HO} (e0 : S[m]? = some (some c0)) (ep : as[m]? = some p) (hc : ∀ H' : Hp, H' p = some o → CellAt K G as H' p c) : Ht K G as (S.set m (some c)) (upd H p o) ∧ Le G as H G as (upd H p o) := by
  obtain ⟨p', e1, g0, _⟩ := t.cell m c0 e0
  rw [ep] at e1
  cases e1
  have hp : p ∈ as := List.mem_of_getElem? ep
  refine ⟨⟨fun b u e => ?_, by rw [List.length_set]; exact t.len, t.nd, fun a ha => ?_, fun k c' e => ?_⟩, Same.refl G, fun _ _ e => e, fun b u e nb => ?_, fun _ e _ _ => e, fun _ e => .inl e⟩
  · have : b ≠ p := fun z => by rw [z, g0] at e; cases e
    rw [upd_ne this]
    exact t.sub _ _ e
  · by_cases z : a = p
    · rw [z, upd_same]
      simp
    · rw [upd_ne z]
      exact t.there a ha
  · rw [List.getElem?_set] at e
    split at e
    · rename_i hk
      subst hk
      split at e
      · cases e
        exact ⟨p, ep, g0, hc _ upd_same⟩
      · cases e
    · rename_i hk
      obtain ⟨a, e1, e2, e3⟩ := t.cell k c' e
      have : a ≠ p := by
        rintro rfl
        exact hk ((List.getElem?_inj (List.getElem?_eq_some_iff.mp ep).1 t.nd).mp (ep.trans e1.symm))
      exact ⟨a, e1, e2, e3.up (Same.refl G) (fun _ _ e => e) (upd_ne this)⟩
  · rw [upd_ne (fun z : b = p => nb (by rw [z]; exact hp))]
    exact e
end
end L2.Hy
end
section
/-! What an expression comes to, as a function of the slots' values and the store; and the rules that say so. -/
namespace L2.Hy
open PySem PySem.Spec PyProof.Rows
inductive Rz (α : Type) where
  | ok (a : α)
  | ex (c f : Str) (d : D)
abbrev Mx (α : Type) := Store → Option (Rz α × Store)
def mret {α : Type} (a : α) : Mx α := fun S => some (.ok a, S)
def mraise {α : Type} (c f : Str) (d : D) : Mx α := fun S => some (.ex c f d, S)
def mnone {α : Type} : Mx α := fun _ => none
def mbind {α β : Type} (m : Mx α) (k : α → Mx β) : Mx β := fun S => match m S with
  | some (.ok a, S1) => k a S1
  | some (.ex c f d, S1) => some (.ex c f d, S1)
  | none => none
abbrev Env := List (Option D)
abbrev Den := Env → Mx D
structure EnvOk (K : PySem.W.Frag) (G : Hp) (as : List Addr) (σ : L2.St) (ρ : Env) : Prop where
  len : ρ.length = σ.length
  ok : ∀ (i : Nat) (d : D), ρ[i]? = some (some d) → ∃ v, σ[i]? = some (some v) ∧ RV K G as v d
theorem EnvOk.le {K : PySem.W.Frag} {G G' H H' : Hp} {as as' : List Addr} {σ : L2.St} {ρ : Env} (e : EnvOk K G as σ ρ) (l : Le G as H G' as' H') : EnvOk K G' as' σ ρ := ⟨e.len, fun i d h => by
  obtain ⟨v, a, r⟩ := e.ok i d h
  exact ⟨v, a, r.le l⟩⟩
theorem EnvOk.set {K : PySem.W.Frag} {G : Hp} {as : List Addr} {σ : L2.St} {ρ : Env} (e : EnvOk K G as σ ρ) {v : V} {d : D} (r : RV K G as v d) (i : Nat) : EnvOk K G as (σ.set i (some v)) (ρ.set i (some d)) := by
  refine ⟨by rw [List.length_set, List.length_set]; exact e.len, fun j d' h => ?_⟩
  rw [List.getElem?_set] at h ⊢
  split at h
  · rename_i hj
    rw [if_pos hj]
    split at h
    · rename_i hl
      cases h
      rw [if_pos (by rw [← e.len]; exact hl)]
      exact ⟨v, rfl, r⟩
    · cases h
  · rename_i hj
    rw [if_neg hj]
    exact e.ok j d' h
/-- a slot is emptied -/
theorem EnvOk.gone {K : PySem.W.Frag} {G : Hp} {as : List Addr} {σ : L2.St} {ρ : Env} (e : EnvOk K G as σ ρ) (i : Nat) (o : Option V) : EnvOk K G as (σ.set i o) (ρ.set i none) := by
  refine ⟨by rw [List.length_set, List.length_set]; exact e.len, fun j d' h => ?_⟩
  rw [List.getElem?_set] at h ⊢
  split at h
  · split at h <;> cases h
  · rename_i hj
    rw [if_neg hj]
    exact e.ok j d' h
/-- m is run from (G, as, S, H): what is wanted behind it is C; the wish of an exception that leaves: W, at the slots -/
def tR {α : Type} (K : PySem.W.Frag) (W : WX) (σ : L2.St) (G : Hp) (as : List Addr) (S : Store) (H : Hp) (m : Mx α) (C : α → Hp → List Addr → Store → Hp → Prop) : Prop := ∃ r S', m S = some (r, S') ∧ match r with
  | .ok a => ∀ G' as' H', Ht K G' as' S' H' → Le G as H G' as' H' → C a G' as' S' H'
  | .ex c f d => ∀ v dd G' as' H', Ht K G' as' S' H' → Le G as H G' as' H' → RV K G' as' v d → H' dd = some (.xd [(f, v)]) → dd ∉ as' → G' dd = none → H dd = none → W (.ref (He.ga K c)) (some dd) σ H'
abbrev tF (K : PySem.W.Frag) (W : WX) (σ : L2.St) (G : Hp) (as : List Addr) (S : Store) (H : Hp) (m : Mx D) (Q : VK) : Prop := tR K W σ G as S H m fun d G' as' _ H' => ∀ v, RV K G' as' v d → Q v H'
abbrev tBo (K : PySem.W.Frag) (W : WX) (σ : L2.St) (G : Hp) (as : List Addr) (S : Store) (H : Hp) (m : Mx Bool) (Q : Bool → Hp → Prop) : Prop := tR K W σ G as S H m fun b _ _ _ H' => Q b H'
abbrev tL (K : PySem.W.Frag) (W : WX) (σ : L2.St) (G : Hp) (as : List Addr) (S : Store) (H : Hp) (m : Mx (List D)) (Q : List V → Hp → Prop) : Prop := tR K W σ G as S H m fun ds G' as' _ H' => ∀ vs, RVs K G' as' vs ds → Q vs H'
def tH (K : PySem.W.Frag) (W : WX) (den : Den) : TE := fun σ H Q => ∃ G as ρ S, Ht K G as S H ∧ EnvOk K G as σ ρ ∧ tF K W σ G as S H (den ρ) Q
def tHb (K : PySem.W.Frag) (W : WX) (den : Env → Mx Bool) : TT := fun σ H Q => ∃ G as ρ S, Ht K G as S H ∧ EnvOk K G as σ ρ ∧ tBo K W σ G as S H (den ρ) Q
def tHa (K : PySem.W.Frag) (W : WX) (den : Env → Mx (List D)) : TA := fun σ H Q => ∃ G as ρ S, Ht K G as S H ∧ EnvOk K G as σ ρ ∧ tL K W σ G as S H (den ρ) Q
section
variable {α β : Type} {K : PySem.W.Frag} {W : WX} {σ : L2.St} {G H : Hp} {as : List Addr} {S : Store} {Q P : VK}
theorem Le.was {G1 H1 : Hp} {as1 : List Addr} {S1 : Store} (t : Ht K G1 as1 S1 H1) (l : Le G as H G1 as1 H1) {b : Addr} (h : H1 b = none) : H b = none := by
  cases e : H b with
  | none => rfl
  | some o =>
    by_cases z : b ∈ as
    · obtain ⟨i, hi, e1⟩ := List.getElem_of_mem z
      have := l.ad i b (by rw [List.getElem?_eq_getElem hi, e1])
      exact absurd h (t.there b (List.mem_of_getElem? this))
    · rw [l.h b o e z] at h
      cases h
theorem tR.bind {m : Mx α} {k : α → Mx β} {C : β → Hp → List Addr → Store → Hp → Prop} (h : tR K W σ G as S H (mbind m k) C) {C' : α → Hp → List Addr → Store → Hp → Prop}
    (hk : ∀ a G1 as1 S1 H1, Ht K G1 as1 S1 H1 → Le G as H G1 as1 H1 → tR K W σ G1 as1 S1 H1 (k a) C → C' a G1 as1 S1 H1) : tR K W σ G as S H m C' := by
  obtain ⟨r, S', e, h⟩ := h
  unfold mbind at e
  cases hm : m S with
  | none =>
    rw [hm] at e
    cases e
  | some p =>
    obtain ⟨r0, S1⟩ := p
    rw [hm] at e
    cases r0 with
    | ok a =>
      refine ⟨.ok a, S1, hm, fun G1 as1 H1 t l => hk a G1 as1 S1 H1 t l ⟨r, S', e, ?_⟩⟩
      cases r with
      | ok d => exact fun G' as' H' t' l' => h G' as' H' t' (l.trans l')
      | ex c f d => exact fun v' dd G' as' H' t' l' r' q1 q2 q3 q4 => h v' dd G' as' H' t' (l.trans l') r' q1 q2 q3 (Le.was t l q4)
    | ex c f d =>
      cases e
      exact ⟨_, _, hm, h⟩
theorem tF.bind {m : Mx D} {k : D → Mx β} {C : β → Hp → List Addr → Store → Hp → Prop} (h : tR K W σ G as S H (mbind m k) C)
    (hk : ∀ v d G1 as1 S1 H1, Ht K G1 as1 S1 H1 → Le G as H G1 as1 H1 → RV K G1 as1 v d → tR K W σ G1 as1 S1 H1 (k d) C → P v H1) : tF K W σ G as S H m P :=
  tR.bind h fun d G1 as1 S1 H1 t l q v r => hk v d G1 as1 S1 H1 t l r q
/-- it is there at once -/
theorem tR.now {a : α} {C : α → Hp → List Addr → Store → Hp → Prop} (h : tR K W σ G as S H (mret a) C) (t : Ht K G as S H) : C a G as S H := by
  obtain ⟨r', S', e, h⟩ := h
  cases e
  exact h G as H t Le.refl
theorem tF.now {d : D} (h : tF K W σ G as S H (mret d) Q) (t : Ht K G as S H) {v : V} (r : RV K G as v d) : Q v H := tR.now h t v r
theorem tR.no {C : α → Hp → List Addr → Store → Hp → Prop} (h : tR K W σ G as S H (mnone : Mx α) C) : False := by
  obtain ⟨_, _, e, _⟩ := h
  cases e
theorem tR.imp {m : Mx α} {C C' : α → Hp → List Addr → Store → Hp → Prop} (h : tR K W σ G as S H m C) (i : ∀ a G' as' S' H', Ht K G' as' S' H' → Le G as H G' as' H' → C a G' as' S' H' → C' a G' as' S' H') : tR K W σ G as S H m C' := by
  obtain ⟨r, S', e, h⟩ := h
  refine ⟨r, S', e, ?_⟩
  cases r with
  | ok a => exact fun G' as' H' t l => i a G' as' S' H' t l (h G' as' H' t l)
  | ex c f d => exact h
end
/-! ### readings weakened -/
section
variable {X : Cx}
theorem peI {e : Expr} {t t' : TE} (h : PE X e t) (i : ∀ σ H Q, t' σ H Q → t σ H Q) : PE X e t' := ⟨fun pins s σ H Q I q => h.run pins s σ H Q I (i σ H Q q)⟩
theorem paI {es : List Expr} {t t' : TA} (h : PA X es t) (i : ∀ σ H Q, t' σ H Q → t σ H Q) : PA X es t' := ⟨fun pos pins s σ H Q I q => h.run pos pins s σ H Q I (i σ H Q q)⟩
theorem psI {st : Stmt} {t t' : TS} (h : PS X st t) (i : ∀ D σ H, t' D σ H → t D σ H) : PS X st t' := ⟨fun pins s σ H D I q => h.run pins s σ H D I (i D σ H q)⟩
theorem pssI {st : List Stmt} {t t' : TS} (h : PSs X st t) (i : ∀ D σ H, t' D σ H → t D σ H) : PSs X st t' := ⟨fun pins s σ H D I q => h.run pins s σ H D I (i D σ H q)⟩
theorem ptI {e : Expr} {t t' : TT} (h : PT X e t) (i : ∀ σ H Q, t' σ H Q → t σ H Q) : PT X e t' := ⟨fun pins s σ H Q I q => h.run pins s σ H Q I (i σ H Q q)⟩
end
/-- an expression comes to den -/
abbrev EH (X : Cx) (W : WX) (e : Expr) (den : Den) : Prop := PE X e (tH X.K W den)
/-! ### values -/
def dC (d : D) : Den := fun _ => mret d
def dV (i : Nat) : Den := fun ρ => match ρ[i]? with
  | some (some d) => mret d
  | _ => mnone
/-- a primitive of two values -/
def d2 (f : D → D → Mx D) (a b : Den) : Den := fun ρ => mbind (a ρ) fun x => mbind (b ρ) fun y => f x y
def d1 (f : D → Mx D) (a : Den) : Den := fun ρ => mbind (a ρ) f
def Prim2 (K : PySem.W.Frag) (W : WX) (r : R2) (f : D → D → Mx D) : Prop := ∀ σ G as S H x y v w Q, Ht K G as S H → RV K G as v x → RV K G as w y → tF K W σ G as S H (f x y) Q → r v w H Q
def Prim1 (K : PySem.W.Frag) (W : WX) (r : V → Hp → VK → Prop) (f : D → Mx D) : Prop := ∀ σ G as S H x v Q, Ht K G as S H → RV K G as v x → tF K W σ G as S H (f x) Q → r v H Q
section
variable {X : Cx} {W : WX} {a b c : Expr} {da db dc : Den} {pos : Pos}
theorem eh_c {d : D} {v : V} (h : PE X a (tC v)) (r : ∀ K G as, RV K G as v d) : EH X W a (dC d) := peI h fun σ H Q ⟨G, as, ρ, S, t, eo, q⟩ => tF.now q t (r _ _ _)
theorem eh_int {i : Int} {k : Nat} : EH X W (.Constant (.int i) k pos) (dC (.int i)) := eh_c pe_int fun _ _ _ => .int _
theorem eh_str {x : Str} {k : Nat} : EH X W (.Constant (.str x) k pos) (dC (.str x)) := eh_c pe_str fun _ _ _ => .str _
theorem eh_non {k : Nat} : EH X W (.Constant .none k pos) (dC .non) := eh_c pe_non fun _ _ _ => .non
theorem eh_bl {x : Bool} {k : Nat} : EH X W (.Constant (.bool x) k pos) (dC (.bl x)) := eh_c pe_bl fun _ _ _ => .bl _
theorem eh_v (i : Nat) {x : Str} (h : PE X (.Name x pos) (tVar i)) : EH X W (.Name x pos) (dV i) := peI h fun σ H Q ⟨G, as, ρ, S, t, eo, q⟩ => by
  unfold dV at q
  split at q
  · rename_i d e
    obtain ⟨v, hv, r⟩ := eo.ok i d e
    exact ⟨v, hv, tF.now q t r⟩
  · exact (tR.no q).elim
theorem eh_2 {op : Operator} {r : R2} {f : D → D → Mx D} (ho : OpR X (binaryOp op) r) (pr : Prim2 X.K W r f) (ha : EH X W a da) (hb : EH X W b db) : EH X W (.BinOp a op b pos) (d2 f da db) :=
  peI (pe_op ho ha hb) fun σ H Q ⟨G, as, ρ, S, t, eo, q⟩ => ⟨G, as, ρ, S, t, eo, tF.bind q fun v d G1 as1 S1 H1 t1 l1 r1 q1 => ⟨G1, as1, ρ, S1, t1, eo.le l1, tF.bind q1 fun w e G2 as2 S2 H2 t2 l2 r2 q2 => pr σ G2 as2 S2 H2 d e v w Q t2 (r1.le l2) r2 q2⟩⟩
theorem eh_cmp {op : CmpOp} {r : R2} {f : D → D → Mx D} (ho : OpR X (compareOp op) r) (pr : Prim2 X.K W r f) (ha : EH X W a da) (hb : EH X W b db) (hm : behindInMarks op b = false) : EH X W (.Compare a [op] [b] pos) (d2 f da db) :=
  peI (pe_cmpR ho ha hb hm) fun σ H Q ⟨G, as, ρ, S, t, eo, q⟩ => ⟨G, as, ρ, S, t, eo, tF.bind q fun v d G1 as1 S1 H1 t1 l1 r1 q1 => ⟨G1, as1, ρ, S1, t1, eo.le l1, tF.bind q1 fun w e G2 as2 S2 H2 t2 l2 r2 q2 => pr σ G2 as2 S2 H2 d e v w Q t2 (r1.le l2) r2 q2⟩⟩
theorem eh_un {op : UnaryOp} {r : V → Hp → VK → Prop} {f : D → Mx D} (ho : UnR X (unaryOp op) r) (pr : Prim1 X.K W r f) (ha : EH X W a da) : EH X W (.UnaryOp op a pos) (d1 f da) :=
  peI (pe_un ho ha) fun σ H Q ⟨G, as, ρ, S, t, eo, q⟩ => ⟨G, as, ρ, S, t, eo, tF.bind q fun v d G1 as1 S1 H1 t1 l1 r1 q1 => pr σ G1 as1 S1 H1 d v Q t1 r1 q1⟩
end
/-! ### whole numbers -/
def fII (g : Int → Int → D) : D → D → Mx D
  | .int i, .int j => mret (g i j)
  | _, _ => mnone
def fIIc (c : Int → Int → Bool) (g : Int → Int → D) : D → D → Mx D
  | .int i, .int j => if c i j then mret (g i j) else mnone
  | _, _ => mnone
section
variable {K : PySem.W.Frag} {W : WX}
theorem prII {g : Int → Int → V} {g' : Int → Int → D} (hg : ∀ i j K G as, RV K G as (g i j) (g' i j)) : Prim2 K W (rI0 g) (fII g') := fun σ G as S H x y v w Q t rx ry q => by
  cases rx <;> cases ry <;> first | exact (tR.no q).elim | exact ⟨_, _, rfl, rfl, tF.now q t (hg _ _ _ _ _)⟩
theorem prIIc {C : Int → Int → Prop} {c : Int → Int → Bool} {g : Int → Int → V} {g' : Int → Int → D} (hc : ∀ i j, c i j = true → C i j) (hg : ∀ i j K G as, RV K G as (g i j) (g' i j)) : Prim2 K W (rI C g) (fIIc c g') := fun σ G as S H x y v w Q t rx ry q => by
  cases rx with
  | int i =>
    cases ry with
    | int j =>
      unfold fIIc at q
      dsimp only at q
      split at q
      · rename_i h
        exact ⟨i, j, rfl, rfl, hc i j h, tF.now q t (hg _ _ _ _ _)⟩
      · exact (tR.no q).elim
    | _ => exact (tR.no q).elim
  | _ => cases ry <;> exact (tR.no q).elim
end
def dAdd : Den → Den → Den := d2 (fII fun i j => .int (i + j))
def dSub : Den → Den → Den := d2 (fII fun i j => .int (i - j))
def dMul : Den → Den → Den := d2 (fIIc (fun i j => decide (i.natAbs.log2 + j.natAbs.log2 < 900000)) fun i j => .int (i * j))
def dLt : Den → Den → Den := d2 (fII fun i j => .bl (decide (i < j)))
def dLe : Den → Den → Den := d2 (fII fun i j => .bl (decide (i ≤ j)))
def dGt : Den → Den → Den := d2 (fII fun i j => .bl (decide (j < i)))
def dGe : Den → Den → Den := d2 (fII fun i j => .bl (decide (j ≤ i)))
section
variable {X : Cx} {W : WX} {a b : Expr} {da db : Den} {pos : Pos}
theorem eh_add (ha : EH X W a da) (hb : EH X W b db) : EH X W (.BinOp a .Add b pos) (dAdd da db) := eh_2 op_add (prII fun _ _ _ _ _ => .int _) ha hb
theorem eh_sub (ha : EH X W a da) (hb : EH X W b db) : EH X W (.BinOp a .Sub b pos) (dSub da db) := eh_2 op_sub (prII fun _ _ _ _ _ => .int _) ha hb
theorem eh_mul (ha : EH X W a da) (hb : EH X W b db) : EH X W (.BinOp a .Mult b pos) (dMul da db) := eh_2 op_mulW (prIIc (fun i j h => by have := of_decide_eq_true h; show _ < _; omega) fun _ _ _ _ _ => .int _) ha hb
theorem eh_lt (ha : EH X W a da) (hb : EH X W b db) : EH X W (.Compare a [.Lt] [b] pos) (dLt da db) := eh_cmp op_lt (prII fun _ _ _ _ _ => .bl _) ha hb (nomark _)
theorem eh_le (ha : EH X W a da) (hb : EH X W b db) : EH X W (.Compare a [.LtE] [b] pos) (dLe da db) := eh_cmp op_le (prII fun _ _ _ _ _ => .bl _) ha hb (nomark _)
theorem eh_gt (ha : EH X W a da) (hb : EH X W b db) : EH X W (.Compare a [.Gt] [b] pos) (dGt da db) := eh_cmp op_gt (prII fun _ _ _ _ _ => .bl _) ha hb (nomark _)
theorem eh_ge (ha : EH X W a da) (hb : EH X W b db) : EH X W (.Compare a [.GtE] [b] pos) (dGe da db) := eh_cmp op_ge (prII fun _ _ _ _ _ => .bl _) ha hb (nomark _)
end
end L2.Hy
end
section
/-! Tests, and, or, not, comparisons of data, sequences. -/
namespace L2.Hy
open PySem PySem.Spec PyProof.Rows
abbrev TD := Env → Mx Bool
abbrev TH (X : Cx) (W : WX) (e : Expr) (den : TD) : Prop := PT X e (tHb X.K W den)
/-! ### sequences -/
def lstD (S : Store) : D → Option (List D)
  | .lst ds => some ds
  | .h n => match S[n]? with
    | some (some (.cl ds)) => some ds
    | _ => none
  | _ => none
def seqD (S : Store) : D → Option (List D)
  | .tup ds => some ds
  | .scr is => some (is.map D.int)
  | d => lstD S d
section
variable {K : PySem.W.Frag} {W : WX} {σ : L2.St} {G H : Hp} {as : List Addr} {S : Store} {v : V} {d : D} {ds : List D}
theorem Ht.lst (t : Ht K G as S H) (r : RV K G as v d) (e : lstD S d = some ds) : ∃ a xs, v = .ref a ∧ H a = some (.lst xs) ∧ RVs K G as xs ds := by
  cases r with
  | lst h x =>
    cases e
    exact ⟨_, _, rfl, t.sub _ _ h, x⟩
  | h n ea =>
    unfold lstD at e
    dsimp only at e
    split at e
    · rename_i es q
      cases e
      obtain ⟨a, e1, _, xs, e2, e3⟩ := t.cell _ _ q
      rw [ea] at e1
      cases e1
      exact ⟨_, xs, rfl, e2, e3⟩
    · cases e
  | _ => cases e
theorem RVs.ints : ∀ is : List Int, RVs K G as (is.map V.int) (is.map D.int)
  | [] => .nil
  | i :: is => .cons (.int i) (RVs.ints is)
theorem Ht.seq (t : Ht K G as S H) (r : RV K G as v d) (e : seqD S d = some ds) : ∃ a xs, v = .ref a ∧ (SqL K H a xs ∨ SqT K H a xs) ∧ RVs K G as xs ds := by
  by_cases z : (∃ es, d = .tup es) ∨ ∃ is, d = .scr is
  · rcases z with ⟨es, rfl⟩ | ⟨is, rfl⟩
    · cases e
      cases r with
      | tup h x => exact ⟨_, _, rfl, .inr (sqT_same t.sub h), x⟩
    · cases e
      cases r with
      | scr h => exact ⟨_, _, rfl, .inl (t.sub.seq h), RVs.ints is⟩
  · have e' : lstD S d = some ds := by
      cases d <;> first | exact e | exact absurd (.inl ⟨_, rfl⟩) z | exact absurd (.inr ⟨_, rfl⟩) z
    obtain ⟨a, xs, e1, e2, e3⟩ := t.lst r e'
    exact ⟨a, xs, e1, .inl (.inl (.inl e2)), e3⟩
end
/-! ### truth -/
def truB (S : Store) : D → Option Bool
  | .non => some false
  | .bl b => some b
  | .int i => some (i != 0)
  | .str x => if x.length ≤ 16777216 then some ((x.length : Int) != 0) else none
  | d => (seqD S d).map fun ds => !ds.isEmpty
def mOf {α : Type} (o : Store → Option α) : Mx α := fun S => (o S).map fun a => (.ok a, S)
theorem mOf_some {α : Type} {o : Store → Option α} {S : Store} {a : α} (e : o S = some a) : mOf o S = some (.ok a, S) := by unfold mOf; rw [e]; rfl
def truD (d : D) : Mx Bool := mOf fun S => truB S d
def boolD : D → Mx Bool
  | .bl b => mret b
  | _ => mnone
section
variable {α : Type} {K : PySem.W.Frag} {W : WX} {σ : L2.St} {G H : Hp} {as : List Addr} {S : Store} {v : V} {d : D} {ds : List D}
theorem tR.of {o : Store → Option α} {C : α → Hp → List Addr → Store → Hp → Prop} (h : tR K W σ G as S H (mOf o) C) (t : Ht K G as S H) : ∃ a, o S = some a ∧ C a G as S H := by
  obtain ⟨r, S', e, h⟩ := h
  unfold mOf at e
  cases q : o S with
  | none =>
    rw [q] at e
    cases e
  | some a =>
    rw [q] at e
    cases e
    exact ⟨a, rfl, h G as H t Le.refl⟩
theorem RVs.isEmpty {vs : List V} (r : RVs K G as vs ds) : (!vs.isEmpty) = !ds.isEmpty := by cases r <;> rfl
theorem truB_ok (t : Ht K G as S H) (r : RV K G as v d) {b : Bool} (e : truB S d = some b) : TruV K v H b := by
  cases r with
  | non => cases e; rfl
  | bl b => cases e; rfl
  | int i => cases e; rfl
  | str x =>
    unfold truB at e
    dsimp only at e
    split at e
    · rename_i h
      cases e
      exact ⟨by rw [sizeLine_eq]; exact h, rfl⟩
    · cases e
  | tup h x =>
    cases e
    exact .inr (.inl ⟨_, sqT_same t.sub h, (RVs.isEmpty x).symm⟩)
  | lst h x =>
    cases e
    exact .inl ⟨_, .inl (.inl (t.sub _ _ h)), (RVs.isEmpty x).symm⟩
  | h n ea =>
    obtain ⟨es, e1, e2⟩ := Option.map_eq_some_iff.mp (show (seqD S (.h n)).map _ = some b from e)
    obtain ⟨a, xs, e3, e4, e5⟩ := t.seq (.h n ea) e1
    cases e3
    subst e2
    rcases e4 with e4 | e4
    · exact .inl ⟨_, e4, (RVs.isEmpty e5).symm⟩
    · exact .inr (.inl ⟨_, e4, (RVs.isEmpty e5).symm⟩)
  | scr h =>
    cases e
    exact .inl ⟨_, t.sub.seq h, (RVs.isEmpty (RVs.ints (K := K) (G := G) (as := as) _)).symm⟩
  | _ => cases e
end
section
variable {X : Cx} {W : WX} {a b c : Expr} {da db dc : Den} {ta tb : TD} {pos : Pos} {rest : List Expr}
/-- a test by an expression's truth -/
def dTru (da : Den) : TD := fun ρ => mbind (da ρ) truD
def dBool (da : Den) : TD := fun ρ => mbind (da ρ) boolD
theorem th_tru (ha : EH X W a da) (he : ∀ whole, isTrue a X.env whole = (do let v ← whole; standAt a.pos; holding [v] (truthy v)) := by intro _; rfl) : TH X W a (dTru da) :=
  ptI (pt_truth ha he) fun σ H Q ⟨G, as, ρ, S, t, eo, q⟩ => ⟨G, as, ρ, S, t, eo, tF.bind q fun v d G1 as1 S1 H1 t1 l1 r1 q1 => by
    obtain ⟨b, e, q1⟩ := q1.of t1
    exact ⟨b, truB_ok t1 r1 e, q1⟩⟩
theorem boolQ {K : PySem.W.Frag} {σ : L2.St} {G H : Hp} {as : List Addr} {S : Store} {d : D} {v : V} {Q : Bool → Hp → Prop} (q : tBo K W σ G as S H (boolD d) Q) (t : Ht K G as S H) (r : RV K G as v d) : ∃ k, v = .bl k ∧ Q k H := by
  cases r with
  | bl b => exact ⟨b, rfl, tR.now q t⟩
  | _ => exact (tR.no q).elim
theorem th_cmp {op : CmpOp} {r : R2} {f : D → D → Mx D} (ho : OpR X (compareOp op) r) (pr : Prim2 X.K W r f) (ha : EH X W a da) (hb : EH X W b db) (hm : behindInMarks op b = false) : TH X W (.Compare a [op] [b] pos) (dBool (d2 f da db)) :=
  ptI (pt_cmpR ho ha hb hm) fun σ H Q ⟨G, as, ρ, S, t, eo, q⟩ => by
    have q0 : tF X.K W σ G as S H (d2 f da db ρ) fun x H' => ∃ k, x = .bl k ∧ Q k H' := tF.bind (P := fun x H' => ∃ k, x = .bl k ∧ Q k H') q fun v d G1 as1 S1 H1 t1 l1 r1 q1 => boolQ q1 t1 r1
    exact ⟨G, as, ρ, S, t, eo, tF.bind q0 fun v d G1 as1 S1 H1 t1 l1 r1 q1 => ⟨G1, as1, ρ, S1, t1, eo.le l1, tF.bind q1 fun w e G2 as2 S2 H2 t2 l2 r2 q2 => pr σ G2 as2 S2 H2 d e v w _ t2 (r1.le l2) r2 q2⟩⟩
def tdNot (ta : TD) : TD := fun ρ => mbind (ta ρ) fun c => mret !c
def tdAnd (ta tb : TD) : TD := fun ρ => mbind (ta ρ) fun c => if c = true then tb ρ else mret false
def tdOr (ta tb : TD) : TD := fun ρ => mbind (ta ρ) fun c => if c = true then mret true else tb ρ
theorem th_not (ha : TH X W a ta) : TH X W (.UnaryOp .Not a pos) (tdNot ta) :=
  ptI (pt_not ha) fun σ H Q ⟨G, as, ρ, S, t, eo, q⟩ => ⟨G, as, ρ, S, t, eo, tR.bind q fun c G1 as1 S1 H1 t1 l1 q1 => tR.now q1 t1⟩
/-- a test within and, or -/
abbrev WH (X : Cx) (W : WX) (e : Expr) (den : TD) : Prop := PW X e (tHb X.K W den)
theorem pwI {e : Expr} {t t' : TT} (h : PW X e t) (i : ∀ σ H Q, t' σ H Q → t σ H Q) : PW X e t' := ⟨fun w pins s σ H Q I q => h.run w pins s σ H Q I (i σ H Q q)⟩
theorem wh_and1 (ha : TH X W a ta) : WH X W (.BoolOp .And [a] pos) ta := pw_and1 ha
theorem wh_or1 (ha : TH X W a ta) : WH X W (.BoolOp .Or [a] pos) ta := pw_or1 ha
theorem wh_and (ha : TH X W a ta) (hb : WH X W (.BoolOp .And (b :: rest) pos) tb) : WH X W (.BoolOp .And (a :: b :: rest) pos) (tdAnd ta tb) :=
  pwI (pw_and ha hb) fun σ H Q ⟨G, as, ρ, S, t, eo, q⟩ => ⟨G, as, ρ, S, t, eo, tR.bind q fun c G1 as1 S1 H1 t1 l1 q1 => by
    dsimp only
    cases c with
    | true => exact ⟨G1, as1, ρ, S1, t1, eo.le l1, q1⟩
    | false => exact tR.now q1 t1⟩
theorem wh_or (ha : TH X W a ta) (hb : WH X W (.BoolOp .Or (b :: rest) pos) tb) : WH X W (.BoolOp .Or (a :: b :: rest) pos) (tdOr ta tb) :=
  pwI (pw_or ha hb) fun σ H Q ⟨G, as, ρ, S, t, eo, q⟩ => ⟨G, as, ρ, S, t, eo, tR.bind q fun c G1 as1 S1 H1 t1 l1 q1 => by
    dsimp only
    cases c with
    | false => exact ⟨G1, as1, ρ, S1, t1, eo.le l1, q1⟩
    | true => exact tR.now q1 t1⟩
theorem th_bop (h : WH X W (.BoolOp .And rest pos) ta) : TH X W (.BoolOp .And rest pos) ta := h.pt
theorem th_bor (h : WH X W (.BoolOp .Or rest pos) ta) : TH X W (.BoolOp .Or rest pos) ta := h.pt
/-! as values -/
def dNot (da : Den) : Den := fun ρ => mbind (da ρ) fun d => mbind (boolD d) fun c => mret (.bl !c)
def dAnd (da db : Den) : Den := fun ρ => mbind (da ρ) fun d => mbind (boolD d) fun c => if c = true then db ρ else mret (.bl false)
def dOr (da db : Den) : Den := fun ρ => mbind (da ρ) fun d => mbind (boolD d) fun c => if c = true then mret (.bl true) else db ρ
theorem boolK {β : Type} {K : PySem.W.Frag} {σ : L2.St} {G H : Hp} {as : List Addr} {S : Store} {d : D} {v : V} {k : Bool → Mx β} {C : β → Hp → List Addr → Store → Hp → Prop} (q : tR K W σ G as S H (mbind (boolD d) k) C) (r : RV K G as v d) : ∃ c, v = .bl c ∧ tR K W σ G as S H (k c) C := by
  cases r with
  | bl b => exact ⟨b, rfl, q⟩
  | _ => exact (tR.no (show tR K W σ G as S H mnone C from q)).elim
theorem eh_not (ha : EH X W a da) : EH X W (.UnaryOp .Not a pos) (dNot da) :=
  peI (pe_not ha) fun σ H Q ⟨G, as, ρ, S, t, eo, q⟩ => ⟨G, as, ρ, S, t, eo, tF.bind q fun v d G1 as1 S1 H1 t1 l1 r1 q1 => by
    obtain ⟨c, rfl, q2⟩ := boolK q1 r1
    exact ⟨c, rfl, tF.now q2 t1 (.bl _)⟩⟩
theorem eh_one {op : BoolOp} (h : EH X W a da) : EH X W (.BoolOp op [a] pos) da := pe_one h
theorem eh_and (ha : EH X W a da) (hb : EH X W (.BoolOp .And (b :: rest) pos) db) : EH X W (.BoolOp .And (a :: b :: rest) pos) (dAnd da db) :=
  peI (pe_and ha hb) fun σ H Q ⟨G, as, ρ, S, t, eo, q⟩ => ⟨G, as, ρ, S, t, eo, tF.bind q fun v d G1 as1 S1 H1 t1 l1 r1 q1 => by
    obtain ⟨c, rfl, q2⟩ := boolK q1 r1
    refine ⟨c, rfl, ?_⟩
    cases c with
    | true => exact ⟨G1, as1, ρ, S1, t1, eo.le l1, q2⟩
    | false => exact tF.now q2 t1 (.bl _)⟩
theorem eh_or (ha : EH X W a da) (hb : EH X W (.BoolOp .Or (b :: rest) pos) db) : EH X W (.BoolOp .Or (a :: b :: rest) pos) (dOr da db) :=
  peI (pe_or ha hb) fun σ H Q ⟨G, as, ρ, S, t, eo, q⟩ => ⟨G, as, ρ, S, t, eo, tF.bind q fun v d G1 as1 S1 H1 t1 l1 r1 q1 => by
    obtain ⟨c, rfl, q2⟩ := boolK q1 r1
    refine ⟨c, rfl, ?_⟩
    cases c with
    | false => exact ⟨G1, as1, ρ, S1, t1, eo.le l1, q2⟩
    | true => exact tF.now q2 t1 (.bl _)⟩
def dIf (tc : TD) (da db : Den) : Den := fun ρ => mbind (tc ρ) fun c => if c = true then da ρ else db ρ
theorem eh_if (hc : TH X W c ta) (ha : EH X W a da) (hb : EH X W b db) : EH X W (.IfExp c a b pos) (dIf ta da db) :=
  peI (pe_ifExp hc ha hb) fun σ H Q ⟨G, as, ρ, S, t, eo, q⟩ => ⟨G, as, ρ, S, t, eo, tR.bind q fun c G1 as1 S1 H1 t1 l1 q1 => by
    cases c with
    | true => exact ⟨G1, as1, ρ, S1, t1, eo.le l1, q1⟩
    | false => exact ⟨G1, as1, ρ, S1, t1, eo.le l1, q1⟩⟩
/-- a < b < c -/
def dChain (f g : D → D → Mx D) (da db dc : Den) : Den := fun ρ => mbind (da ρ) fun x => mbind (db ρ) fun y => mbind (f x y) fun z => mbind (boolD z) fun k => if k = true then mbind (dc ρ) fun w => g y w else mret (.bl false)
theorem chainQ {r r' : R2} {f g : D → D → Mx D} (pr : Prim2 X.K W r f) (pr' : Prim2 X.K W r' g) {σ : L2.St} {H : Hp} {Q : VK} (h : tH X.K W (dChain f g da db dc) σ H Q) : tChain r r' (tH X.K W da) (tH X.K W db) (tH X.K W dc) σ H Q := by
  obtain ⟨G, as, ρ, S, t, eo, q⟩ := h
  refine ⟨G, as, ρ, S, t, eo, tF.bind q fun v d G1 as1 S1 H1 t1 l1 r1 q1 => ⟨G1, as1, ρ, S1, t1, eo.le l1, tF.bind q1 fun w e G2 as2 S2 H2 t2 l2 r2 q2 => ?_⟩⟩
  refine pr σ G2 as2 S2 H2 d e v w _ t2 (r1.le l2) r2 (tF.bind q2 fun z zd G3 as3 S3 H3 t3 l3 r3 q3 => ?_)
  obtain ⟨k, rfl, q4⟩ := boolK q3 r3
  refine ⟨k, rfl, ?_⟩
  cases k with
  | false => exact tF.now q4 t3 (.bl _)
  | true => exact ⟨G3, as3, ρ, S3, t3, (eo.le l1).le (l2.trans l3), tF.bind q4 fun u ud G4 as4 S4 H4 t4 l4 r4 q5 => pr' σ G4 as4 S4 H4 e ud w u _ t4 (r2.le (l3.trans l4)) r4 q5⟩
theorem eh_chain {op op' : CmpOp} {r r' : R2} {f g : D → D → Mx D} (ho : OpR X (compareOp op) r) (pr : Prim2 X.K W r f) (ho' : OpR X (compareOp op') r') (pr' : Prim2 X.K W r' g) (ha : EH X W a da) (hb : EH X W b db) (hc : EH X W c dc)
    (hm : lastMarks [op, op'] [b, c] = false := by with_unfolding_all rfl) : EH X W (.Compare a [op, op'] [b, c] pos) (dChain f g da db dc) :=
  peI (pe_chain ho ho' ha hb hc hm) fun σ H Q h => chainQ pr pr' h
theorem th_chain {op op' : CmpOp} {r r' : R2} {f g : D → D → Mx D} (ho : OpR X (compareOp op) r) (pr : Prim2 X.K W r f) (ho' : OpR X (compareOp op') r') (pr' : Prim2 X.K W r' g) (ha : EH X W a da) (hb : EH X W b db) (hc : EH X W c dc)
    (hm : lastMarks [op, op'] [b, c] = false := by with_unfolding_all rfl) : TH X W (.Compare a [op, op'] [b, c] pos) (dBool (dChain f g da db dc)) :=
  ptI (pt_chain ho ho' ha hb hc hm) fun σ H Q ⟨G, as, ρ, S, t, eo, q⟩ => by
    have q0 : tF X.K W σ G as S H (dChain f g da db dc ρ) fun x H' => ∃ k, x = .bl k ∧ Q k H' := tF.bind (P := fun x H' => ∃ k, x = .bl k ∧ Q k H') q fun v d G1 as1 S1 H1 t1 l1 r1 q1 => boolQ q1 t1 r1
    exact chainQ pr pr' ⟨G, as, ρ, S, t, eo, q0⟩
end
end L2.Hy
end
section
/-! Data compared; lists and tuples made, asked, cut. -/
namespace L2.Hy
open PySem PySem.Spec PyProof.Rows
/-! ### as data -/
mutual
def pdG (r : Nat → Option PyData) : D → Option PyData
  | .non => some .none
  | .bl b => some (.bool b)
  | .int i => some (.int i)
  | .str x => some (.str x)
  | .tup ds => (pdsG r ds).map .tuple
  | .lst ds => (pdsG r ds).map .list
  | .h n => r n
  | _ => none
def pdsG (r : Nat → Option PyData) : List D → Option (List PyData)
  | [] => some []
  | d :: ds => match pdG r d, pdsG r ds with
    | some p, some ps => some (p :: ps)
    | _, _ => none
end
def rH (S : Store) : Nat → Nat → Option PyData
  | 0, _ => none
  | n + 1, k => match S[k]? with
    | some (some (.cl ds)) => (pdsG (rH S n) ds).map .list
    | _ => none
def pd (S : Store) (d : D) : Option PyData := pdG (rH S 8) d
section
variable {K : PySem.W.Frag} {W : WX} {σ : L2.St} {G H : Hp} {as : List Addr} {S : Store} {v : V} {d : D} {ds : List D}
mutual
theorem pdG_ok {r : Nat → Option PyData} (s : Same G H) (hr : ∀ k p a, r k = some p → as[k]? = some a → Dp K H (.ref a) p) {v : V} {d : D} {p : PyData} : RV K G as v d → pdG r d = some p → Dp K H v p
  | .non, e => by cases e; exact .non
  | .bl b, e => by cases e; exact .bl b
  | .int i, e => by cases e; exact .int i
  | .str x, e => by cases e; exact .str x
  | .ty _, e => by cases e
  | .cls _, e => by cases e
  | .nfn _, e => by cases e
  | .tup h x, e => by
    obtain ⟨ps, e1, rfl⟩ := Option.map_eq_some_iff.mp (show (pdsG r _).map _ = some p from e)
    exact .tup (sqT_same s h) (pdsG_ok s hr x e1)
  | .lst h x, e => by
    obtain ⟨ps, e1, rfl⟩ := Option.map_eq_some_iff.mp (show (pdsG r _).map _ = some p from e)
    exact .lst (.inl (.inl (s _ _ h))) (pdsG_ok s hr x e1)
  | .scr _, e => by cases e
  | .dct _ _, e => by cases e
  | .obj _ _, e => by cases e
  | .exc _ _, e => by cases e
  | .h n ea, e => hr n p _ e ea
theorem pdsG_ok {r : Nat → Option PyData} (s : Same G H) (hr : ∀ k p a, r k = some p → as[k]? = some a → Dp K H (.ref a) p) {v : List V} {d : List D} {p : List PyData} : RVs K G as v d → pdsG r d = some p → DpAll K H v p
  | .nil, e => by cases e; exact .nil
  | .cons h t, e => by
    unfold pdsG at e
    split at e
    · rename_i p1 p2 e1 e2
      cases e
      exact .cons (pdG_ok s hr h e1) (pdsG_ok s hr t e2)
    · cases e
end
theorem rH_ok (t : Ht K G as S H) : ∀ (n k : Nat) (p : PyData) (a : Addr), rH S n k = some p → as[k]? = some a → Dp K H (.ref a) p
  | 0, _, _, _, e, _ => by cases e
  | n + 1, k, p, a, e, ea => by
    unfold rH at e
    split at e
    · rename_i ds q
      obtain ⟨ps, e1, rfl⟩ := Option.map_eq_some_iff.mp e
      obtain ⟨a', e2, _, xs, e3, e4⟩ := t.cell _ _ q
      rw [ea] at e2
      cases e2
      exact .lst (.inl (.inl e3)) (pdsG_ok t.sub (rH_ok t n) e4 e1)
    · cases e
theorem pd_ok (t : Ht K G as S H) (r : RV K G as v d) {p : PyData} (e : pd S d = some p) : Dp K H v p := pdG_ok t.sub (rH_ok t 8) r e
end
/-- ==: b is not turned, else turned -/
def fEq (ng : Bool) (x y : D) : Mx D := mOf fun S => match pd S x, pd S y with
  | some p, some q => if SeqAt.shaped p = true ∧ SeqAt.shaped q = true then some (.bl (if ng = true then !PyData.eqv p q else PyData.eqv p q)) else none
  | _, _ => none
def fIn (ng : Bool) (x y : D) : Mx D := mOf fun S => match pd S x, pd S y with
  | some p, some (.list qs) => if SeqAt.shaped p = true ∧ SeqAt.shaped (.list qs) = true then some (.bl (if ng = true then !(qs.any fun z => PyData.eqv z p) else qs.any fun z => PyData.eqv z p)) else none
  | _, _ => none
def fInS (ng : Bool) : D → D → Mx D
  | .str i, .str j => mret (.bl (if ng = true then !(!(Builtin.Str.occurrences j i 0 j.length 1).isEmpty) else !(Builtin.Str.occurrences j i 0 j.length 1).isEmpty))
  | _, _ => mnone
def isNon : D → Option Bool
  | .non => some true
  | _ => some false
def fIsN (ng : Bool) : D → D → Mx D
  | x, .non => mOf fun _ => (isNon x).map fun b => .bl (if ng = true then !b else b)
  | _, _ => mnone
section
variable {K : PySem.W.Frag} {W : WX}
theorem prEq : Prim2 K W (rEqD K) (fEq false) := fun σ G as S H x y v w Q t rx ry q => by
  obtain ⟨d, e, q⟩ := q.of t
  split at e
  · rename_i p1 p2 e1 e2
    split at e
    · rename_i hs
      cases e
      exact ⟨p1, p2, pd_ok t rx e1, pd_ok t ry e2, hs.1, hs.2, q _ (.bl _)⟩
    · cases e
  · cases e
theorem prNe : Prim2 K W (rNeD K) (fEq true) := fun σ G as S H x y v w Q t rx ry q => by
  obtain ⟨d, e, q⟩ := q.of t
  split at e
  · rename_i p1 p2 e1 e2
    split at e
    · rename_i hs
      cases e
      exact ⟨p1, p2, pd_ok t rx e1, pd_ok t ry e2, hs.1, hs.2, q _ (.bl _)⟩
    · cases e
  · cases e
theorem prIn : Prim2 K W (rInD K) (fIn false) := fun σ G as S H x y v w Q t rx ry q => by
  obtain ⟨d, e, q⟩ := q.of t
  split at e
  · rename_i p1 p2 e1 e2
    split at e
    · rename_i hs
      cases e
      exact ⟨p1, p2, pd_ok t rx e1, pd_ok t ry e2, hs.1, hs.2, q _ (.bl _)⟩
    · cases e
  · cases e
theorem prNotIn : Prim2 K W (rNotInD K) (fIn true) := fun σ G as S H x y v w Q t rx ry q => by
  obtain ⟨d, e, q⟩ := q.of t
  split at e
  · rename_i p1 p2 e1 e2
    split at e
    · rename_i hs
      cases e
      exact ⟨p1, p2, pd_ok t rx e1, pd_ok t ry e2, hs.1, hs.2, q _ (.bl _)⟩
    · cases e
  · cases e
theorem prInS : Prim2 K W (fun x y H Q => ∃ i j, x = .str i ∧ y = .str j ∧ Q (.bl (!(Builtin.Str.occurrences j i 0 j.length 1).isEmpty)) H) (fInS false) := fun σ G as S H x y v w Q t rx ry q => by
  cases rx <;> cases ry <;> first | exact (tR.no q).elim | exact ⟨_, _, rfl, rfl, tF.now q t (.bl _)⟩
theorem prNotInS : Prim2 K W (fun x y H Q => ∃ i j, x = .str i ∧ y = .str j ∧ Q (.bl (!(!(Builtin.Str.occurrences j i 0 j.length 1).isEmpty))) H) (fInS true) := fun σ G as S H x y v w Q t rx ry q => by
  cases rx <;> cases ry <;> first | exact (tR.no q).elim | exact ⟨_, _, rfl, rfl, tF.now q t (.bl _)⟩
theorem nonB {G : Hp} {as : List Addr} {v : V} {d : D} {b : Bool} (r : RV K G as v d) (e : isNon d = some b) : decide (v = .non) = b := by
  cases r <;> cases e <;> simp
theorem prIsN : Prim2 K W (fun x y H Q => y = .non ∧ Q (.bl (decide (x = .non))) H) (fIsN false) := fun σ G as S H x y v w Q t rx ry q => by
  cases ry with
  | non =>
    obtain ⟨d, e, q⟩ := q.of t
    obtain ⟨b, e1, rfl⟩ := Option.map_eq_some_iff.mp e
    refine ⟨rfl, ?_⟩
    rw [nonB rx e1]
    exact q _ (.bl _)
  | _ => exact (tR.no (show tF K W σ G as S H mnone Q by cases rx <;> exact q)).elim
theorem prNotN : Prim2 K W (fun x y H Q => y = .non ∧ Q (.bl (!decide (x = .non))) H) (fIsN true) := fun σ G as S H x y v w Q t rx ry q => by
  cases ry with
  | non =>
    obtain ⟨d, e, q⟩ := q.of t
    obtain ⟨b, e1, rfl⟩ := Option.map_eq_some_iff.mp e
    refine ⟨rfl, ?_⟩
    rw [nonB rx e1]
    exact q _ (.bl _)
  | _ => exact (tR.no (show tF K W σ G as S H mnone Q by cases rx <;> exact q)).elim
end
/-! ### new lists and tuples -/
def allocL (b : Bool) (ds : List D) : Mx D := fun S => if ds.length ≤ 16777216 then (if b = true then some (.ok (.h S.length), S ++ [some (.cl ds)]) else some (.ok (.lst ds), S)) else none
def allocT (ds : List D) : Mx D := fun S => if ds.length ≤ 16777216 then some (.ok (.tup ds), S) else none
section
variable {K : PySem.W.Frag} {W : WX} {σ : L2.St} {G H : Hp} {as : List Addr} {S : Store} {xs : List V} {ds : List D} {Q : VK}
theorem allocL_ok {b : Bool} (q : tF K W σ G as S H (allocL b ds) Q) (t : Ht K G as S H) (r : RVs K G as xs ds) : xs.length ≤ sizeLine ∧ ∀ p, H p = none → Q (.ref p) (upd H p (.lst xs)) := by
  obtain ⟨r0, S', e, h⟩ := q
  unfold allocL at e
  split at e
  · rename_i hz
    refine ⟨by rw [sizeLine_eq, r.len]; exact hz, fun p hp => ?_⟩
    cases b with
    | false =>
      cases e
      obtain ⟨t1, l1⟩ := t.settle hp (.lst xs)
      exact h _ _ _ t1 l1 _ (.lst upd_same (r.le l1))
    | true =>
      cases e
      obtain ⟨t1, l1⟩ := t.alloc hp (o := .lst xs) (c := .cl ds) fun H' e' => ⟨xs, e', r⟩
      refine h _ _ _ t1 l1 _ (.h _ ?_)
      rw [← t.len, List.getElem?_append_right (Nat.le_refl _), Nat.sub_self]
      rfl
  · cases e
theorem allocT_ok (q : tF K W σ G as S H (allocT ds) Q) (t : Ht K G as S H) (r : RVs K G as xs ds) : xs.length ≤ sizeLine ∧ ∀ p, H p = none → Q (.ref p) (upd H p (.tup xs)) := by
  obtain ⟨r0, S', e, h⟩ := q
  unfold allocT at e
  split at e
  · rename_i hz
    refine ⟨by rw [sizeLine_eq, r.len]; exact hz, fun p hp => ?_⟩
    cases e
    obtain ⟨t1, l1⟩ := t.settle hp (.tup xs)
    exact h _ _ _ t1 l1 _ (.tup (.inl (.inl upd_same)) (r.le l1))
  · cases e
end
/-! ### argument lists, displays -/
abbrev AD := Env → Mx (List D)
abbrev AH (X : Cx) (W : WX) (es : List Expr) (den : AD) : Prop := PA X es (tHa X.K W den)
def aNil : AD := fun _ => mret []
def aCons (da : Den) (db : AD) : AD := fun ρ => mbind (da ρ) fun x => mbind (db ρ) fun xs => mret (x :: xs)
section
variable {X : Cx} {W : WX} {a b c : Expr} {es : List Expr} {da db dc : Den} {dd : AD} {ta tb : TD} {pos : Pos}
theorem paI' {t t' : TA} (h : PA X es t) (i : ∀ σ H Q, t' σ H Q → t σ H Q) : PA X es t' := paI h i
theorem ah_nil : AH X W [] aNil := paI pa_nil fun σ H Q ⟨G, as, ρ, S, t, eo, q⟩ => tR.now q t _ .nil
theorem ah_cons (ha : EH X W a da) (hr : AH X W es dd) (hs : starEach (a :: es) X.env = (false, eval a X.env) :: starEach es X.env := by rfl) : AH X W (a :: es) (aCons da dd) :=
  paI (pa_cons ha hr hs) fun σ H Q ⟨G, as, ρ, S, t, eo, q⟩ => ⟨G, as, ρ, S, t, eo, tF.bind q fun v d G1 as1 S1 H1 t1 l1 r1 q1 => ⟨G1, as1, ρ, S1, t1, eo.le l1, tR.bind q1 fun ds G2 as2 S2 H2 t2 l2 q2 vs rs => tR.now q2 t2 _ (.cons (r1.le l2) rs)⟩⟩
/-- the arguments' values, and on -/
theorem tL.bind {β : Type} {K : PySem.W.Frag} {σ : L2.St} {G H : Hp} {as : List Addr} {S : Store} {m : Mx (List D)} {k : List D → Mx β} {C : β → Hp → List Addr → Store → Hp → Prop} {P : List V → Hp → Prop} (h : tR K W σ G as S H (mbind m k) C)
    (hk : ∀ vs ds G1 as1 S1 H1, Ht K G1 as1 S1 H1 → Le G as H G1 as1 H1 → RVs K G1 as1 vs ds → tR K W σ G1 as1 S1 H1 (k ds) C → P vs H1) : tL K W σ G as S H m P :=
  tR.bind h fun ds G1 as1 S1 H1 t l q vs r => hk vs ds G1 as1 S1 H1 t l r q
def dLst (b : Bool) (dd : AD) : Den := fun ρ => mbind (dd ρ) (allocL b)
def dTup (dd : AD) : Den := fun ρ => mbind (dd ρ) allocT
theorem eh_lst (b : Bool) (h : AH X W es dd) : EH X W (.List es pos) (dLst b dd) :=
  peI (pe_lst h) fun σ H Q ⟨G, as, ρ, S, t, eo, q⟩ => ⟨G, as, ρ, S, t, eo, tL.bind q fun vs ds G1 as1 S1 H1 t1 l1 r1 q1 => allocL_ok q1 t1 r1⟩
theorem eh_tup {x1} (h : AH X W es dd) : EH X W (.Tuple es x1 pos) (dTup dd) :=
  peI (pe_tup h) fun σ H Q ⟨G, as, ρ, S, t, eo, q⟩ => ⟨G, as, ρ, S, t, eo, tL.bind q fun vs ds G1 as1 S1 H1 t1 l1 r1 q1 => allocT_ok q1 t1 r1⟩
/-! ### an item -/
def fIx : D → D → Mx D
  | .str z, .int i => mOf fun _ => if z.length ≤ 16777216 then (atI z.cps.toList i).map fun c => .str ⟨#[c]⟩ else none
  | x, .int i => mOf fun S => (seqD S x).bind fun ds => atI ds i
  | _, _ => mnone
theorem atI_ok {K : PySem.W.Frag} {G : Hp} {as : List Addr} {xs : List V} {ds : List D} {i : Int} {d : D} (r : RVs K G as xs ds) (e : atI ds i = some d) : ∃ v, atI xs i = some v ∧ RV K G as v d := by
  unfold atI at e ⊢
  rw [r.len]
  obtain ⟨j, e1, e2⟩ := Option.bind_eq_some_iff.mp e
  obtain ⟨v, e3, r3⟩ := r.at e2
  exact ⟨v, by rw [e1]; exact e3, r3⟩
theorem prIx {K : PySem.W.Frag} : Prim2 K W (rIx K) fIx := fun σ G as S H x y v w Q t rx ry q => by
  have hq : ∀ {i : Int}, y = .int i → w = .int i → (∀ z, x ≠ .str z) → (tF K W σ G as S H (mOf fun S => (seqD S x).bind fun ds => atI ds i) Q) → rIx K v w H Q := by
    intro i hy hw hx q
    obtain ⟨d, e, q⟩ := q.of t
    obtain ⟨ds, e1, e2⟩ := Option.bind_eq_some_iff.mp e
    obtain ⟨a, xs, rfl, e3, r3⟩ := t.seq rx e1
    obtain ⟨u, e4, r4⟩ := atI_ok r3 e2
    rcases e3 with e3 | e3
    · exact .inl ⟨a, xs, i, u, rfl, hw, e3, e4, q u r4⟩
    · exact .inr (.inl ⟨a, xs, i, u, rfl, hw, e3, e4, q u r4⟩)
  cases ry with
  | int i =>
    by_cases hx : ∃ z, x = .str z
    · obtain ⟨z, rfl⟩ := hx
      cases rx
      obtain ⟨d, e, q⟩ := q.of t
      split at e
      · rename_i hz
        obtain ⟨c, e1, rfl⟩ := Option.map_eq_some_iff.mp e
        exact .inr (.inr ⟨z, i, c, rfl, rfl, by rw [sizeLine_eq]; exact hz, e1, q _ (.str _)⟩)
      · cases e
    · have hx' : ∀ z, x ≠ .str z := fun z e => hx ⟨z, e⟩
      refine hq rfl rfl hx' ?_
      cases x <;> first | exact q | exact absurd rfl (hx' _)
  | _ => exact (tR.no (show tF K W σ G as S H mnone Q by cases x <;> exact q)).elim
theorem eh_ix (ha : EH X W a da) (hb : EH X W b db) (hs : PlainIx b) : EH X W (.Subscript a b pos) (d2 fIx da db) :=
  peI (pe_ix ix_seq ha hb hs) fun σ H Q ⟨G, as, ρ, S, t, eo, q⟩ => ⟨G, as, ρ, S, t, eo, tF.bind q fun v d G1 as1 S1 H1 t1 l1 r1 q1 => ⟨G1, as1, ρ, S1, t1, eo.le l1, tF.bind q1 fun w e G2 as2 S2 H2 t2 l2 r2 q2 => prIx σ G2 as2 S2 H2 d e v w Q t2 (r1.le l2) r2 q2⟩⟩
end
end L2.Hy
end
section
/-! What statements come to. -/
namespace L2.Hy
open PySem PySem.Spec PyProof.Rows
/-- what a statement ends with: on, a value handed back, break, continue, an exception -/
inductive Ou where
  | nx (ρ : Env)
  | rt (d : D)
  | bk (ρ : Env)
  | ct (ρ : Env)
  | xc (ρ : Env) (c f : Str) (d : D)
abbrev Sx := Store → Option (Ou × Store)
abbrev SDen := Env → Sx
def sOu (o : Ou) : Sx := fun S => some (o, S)
def sNo : Sx := fun _ => none
def lift {α : Type} (ρ : Env) (m : Mx α) (k : α → Sx) : Sx := fun S => match m S with
  | some (.ok a, S1) => k a S1
  | some (.ex c f d, S1) => some (.xc ρ c f d, S1)
  | none => none
/-- what is wanted of an end -/
def tOu (K : PySem.W.Frag) (W : WX) (D : Ends) (n : Nat) (Hs : Hp) (G : Hp) (as : List Addr) (H : Hp) : Ou → Prop
  | .nx ρ => ∀ σ, σ.length = n → EnvOk K G as σ ρ → D.nx σ H
  | .bk ρ => ∀ σ, σ.length = n → EnvOk K G as σ ρ → D.bk σ H
  | .ct ρ => ∀ σ, σ.length = n → EnvOk K G as σ ρ → D.ct σ H
  | .rt d => ∀ v, RV K G as v d → D.rt v H
  | .xc ρ c f d => ∀ σ v dd, σ.length = n → EnvOk K G as σ ρ → RV K G as v d → H dd = some (.xd [(f, v)]) → dd ∉ as → G dd = none → Hs dd = none → W (.ref (He.ga K c)) (some dd) σ H
def tS (K : PySem.W.Frag) (W : WX) (D : Ends) (n : Nat) (G : Hp) (as : List Addr) (S : Store) (H : Hp) (m : Sx) : Prop :=
  ∃ o S', m S = some (o, S') ∧ ∀ G' as' H', Ht K G' as' S' H' → Le G as H G' as' H' → tOu K W D n H G' as' H' o
def tHs (K : PySem.W.Frag) (W : WX) (den : SDen) : TS := fun D σ H => ∃ G as ρ S, Ht K G as S H ∧ EnvOk K G as σ ρ ∧ tS K W D σ.length G as S H (den ρ)
abbrev SH (X : Cx) (W : WX) (st : Stmt) (den : SDen) : Prop := PS X st (tHs X.K W den)
abbrev SsH (X : Cx) (W : WX) (st : List Stmt) (den : SDen) : Prop := PSs X st (tHs X.K W den)
section
variable {α : Type} {K : PySem.W.Frag} {W : WX} {D : Ends} {n : Nat} {σ : L2.St} {G H : Hp} {as : List Addr} {S : Store} {ρ : Env}
theorem tOu.on {Hs Hs' : Hp} {o : Ou} (h : tOu K W D n Hs G as H o) (i : ∀ dd, Hs' dd = none → Hs dd = none) : tOu K W D n Hs' G as H o := by
  cases o with
  | xc ρ c f d => exact fun σ v dd sl eo r q1 q2 q3 q4 => h σ v dd sl eo r q1 q2 q3 (i dd q4)
  | _ => exact h
theorem tS.on {m : Sx} (h : tS K W D n G as S H m) {G1 H1 : Hp} {S1 : Store} (t1 : Ht K G1 as S1 H1) (l : Le G as H G1 as H1) (e : S1 = S) : tS K W D n G1 as S1 H1 m := by
  subst e
  obtain ⟨o, S', e, h⟩ := h
  exact ⟨o, S', e, fun G' as' H' t' l' => (h G' as' H' t' (l.trans l')).on fun dd q => Le.was t1 l q⟩
theorem tS.no (h : tS K W D n G as S H sNo) : False := by
  obtain ⟨_, _, e, _⟩ := h
  cases e
theorem tS.now {o : Ou} (h : tS K W D n G as S H (sOu o)) (t : Ht K G as S H) : tOu K W D n H G as H o := by
  obtain ⟨_, _, e, h⟩ := h
  cases e
  exact h G as H t Le.refl
theorem tS.lift {m : Mx α} {k : α → Sx} (h : tS K W D σ.length G as S H (lift ρ m k)) (eo : EnvOk K G as σ ρ) {C : α → Hp → List Addr → Store → Hp → Prop}
    (hk : ∀ a G1 as1 S1 H1, Ht K G1 as1 S1 H1 → Le G as H G1 as1 H1 → tS K W D σ.length G1 as1 S1 H1 (k a) → C a G1 as1 S1 H1) : tR K W σ G as S H m C := by
  obtain ⟨o, S', e, h⟩ := h
  unfold Hy.lift at e
  cases hm : m S with
  | none =>
    rw [hm] at e
    cases e
  | some p =>
    obtain ⟨r0, S1⟩ := p
    rw [hm] at e
    cases r0 with
    | ok a => exact ⟨.ok a, S1, hm, fun G1 as1 H1 t l => hk a G1 as1 S1 H1 t l ⟨o, S', e, fun G' as' H' t' l' => (h G' as' H' t' (l.trans l')).on fun dd q => Le.was t l q⟩⟩
    | ex c f d =>
      cases e
      exact ⟨_, _, hm, fun v dd G' as' H' t l r q1 q2 q3 q4 => h G' as' H' t l σ v dd rfl (eo.le l) r q1 q2 q3 q4⟩
theorem tS.liftV {m : Mx Hy.D} {k : Hy.D → Sx} (h : tS K W D σ.length G as S H (Hy.lift ρ m k)) (eo : EnvOk K G as σ ρ) {Q : VK}
    (hk : ∀ v d G1 as1 S1 H1, Ht K G1 as1 S1 H1 → Le G as H G1 as1 H1 → RV K G1 as1 v d → tS K W D σ.length G1 as1 S1 H1 (k d) → Q v H1) : tF K W σ G as S H m Q :=
  h.lift eo fun d G1 as1 S1 H1 t l q v r => hk v d G1 as1 S1 H1 t l r q
/-- one after another -/
def seqX (ρm : Sx) (k : Env → Sx) : Sx := fun S => match ρm S with
  | some (.nx ρ, S1) => k ρ S1
  | r => r
theorem tS.seq {m : Sx} {k : Env → Sx} (h : tS K W D n G as S H (seqX m k)) {N : L2.St → Hp → Prop} (hk : ∀ ρ1 G1 as1 S1 H1 σ1, Ht K G1 as1 S1 H1 → Le G as H G1 as1 H1 → σ1.length = n → EnvOk K G1 as1 σ1 ρ1 → tS K W D n G1 as1 S1 H1 (k ρ1) → N σ1 H1) :
    tS K W { D with nx := N } n G as S H m := by
  obtain ⟨o, S', e, h⟩ := h
  unfold seqX at e
  cases hm : m S with
  | none =>
    rw [hm] at e
    cases e
  | some p =>
    obtain ⟨o0, S1⟩ := p
    rw [hm] at e
    cases o0 with
    | nx ρ1 => exact ⟨.nx ρ1, S1, hm, fun G1 as1 H1 t l σ1 sl eo => hk ρ1 G1 as1 S1 H1 σ1 t l sl eo ⟨o, S', e, fun G' as' H' t' l' => (h G' as' H' t' (l.trans l')).on fun dd q => Le.was t l q⟩⟩
    | _ =>
      cases e
      exact ⟨_, _, hm, h⟩
theorem tS.ends {D' : Ends} {m : Sx} (h : tS K W D n G as S H m) (e : D = D') : tS K W D' n G as S H m := e ▸ h
end
section
variable {X : Cx} {W : WX} {e : Expr} {st : Stmt} {rest a b : List Stmt} {den : Den} {td : TD} {da db : SDen} {pos : Pos}
theorem sh_never : SH X W st fun _ => sNo := psI ps_never fun D σ H ⟨G, as, ρ, S, t, eo, q⟩ => (tS.no q).elim
def sNil : SDen := fun ρ => sOu (.nx ρ)
def sSeq (da db : SDen) : SDen := fun ρ => seqX (da ρ) db
theorem ss_nil : SsH X W [] sNil := pssI pss_nil fun D σ H ⟨G, as, ρ, S, t, eo, q⟩ => tS.now q t σ rfl eo
theorem ss_cons (h1 : SH X W st da) (h2 : SsH X W rest db) : SsH X W (st :: rest) (sSeq da db) :=
  pssI (pss_cons h1 h2) fun D σ H ⟨G, as, ρ, S, t, eo, q⟩ => ⟨G, as, ρ, S, t, eo, q.seq fun ρ1 G1 as1 S1 H1 σ1 t1 l1 sl e1 q1 => ⟨G1, as1, ρ1, S1, t1, e1, by rw [sl]; exact q1⟩⟩
theorem ss_one (h1 : SH X W st da) : SsH X W [st] da := pss_one h1
def sRet (den : Den) : SDen := fun ρ => lift ρ (den ρ) fun d => sOu (.rt d)
theorem sh_ret (he : EH X W e den) : SH X W (.Return (some e) pos) (sRet den) :=
  psI (ps_ret he) fun D σ H ⟨G, as, ρ, S, t, eo, q⟩ => ⟨G, as, ρ, S, t, eo, q.liftV eo fun v d G1 as1 S1 H1 t1 l1 r1 q1 => tS.now q1 t1 v r1⟩
theorem sh_retN : SH X W (.Return none pos) fun _ => sOu (.rt .non) := psI ps_retN fun D σ H ⟨G, as, ρ, S, t, eo, q⟩ => tS.now q t _ .non
def sExp (den : Den) : SDen := fun ρ => lift ρ (den ρ) fun _ => sOu (.nx ρ)
theorem sh_expr (he : EH X W e den) (hs : swapsWith e none pos.line X.env = pure false := by rfl) : SH X W (.Expr e pos) (sExp den) :=
  psI (ps_expr he hs) fun D σ H ⟨G, as, ρ, S, t, eo, q⟩ => ⟨G, as, ρ, S, t, eo, q.liftV eo fun v d G1 as1 S1 H1 t1 l1 r1 q1 => tS.now q1 t1 σ rfl (eo.le l1)⟩
theorem sh_pass : SH X W (.Pass pos) sNil := psI ps_pass fun D σ H ⟨G, as, ρ, S, t, eo, q⟩ => tS.now q t σ rfl eo
theorem sh_doc {x j pos pos'} : SH X W (.Expr (.Constant (.str x) j pos) pos') sNil := psI ps_doc fun D σ H ⟨G, as, ρ, S, t, eo, q⟩ => tS.now q t σ rfl eo
theorem sh_break : SH X W (.Break pos) fun ρ => sOu (.bk ρ) := psI ps_break fun D σ H ⟨G, as, ρ, S, t, eo, q⟩ => tS.now q t σ rfl eo
theorem sh_cont : SH X W (.Continue pos) fun ρ => sOu (.ct ρ) := psI ps_continue fun D σ H ⟨G, as, ρ, S, t, eo, q⟩ => tS.now q t σ rfl eo
def sIf (td : TD) (da db : SDen) : SDen := fun ρ => lift ρ (td ρ) fun c => if c = true then da ρ else db ρ
theorem sh_if (hc : TH X W e td) (ha : SsH X W a da) (hb : SsH X W b db) : SH X W (.If e a b pos) (sIf td da db) :=
  psI (ps_if hc ha hb) fun D σ H ⟨G, as, ρ, S, t, eo, q⟩ => ⟨G, as, ρ, S, t, eo, q.lift eo fun c G1 as1 S1 H1 t1 l1 q1 => by
    cases c with
    | true => exact ⟨G1, as1, ρ, S1, t1, eo.le l1, q1⟩
    | false => exact ⟨G1, as1, ρ, S1, t1, eo.le l1, q1⟩⟩
/-! ### targets -/
structure Bd where
  vs : List Nat
  go : D → Env → Option Env
structure Bds where
  vs : List Nat
  go : List D → Env → Option Env
def Chg (vs : List Nat) (σ σ1 : L2.St) : Prop := σ1.length = σ.length ∧ ∀ i, i ∉ vs → σ1[i]? = σ[i]?
theorem Chg.refl {vs : List Nat} {σ : L2.St} : Chg vs σ σ := ⟨rfl, fun _ _ => rfl⟩
theorem Chg.trans {vs ws : List Nat} {σ σ1 σ2 : L2.St} (a : Chg vs σ σ1) (b : Chg ws σ1 σ2) : Chg (vs ++ ws) σ σ2 := ⟨b.1.trans a.1, fun i h => by
  rw [List.mem_append, not_or] at h
  exact (b.2 i h.2).trans (a.2 i h.1)⟩
def gH (K : PySem.W.Frag) (bd : Bd) : TG := fun v σ H Q => ∃ G as S ρ d ρ1, Ht K G as S H ∧ EnvOk K G as σ ρ ∧ RV K G as v d ∧ bd.go d ρ = some ρ1 ∧ ∀ σ1, Chg bd.vs σ σ1 → EnvOk K G as σ1 ρ1 → Q σ1 H
def gHs (K : PySem.W.Frag) (bd : Bds) : TGs := fun vs σ H Q => ∃ G as S ρ ds ρ1, Ht K G as S H ∧ EnvOk K G as σ ρ ∧ RVs K G as vs ds ∧ bd.go ds ρ = some ρ1 ∧ ∀ σ1, Chg bd.vs σ σ1 → EnvOk K G as σ1 ρ1 → Q σ1 H
abbrev GH (X : Cx) (tg : Expr) (bd : Bd) : Prop := PG X tg (gH X.K bd)
abbrev GsH (X : Cx) (tg : List Expr) (bd : Bds) : Prop := PGs X tg (gHs X.K bd)
theorem pgI {tg : Expr} {t t' : TG} (h : PG X tg t) (i : ∀ v σ H Q, t' v σ H Q → t v σ H Q) : PG X tg t' := ⟨fun pins s σ H v u Q I r q => h.run pins s σ H v u Q I r (i v σ H Q q)⟩
theorem pgsI {tg : List Expr} {t t' : TGs} (h : PGs X tg t) (i : ∀ v σ H Q, t' v σ H Q → t v σ H Q) : PGs X tg t' := ⟨fun pins s σ H v u Q I r q => h.run pins s σ H v u Q I r (i v σ H Q q)⟩
def bN (i : Nat) : Bd := ⟨[i], fun d ρ => some (ρ.set i (some d))⟩
def bNil : Bds := ⟨[], fun ds ρ => match ds with | [] => some ρ | _ => none⟩
def bCons (b : Bd) (bs : Bds) : Bds := ⟨b.vs ++ bs.vs, fun ds ρ => match ds with | d :: r => (b.go d ρ).bind (bs.go r) | _ => none⟩
def bTup (n : Nat) (bs : Bds) : Bd := ⟨bs.vs, fun d ρ => match d with | .tup ds => if ds.length = n then bs.go ds ρ else none | _ => none⟩
theorem chg_set {i : Nat} {σ : L2.St} {o : Option V} : Chg [i] σ (σ.set i o) := ⟨List.length_set, fun j h => by
  rw [List.mem_singleton] at h
  exact List.getElem?_set_ne fun z => h z.symm⟩
theorem gh_name (i : Nat) {x : Str} (h : PG X (.Name x pos) (gName i)) : GH X (.Name x pos) (bN i) := pgI h fun v σ H Q ⟨G, as, S, ρ, d, ρ1, t, eo, r, e, q⟩ => by
  cases e
  exact q _ chg_set (eo.set r i)
theorem gh_nil : GsH X [] bNil := pgsI pgs_nil fun vs σ H Q ⟨G, as, S, ρ, ds, ρ1, t, eo, r, e, q⟩ => by
  cases r with
  | nil =>
    cases e
    exact ⟨rfl, q _ Chg.refl eo⟩
  | cons _ _ => cases e
theorem gh_cons {tg : Expr} {tgs : List Expr} {bd : Bd} {bds : Bds} (h1 : GH X tg bd) (h2 : GsH X tgs bds)
    (hs : (assignEach (tg :: tgs) X.env).map (·.2) = assign tg X.env :: (assignEach tgs X.env).map (·.2) := by rfl) : GsH X (tg :: tgs) (bCons bd bds) :=
  pgsI (pgs_cons h1 h2 hs) fun vs σ H Q ⟨G, as, S, ρ, ds, ρ1, t, eo, r, e, q⟩ => by
    cases r with
    | nil => cases e
    | cons r rr =>
      obtain ⟨ρ0, e1, e2⟩ := Option.bind_eq_some_iff.mp e
      exact ⟨_, _, rfl, G, as, S, ρ, _, ρ0, t, eo, r, e1, fun σ1 c1 o1 => ⟨G, as, S, ρ0, _, ρ1, t, o1, rr, e2, fun σ2 c2 o2 => q σ2 (c1.trans c2) o2⟩⟩
theorem gh_tup {tgs : List Expr} {bds : Bds} {k n : Nat} (hc : X.calm = true) (h : GsH X tgs bds) (hn : (assignEach tgs X.env).length = n := by rfl) (hst : (assignEach tgs X.env).findIdx? (·.1) = none := by rfl) : GH X (.Tuple tgs k pos) (bTup n bds) :=
  pgI (pg_tup hc h hn hst) fun v σ H Q ⟨G, as, S, ρ, d, ρ1, t, eo, r, e, q⟩ => by
    cases r with
    | @tup a xs es h x =>
      change (if es.length = n then bds.go es ρ else none) = some ρ1 at e
      split at e
      · rename_i hl
        exact ⟨_, _, rfl, sqT_same t.sub h, by rw [x.len]; exact hl, G, as, S, ρ, es, ρ1, t, eo, x, e, q⟩
      · cases e
    | _ => cases e
/-- t = e -/
def sAsg (bd : Bd) (den : Den) : SDen := fun ρ => lift ρ (den ρ) fun d => match bd.go d ρ with
  | some ρ1 => sOu (.nx ρ1)
  | none => sNo
theorem asgQ {K : PySem.W.Frag} {bd : Bd} {D : Ends} {σ : L2.St} {H : Hp} (h : tHs K W (sAsg bd den) D σ H) : tAsg (tH K W den) (gH K bd) D σ H := by
  obtain ⟨G, as, ρ, S, t, eo, q⟩ := h
  refine ⟨G, as, ρ, S, t, eo, q.liftV eo fun v d G1 as1 S1 H1 t1 l1 r1 q1 => ?_⟩
  split at q1
  · rename_i ρ1 e1
    exact ⟨G1, as1, S1, ρ, d, ρ1, t1, eo.le l1, r1, e1, fun σ1 c1 o1 => tS.now q1 t1 σ1 c1.1 o1⟩
  · exact (tS.no q1).elim
theorem sh_asg {tg : Expr} {bd : Bd} (he : EH X W e den) (hg : GH X tg bd) (hs : swapsWithSole [tg] e pos.line X.env = pure false := by rfl) (hw : swappedStores [tg] e X.env = pure none := by rfl)
    (h1 : (assignEach [tg] X.env).map (·.2) = [assign tg X.env] := by rfl) : SH X W (.Assign [tg] e pos) (sAsg bd den) := psI (ps_asg he hg hs hw h1) fun D σ H => asgQ
/-- a, b = x, y -/
def sPar (i j : Nat) (dd : AD) : SDen := fun ρ => lift ρ (dd ρ) fun ds => match ds with
  | [x, y] => sOu (.nx ((ρ.set i (some x)).set j (some y)))
  | _ => sNo
theorem sh_par {i j : Nat} {x y : Str} {a b : Expr} {dd : AD} {px py pt : Pos} {kt k2 pt2} (hc : X.calm = true) (hN : X.N.Nodup) (hi : X.N[i]? = some x) (hj : X.N[j]? = some y) (hij : i ≠ j)
    (hx : X.env.scope.names.lookup x = some .local) (hy : X.env.scope.names.lookup y = some .local) (ha : AH X W [a, b] dd)
    (hw : swappedStores [.Tuple [.Name x px, .Name y py] kt pt] (.Tuple [a, b] k2 pt2) X.env = pure (some [x, y]) := by rfl) : SH X W (.Assign [.Tuple [.Name x px, .Name y py] kt pt] (.Tuple [a, b] k2 pt2) pos) (sPar i j dd) :=
  psI (ps_par hc hN hi hj hij hx hy ha hw) fun D σ H ⟨G, as, ρ, S, t, eo, q⟩ => ⟨G, as, ρ, S, t, eo, q.lift eo fun ds G1 as1 S1 H1 t1 l1 q1 vs rs => by
    split at q1
    · rename_i x y
      cases rs with
      | cons r1 rr =>
        cases rr with
        | cons r2 rr =>
          cases rr
          exact ⟨_, _, rfl, tS.now q1 t1 _ (by rw [List.length_set, List.length_set]) (((eo.le l1).set r1 i).set r2 j)⟩
    · exact (tS.no q1).elim⟩
end
/-! ### loops -/
/-- an iterator that gives ds, one by one -/
def YD (K : PySem.W.Frag) (G : Hp) (as : List Addr) (ds : List D) : Nat → Hp → V → Hp → Prop := fun i H x H' => ∀ G1 as1 S1 d, Ht K G1 as1 S1 H → Same G G1 → (∀ (n : Nat) (a : Addr), as[n]? = some a → as1[n]? = some a) → ds[i]? = some d →
  ∃ G2, Ht K G2 as1 S1 H' ∧ Le G1 as1 H G2 as1 H' ∧ RV K G2 as1 x d
def WalkD (K : PySem.W.Frag) (J : It) (G : Hp) (as : List Addr) (ds : List D) : Prop := Walk J ds.length (fun H => Same G H) (YD K G as ds)
def iH (K : PySem.W.Frag) (W : WX) (den : Env → Mx (List D)) : TI := fun σ H R => ∃ G as ρ S, Ht K G as S H ∧ EnvOk K G as σ ρ ∧ tR K W σ G as S H (den ρ) fun ds G1 as1 _ H1 => ∀ J, WalkD K J G1 as1 ds → R J H1
abbrev IH (X : Cx) (W : WX) (tg iter : Expr) (den : Env → Mx (List D)) : Prop := PI X tg iter (iH X.K W den)
/-- a loop -/
def loopX (bd : Bd) (body : SDen) : List D → SDen
  | [], ρ => sOu (.nx ρ)
  | d :: ds, ρ => match bd.go d ρ with
    | none => sNo
    | some ρ1 => fun S => match body ρ1 S with
      | some (.nx ρ2, S2) => loopX bd body ds ρ2 S2
      | some (.ct ρ2, S2) => loopX bd body ds ρ2 S2
      | some (.bk ρ2, S2) => some (.nx ρ2, S2)
      | r => r
def sFor (it : Env → Mx (List D)) (bd : Bd) (body : SDen) : SDen := fun ρ => lift ρ (it ρ) fun ds => loopX bd body ds ρ
section
variable {K : PySem.W.Frag} {W : WX} {D : Ends} {G0 H0 : Hp} {as0 : List Addr} {n : Nat}
theorem loop_step {bd : Bd} {body : SDen} {d : Hy.D} {ds : List Hy.D} {ρ : Env} {G H : Hp} {as : List Addr} {S : Store} {N : L2.St → Hp → Prop} (h : tS K W D n G as S H (loopX bd body (d :: ds) ρ))
    (hN : ∀ ρ2 G2 as2 S2 H2 σ2, Ht K G2 as2 S2 H2 → Le G as H G2 as2 H2 → σ2.length = n → EnvOk K G2 as2 σ2 ρ2 → tS K W D n G2 as2 S2 H2 (loopX bd body ds ρ2) → N σ2 H2) :
    ∃ ρ1, bd.go d ρ = some ρ1 ∧ tS K W { D with nx := N, ct := N, bk := D.nx } n G as S H (body ρ1) := by
  obtain ⟨o, S', e, h⟩ := h
  unfold loopX at e
  cases hb : bd.go d ρ with
  | none =>
    rw [hb] at e
    cases e
  | some ρ1 =>
    rw [hb] at e
    refine ⟨ρ1, rfl, ?_⟩
    dsimp only at e
    cases hm : body ρ1 S with
    | none =>
      rw [hm] at e
      cases e
    | some p =>
      obtain ⟨o0, S1⟩ := p
      rw [hm] at e
      have go : ∀ ρ2, loopX bd body ds ρ2 S1 = some (o, S') → ∀ G' as' H', Ht K G' as' S1 H' → Le G as H G' as' H' → ∀ σ, σ.length = n → EnvOk K G' as' σ ρ2 → N σ H' := fun ρ2 e' G' as' H' t l σ sl eo =>
        hN ρ2 G' as' S1 H' σ t l sl eo ⟨o, S', e', fun G2 as2 H2 t2 l2 => (h G2 as2 H2 t2 (l.trans l2)).on fun dd q => Le.was t l q⟩
      cases o0 with
      | nx ρ2 => exact ⟨.nx ρ2, S1, hm, go ρ2 e⟩
      | ct ρ2 => exact ⟨.ct ρ2, S1, hm, go ρ2 e⟩
      | bk ρ2 =>
        cases e
        exact ⟨_, _, hm, h⟩
      | rt d =>
        cases e
        exact ⟨_, _, hm, h⟩
      | xc ρ c f d =>
        cases e
        exact ⟨_, _, hm, h⟩
end
section
variable {X : Cx} {W : WX} {it tg : Expr} {body : List Stmt} {id : Env → Mx (List D)} {bd : Bd} {db : SDen} {pos : Pos}
theorem drop_cons {α : Type} {xs : List α} {i : Nat} (h : i < xs.length) : xs.drop i = xs[i] :: xs.drop (i + 1) := List.drop_eq_getElem_cons h
theorem sh_for (hp : PassesOwn (model X.prog X.w) X.A X.env X.xe) (hc : X.calm = true) (hi : IH X W tg it id) (hg : GH X tg bd) (hb : SsH X W body db)
    (hs : ∀ x, foldedSetIterable it X.env x = pure x := by intro _; rfl) : SH X W (.For tg it body [] pos) (sFor id bd db) := by
  refine psI (ps_for hp hc hi hg hb hs) fun D σ H ⟨G, as, ρ, S, t, eo, q⟩ => ?_
  refine ⟨G, as, ρ, S, t, eo, q.lift eo fun ds G1 as1 S1 H1 t1 l1 q1 J wk => ?_⟩
  refine for_it wk (fun i σ' H' => ∃ G' as' S' ρ', Ht X.K G' as' S' H' ∧ Le G1 as1 H1 G' as' H' ∧ σ'.length = σ.length ∧ EnvOk X.K G' as' σ' ρ' ∧ tS X.K W D σ.length G' as' S' H' (loopX bd db (ds.drop i) ρ')) ?_ ?_ ?_ ?_
  · exact ⟨G1, as1, S1, ρ, t1, Le.refl, rfl, eo.le l1, q1⟩
  · rintro i σ' H' _ ⟨G', as', S', ρ', t', l', _, _, _⟩
    exact l'.g.trans t'.sub
  · rintro i x σ' H' H2 hi ⟨G', as', S', ρ', t', l', sl, eo', q'⟩ y
    have hd : ds[i]? = some ds[i] := List.getElem?_eq_getElem hi
    obtain ⟨G2, t2, l2, r2⟩ := y G' as' S' ds[i] t' l'.g l'.ad hd
    rw [drop_cons hi] at q'
    have q2 : tS X.K W D σ.length G2 as' S' H2 (loopX bd db (ds[i] :: ds.drop (i + 1)) ρ') := q'.on t2 l2 rfl
    obtain ⟨ρ1, e1, q3⟩ := loop_step (N := fun σ' H' => ∃ G' as' S' ρ', Ht X.K G' as' S' H' ∧ Le G1 as1 H1 G' as' H' ∧ σ'.length = σ.length ∧ EnvOk X.K G' as' σ' ρ' ∧ tS X.K W D σ.length G' as' S' H' (loopX bd db (ds.drop (i + 1)) ρ')) q2
      fun ρ2 G3 as3 S3 H3 σ3 t3 l3 sl3 o3 q3 => ⟨G3, as3, S3, ρ2, t3, (l'.trans l2).trans l3, sl3, o3, q3⟩
    exact ⟨G2, as', S', ρ', ds[i], ρ1, t2, eo'.le l2, r2, e1, fun σ1 c1 o1 => ⟨G2, as', ρ1, S', t2, o1, by rw [c1.1, sl]; exact q3⟩⟩
  · rintro σ' H' ⟨G', as', S', ρ', t', l', sl, eo', q'⟩
    rw [List.drop_length] at q'
    exact tS.now q' t' σ' sl eo'
end
end L2.Hy
end
section
/-! What is walked: lists, tuples, ranges, enumerate, zip; comprehensions; freezing. -/
namespace L2.Hy
open PySem PySem.Spec PyProof.Rows
section
variable {K : PySem.W.Frag} {G H : Hp} {as : List Addr} {a : Addr} {xs : List V} {ds : List D}
theorem RVs.eq (r : RVs K G as xs ds) {i : Nat} {x : V} {d : D} (e1 : xs[i]? = some x) (e2 : ds[i]? = some d) : RV K G as x d := by
  obtain ⟨v, e3, r3⟩ := r.at e2
  rw [e1] at e3
  cases e3
  exact r3
/-- where the heap stays -/
theorem yd_still {Y : Nat → Hp → V → Hp → Prop} (h : ∀ i H x H', i < ds.length → Y i H x H' → H' = H ∧ ∀ d, ds[i]? = some d → RV K G as x d) {i : Nat} {x : V} {H' : Hp} (hi : i < ds.length) (y : Y i H x H') : YD K G as ds i H x H' := fun G1 as1 S1 d t s ad e => by
  obtain ⟨rfl, q⟩ := h i H x H' hi y
  exact ⟨G1, t, Le.refl, (q d e).up s ad⟩
theorem walkd_list (h : G a = some (.lst xs)) (r : RVs K G as xs ds) : WalkD K (Itl K a) G as ds := by
  have w := walk_list (K := K) (a := a) (xs := xs)
  rw [r.len] at w
  exact w.mono (fun H s => .inl (.inl (s _ _ h))) fun i H x H' hi _ y => yd_still (Y := YAt xs) (fun i H x H' _ y => ⟨y.1, fun d e => r.eq y.2 e⟩) hi y
theorem walkd_tup (h : SqT K G a xs) (r : RVs K G as xs ds) : WalkD K (Itt K a) G as ds := by
  have w := walk_tup (K := K) (a := a) (xs := xs)
  rw [r.len] at w
  exact w.mono (fun H s => sqT_same s h) fun i H x H' hi _ y => yd_still (Y := YAt xs) (fun i H x H' _ y => ⟨y.1, fun d e => r.eq y.2 e⟩) hi y
/-- lo, lo + 1, .. (n of them) -/
def rgD (lo : Int) (n : Nat) : List D := (List.range n).map fun i => .int (lo + (i : Nat))
theorem rgD_len {lo : Int} {n : Nat} : (rgD lo n).length = n := by unfold rgD; simp
theorem rgD_at {lo : Int} {n i : Nat} {d : D} (e : (rgD lo n)[i]? = some d) : d = .int (lo + (i : Nat)) := by
  unfold rgD at e
  rw [List.getElem?_map] at e
  obtain ⟨j, e1, rfl⟩ := Option.map_eq_some_iff.mp e
  obtain ⟨h1, h2⟩ := List.getElem?_eq_some_iff.mp e1
  rw [List.getElem_range] at h2
  rw [h2]
theorem walkd_range {lo : Int} {n : Nat} : WalkD K (Itr lo n) G as (rgD lo n) := by
  have w := walk_range (lo := lo) (n := n)
  unfold WalkD
  rw [rgD_len]
  refine w.mono (fun _ _ => trivial) fun i H x H' hi _ y => yd_still (Y := YFn fun i => .int (lo + (i : Nat))) (fun i H x H' _ y => ⟨y.1, fun d e => ?_⟩) (by rw [rgD_len]; exact hi) y
  rw [rgD_at e, y.2]
  exact .int _
/-- pairs -/
theorem yd_pair {xf yf : Nat → Option V} {es fs : Nat → D} (h : ∀ (i : Nat) (d : D), ds[i]? = some d → d = D.tup [es i, fs i]) (hx : ∀ i x, i < ds.length → xf i = some x → RV K G as x (es i)) (hy : ∀ i y, i < ds.length → yf i = some y → RV K G as y (fs i))
    {i : Nat} {v : V} {H' : Hp} (hi : i < ds.length) (y : YPair xf yf i H v H') : YD K G as ds i H v H' := fun G1 as1 S1 d t s ad e => by
  obtain ⟨T, x, z, rfl, hT, rfl, e1, e2⟩ := y
  obtain ⟨t1, l1⟩ := t.settle hT (.tup [x, z])
  rw [h i d e]
  exact ⟨_, t1, l1, .tup (.inl (.inl upd_same)) (.cons (((hx i x hi e1).up s ad).le l1) (.cons (((hy i z hi e2).up s ad).le l1) .nil))⟩
def enD (ds : List D) : List D := ds.mapIdx fun i d => .tup [.int (i : Nat), d]
theorem walkd_enum (h : G a = some (.lst xs)) (r : RVs K G as xs ds) : WalkD K (Ite K a) G as (enD ds) := by
  have w := walk_enum (K := K) (a := a) (xs := xs)
  rw [r.len] at w
  have hl : (enD ds).length = ds.length := by unfold enD; simp
  unfold WalkD
  rw [hl]
  refine w.mono (fun H s => .inl (.inl (s _ _ h))) fun i H x H' hi _ y => yd_pair (es := fun i => .int (i : Nat)) (fs := fun i => ds.getD i .non) (fun i d e => ?_) (fun i x _ e => ?_) (fun i x hi e => ?_) (by rw [hl]; exact hi) y
  · unfold enD at e
    rw [List.getElem?_mapIdx] at e
    obtain ⟨z, e1, rfl⟩ := Option.map_eq_some_iff.mp e
    show D.tup [.int (i : Nat), z] = .tup [.int (i : Nat), ds.getD i .non]
    rw [List.getD_eq_getElem?_getD, e1]
    rfl
  · cases e
    exact .int _
  · rw [hl] at hi
    exact r.eq e (by rw [List.getD_eq_getElem?_getD, List.getElem?_eq_getElem hi]; rfl)
def zpD (ds es : List D) : List D := List.zipWith (fun d e => .tup [d, e]) ds es
theorem walkd_zip {b : Addr} {ys : List V} {es : List D} (h : G a = some (.lst xs)) (r : RVs K G as xs ds) (h2 : G b = some (.lst ys)) (r2 : RVs K G as ys es) : WalkD K (Itz K a b) G as (zpD ds es) := by
  have hl : (zpD ds es).length = min ds.length es.length := by unfold zpD; simp
  have w := walk_zip (K := K) (a := a) (b := b) (xs := xs) (ys := ys) (n := min ds.length es.length) (by rw [r.len, r2.len])
  unfold WalkD
  rw [hl]
  refine w.mono (fun H s => ⟨.inl (.inl (s _ _ h)), .inl (.inl (s _ _ h2))⟩) fun i H x H' hi _ y => yd_pair (es := fun i => ds.getD i .non) (fs := fun i => es.getD i .non) (fun i d e => ?_) (fun i x hi e => ?_) (fun i x hi e => ?_) (by rw [hl]; exact hi) y
  · unfold zpD at e
    rw [List.getElem?_zipWith] at e
    split at e
    · rename_i z1 z2 e1 e2
      cases e
      show D.tup [z1, z2] = .tup [ds.getD i .non, es.getD i .non]
      rw [List.getD_eq_getElem?_getD, List.getD_eq_getElem?_getD, e1, e2]
      rfl
    · cases e
  · rw [hl] at hi
    exact r.eq e (by rw [List.getD_eq_getElem?_getD, List.getElem?_eq_getElem (by omega)]; rfl)
  · rw [hl] at hi
    exact r2.eq e (by rw [List.getD_eq_getElem?_getD, List.getElem?_eq_getElem (by omega)]; rfl)
end
theorem piI {X : Cx} {tg iter : Expr} {t t' : TI} (h : PI X tg iter t) (i : ∀ σ H R, t' σ H R → t σ H R) : PI X tg iter t' := ⟨fun pins s σ H R I q => h.run pins s σ H R I (i σ H R q)⟩
section
variable {X : Cx} {W : WX} {tg l : Expr} {dl : Den} {dd : AD} {p pos : Pos}
/-- a settled list -/
def itL : D → Mx (List D)
  | .lst ds => mret ds
  | _ => mnone
def itT : D → Mx (List D)
  | .tup ds => mret ds
  | _ => mnone
theorem ih_list (hl : EH X W l dl) : IH X W tg l (fun ρ => mbind (dl ρ) itL) := piI (pi_list hl) fun σ H R ⟨G, as, ρ, S, t, eo, q⟩ => ⟨G, as, ρ, S, t, eo, tF.bind q fun v d G1 as1 S1 H1 t1 l1 r1 q1 => by
  cases r1 with
  | lst h x => exact ⟨_, rfl, ⟨_, .inl (.inl (t1.sub _ _ h))⟩, tR.now q1 t1 _ (walkd_list h x)⟩
  | _ => exact (tR.no q1).elim⟩
theorem ih_tup (hl : EH X W l dl) : IH X W tg l (fun ρ => mbind (dl ρ) itT) := piI (pi_tup hl) fun σ H R ⟨G, as, ρ, S, t, eo, q⟩ => ⟨G, as, ρ, S, t, eo, tF.bind q fun v d G1 as1 S1 H1 t1 l1 r1 q1 => by
  cases r1 with
  | tup h x => exact ⟨_, rfl, ⟨_, sqT_same t1.sub h⟩, tR.now q1 t1 _ (walkd_tup h x)⟩
  | _ => exact (tR.no q1).elim⟩
def itR1 : List D → Mx (List D)
  | [.int j] => if -4611686018427387904 ≤ j ∧ j < 4611686018427387904 then mret (rgD 0 j.toNat) else mnone
  | _ => mnone
def itR2 : List D → Mx (List D)
  | [.int i, .int j] => if (-4611686018427387904 ≤ i ∧ i < 4611686018427387904) ∧ -4611686018427387904 ≤ j ∧ j < 4611686018427387904 then mret (rgD i (j - i).toNat) else mnone
  | _ => mnone
theorem ih_range1 {a : Expr} (hg : Gl X "range") (hm : X.mg "range" = none) (ha : AH X W [a] dd) (hs : starEach [a] X.env = [(false, eval a X.env)] := by rfl) : IH X W tg (.Call (.Name "range" p) [a] [] pos) (fun ρ => mbind (dd ρ) itR1) :=
  piI (pi_range1 hg hm ha hs) fun σ H R ⟨G, as, ρ, S, t, eo, q⟩ => ⟨G, as, ρ, S, t, eo, tL.bind q fun vs ds G1 as1 S1 H1 t1 l1 r1 q1 => by
    unfold itR1 at q1
    split at q1
    · split at q1
      · rename_i h
        cases r1 with
        | cons r rr =>
          cases r
          cases rr
          exact ⟨_, rfl, by omega, by omega, tR.now q1 t1 _ walkd_range⟩
      · exact (tR.no q1).elim
    · exact (tR.no q1).elim⟩
theorem ih_range2 {a b : Expr} (hg : Gl X "range") (hm : X.mg "range" = none) (ha : AH X W [a, b] dd) (hs : starEach [a, b] X.env = [(false, eval a X.env), (false, eval b X.env)] := by rfl) (hs2 : starEach [b] X.env = [(false, eval b X.env)] := by rfl) : IH X W tg (.Call (.Name "range" p) [a, b] [] pos) (fun ρ => mbind (dd ρ) itR2) :=
  piI (pi_range2 hg hm ha hs hs2) fun σ H R ⟨G, as, ρ, S, t, eo, q⟩ => ⟨G, as, ρ, S, t, eo, tL.bind q fun vs ds G1 as1 S1 H1 t1 l1 r1 q1 => by
    unfold itR2 at q1
    split at q1
    · split at q1
      · rename_i h
        cases r1 with
        | cons r rr =>
          cases r
          cases rr with
          | cons r rr =>
            cases r
            cases rr
            exact ⟨_, _, rfl, ⟨by omega, by omega, by omega, by omega⟩, tR.now q1 t1 _ walkd_range⟩
      · exact (tR.no q1).elim
    · exact (tR.no q1).elim⟩
def itE : List D → Mx (List D)
  | [.lst ds] => mret (enD ds)
  | _ => mnone
def itZ : List D → Mx (List D)
  | [.lst ds, .lst es] => mret (zpD ds es)
  | _ => mnone
theorem ih_enum {e : Expr} {elts : List Expr} {kk : Nat} {tpos : Pos} (hg : Gl X "enumerate") (hm : X.mg "enumerate" = none) (ha : AH X W [e] dd) (hs : starEach [e] X.env = [(false, eval e X.env)] := by rfl) :
    IH X W (.Tuple elts kk tpos) (.Call (.Name "enumerate" p) [e] [] pos) (fun ρ => mbind (dd ρ) itE) :=
  piI (pi_enum hg hm ha hs) fun σ H R ⟨G, as, ρ, S, t, eo, q⟩ => ⟨G, as, ρ, S, t, eo, tL.bind q fun vs ds G1 as1 S1 H1 t1 l1 r1 q1 => by
    unfold itE at q1
    split at q1
    · cases r1 with
      | cons r rr =>
        cases rr
        cases r with
        | lst h x => exact ⟨_, _, rfl, .inl (.inl (t1.sub _ _ h)), tR.now q1 t1 _ (walkd_enum h x)⟩
    · exact (tR.no q1).elim⟩
theorem ih_zip {e e2 : Expr} {elts : List Expr} {kk : Nat} {tpos : Pos} (hg : Gl X "zip") (hm : X.mg "zip" = none) (ha : AH X W [e, e2] dd) (hs : starEach [e, e2] X.env = (false, eval e X.env) :: starEach [e2] X.env := by rfl) (hpl : (backTo pos (starEach [e2] X.env)).any (·.1) = false := by rfl) :
    IH X W (.Tuple elts kk tpos) (.Call (.Name "zip" p) [e, e2] [] pos) (fun ρ => mbind (dd ρ) itZ) :=
  piI (pi_zip hg hm ha hs hpl) fun σ H R ⟨G, as, ρ, S, t, eo, q⟩ => ⟨G, as, ρ, S, t, eo, tL.bind q fun vs ds G1 as1 S1 H1 t1 l1 r1 q1 => by
    unfold itZ at q1
    split at q1
    · cases r1 with
      | cons r rr =>
        cases r with
        | lst h x =>
          cases rr with
          | cons r rr =>
            cases rr
            cases r with
            | lst h2 x2 => exact ⟨_, _, _, _, rfl, .inl (.inl (t1.sub _ _ h)), .inl (.inl (t1.sub _ _ h2)), tR.now q1 t1 _ (walkd_zip h x h2 x2)⟩
    · exact (tR.no q1).elim⟩
end
/-! ### comprehensions -/
/-- within a comprehension nothing is raised -/
abbrev W0 : WX := fun _ _ _ _ => False
def mNox {α : Type} (m : Mx α) : Mx α := fun S => match m S with
  | some (.ok a, S1) => some (.ok a, S1)
  | _ => none
/-- the items that a comprehension makes -/
def lcX (bd : Bd) (td : TD) (de : Den) (ρ : Env) : List D → Mx (List D)
  | [] => mret []
  | d :: ds => match bd.go d ρ with
    | none => mnone
    | some ρ1 => mbind (mNox (td ρ1)) fun c => if c = true then mbind (mNox (de ρ1)) fun x => mbind (lcX bd td de ρ ds) fun xs => mret (x :: xs) else lcX bd td de ρ ds
/-- the slots of the block's own names forgotten -/
def wipeE (ρ : Env) : List Nat → Env
  | [] => ρ
  | v :: vs => (wipeE ρ vs).set v none
def dLc (b : Bool) (vs : List Nat) (it : Env → Mx (List D)) (bd : Bd) (td : TD) (de : Den) : Den := fun ρ => mbind (it ρ) fun ds => mbind (lcX bd td de (wipeE ρ vs) ds) (allocL b)
theorem EnvOk.wipe {K : PySem.W.Frag} {G : Hp} {as : List Addr} {σ : L2.St} {ρ : Env} (e : EnvOk K G as σ ρ) : ∀ vs : List Nat, EnvOk K G as (L2.wipe σ vs) (wipeE ρ vs)
  | [] => e
  | v :: vs => (EnvOk.wipe e vs).gone v none
theorem wipe_in {σ : L2.St} : ∀ {vs : List Nat} {i : Nat}, i ∈ vs → (L2.wipe σ vs)[i]? = if i < σ.length then some none else none
  | v :: vs, i, h => by
    show ((L2.wipe σ vs).set v none)[i]? = _
    rw [List.getElem?_set]
    by_cases hv : v = i
    · rw [if_pos hv, L2.wipe_length, hv]
    · rw [if_neg hv]
      exact wipe_in ((List.mem_cons.mp h).resolve_left fun z => hv z.symm)
theorem chg_wipe {σ σ1 : L2.St} {ws vs : List Nat} (c : Chg ws (L2.wipe σ vs) σ1) (hw : ∀ i ∈ ws, i ∈ vs) : L2.wipe σ1 vs = L2.wipe σ vs := by
  refine List.ext_getElem? fun i => ?_
  by_cases h : i ∈ vs
  · rw [wipe_in h, wipe_in h, c.1, L2.wipe_length]
  · rw [L2.wipe_out h, c.2 i fun z => h (hw i z)]
section
variable {K : PySem.W.Frag} {W : WX} {σ : L2.St} {G H : Hp} {as : List Addr} {S : Store} {α β : Type}
/-- what is run without exceptions -/
theorem tR.nox {m : Mx α} {k : α → Mx β} {C : β → Hp → List Addr → Store → Hp → Prop} {σ' : L2.St} {Gb Hb : Hp} {asb : List Addr} (h : tR K W σ Gb asb S Hb (mbind (mNox m) k) C) {C' : α → Hp → List Addr → Store → Hp → Prop}
    (hk : ∀ a G1 as1 S1 H1, Ht K G1 as1 S1 H1 → Le G as H G1 as1 H1 → tR K W σ Gb asb S1 Hb (k a) C → C' a G1 as1 S1 H1) : tR K W0 σ' G as S H m C' := by
  obtain ⟨r, S', e, h⟩ := h
  unfold mbind mNox at e
  cases hm : m S with
  | none =>
    rw [hm] at e
    cases e
  | some p =>
    obtain ⟨r0, S1⟩ := p
    rw [hm] at e
    cases r0 with
    | ok a => exact ⟨.ok a, S1, hm, fun G1 as1 H1 t l => hk a G1 as1 S1 H1 t l ⟨r, S', e, h⟩⟩
    | ex c f d => cases e
/-- the heap goes on -/
theorem tR.on {m : Mx α} {C : α → Hp → List Addr → Store → Hp → Prop} (h : tR K W σ G as S H m C) {G' H' : Hp} {S' : Store} (t' : Ht K G' as S' H') (l : Le G as H G' as H') : tR K W σ G' as S H' m C := by
  obtain ⟨r, S', e, h⟩ := h
  refine ⟨r, S', e, ?_⟩
  cases r with
  | ok d => exact fun G2 as2 H2 t2 l2 => h G2 as2 H2 t2 (l.trans l2)
  | ex c f d => exact fun v' dd G2 as2 H2 t2 l2 r q1 q2 q3 q4 => h v' dd G2 as2 H2 t2 (l.trans l2) r q1 q2 q3 (Le.was t' l q4)
/-- an address that is none of ours is changed -/
theorem Ht.aside (t : Ht K G as S H) {D : Addr} {o : HO} (hn : D ∉ as) (hg : G D = none) : Ht K G as S (upd H D o) where
  sub := fun b u e => by
    have : b ≠ D := fun z => by rw [z, hg] at e; cases e
    rw [upd_ne this]
    exact t.sub _ _ e
  len := t.len
  nd := t.nd
  there := fun a ha => by
    have : a ≠ D := fun z => hn (z ▸ ha)
    rw [upd_ne this]
    exact t.there a ha
  cell := fun n c e => by
    obtain ⟨a, e1, e2, e3⟩ := t.cell n c e
    have : a ≠ D := fun z => hn (z ▸ List.mem_of_getElem? e1)
    exact ⟨a, e1, e2, e3.up (Same.refl G) (fun _ _ e => e) (upd_ne this)⟩
theorem Le.aside {G' : Hp} {as' : List Addr} {H0 H1 : Hp} (l : Le G as H0 G' as' H1) {D : Addr} {o : HO} (h : H0 D = none) : Le G as H0 G' as' (upd H1 D o) where
  g := l.g
  ad := l.ad
  h := fun b u e n => by
    have : b ≠ D := fun z => by rw [z, h] at e; cases e
    rw [upd_ne this]
    exact l.h b u e n
  free := l.free
  new := l.new
/-- what stands aside is taken in, settled -/
theorem Ht.adoptS (t : Ht K G as S H) {p : Addr} {o : HO} (hn : p ∉ as) (hg : G p = none) (hp : H p = some o) : Ht K (upd G p o) as S H where
  sub := fun b u e => by
    by_cases z : b = p
    · subst z
      rw [upd_same] at e
      cases e
      exact hp
    · rw [upd_ne z] at e
      exact t.sub _ _ e
  len := t.len
  nd := t.nd
  there := t.there
  cell := fun n c e => by
    obtain ⟨a, e1, e2, e3⟩ := t.cell n c e
    have : a ≠ p := fun z => hn (z ▸ List.mem_of_getElem? e1)
    exact ⟨a, e1, by rw [upd_ne this]; exact e2, e3.up (fun b u e => by rw [upd_ne (fun z => by rw [z, hg] at e; cases e)]; exact e) (fun _ _ e => e) rfl⟩
theorem Le.adoptS {G' : Hp} {as' : List Addr} {H0 H1 : Hp} (l : Le G as H0 G' as' H1) {p : Addr} {o : HO} (hg : G' p = none) (h : H0 p = none) : Le G as H0 (upd G' p o) as' H1 where
  g := fun b u e => by
    have e' := l.g _ _ e
    rw [upd_ne (fun z => by rw [z, hg] at e'; cases e')]
    exact e'
  ad := l.ad
  h := l.h
  free := fun b e1 e2 n => by
    have : b ≠ p := fun z => e2 (z ▸ h)
    rw [upd_ne this]
    exact l.free b e1 e2 n
  new := l.new
/-- what stands aside is taken in as a cell -/
theorem Ht.adoptC (t : Ht K G as S H) {p : Addr} {o : HO} {c : Cell} (hn : p ∉ as) (hg : G p = none) (hp : H p = some o) (hc : CellAt K G as H p c) : Ht K G (as ++ [p]) (S ++ [some c]) H := by
  have ap : ∀ (m : Nat) (a : Addr), as[m]? = some a → (as ++ [p])[m]? = some a := fun m a e => by
    rw [List.getElem?_append_left (List.getElem?_eq_some_iff.mp e).1]
    exact e
  refine ⟨t.sub, by rw [List.length_append, List.length_append, t.len]; rfl, ?_, fun a ha => ?_, fun m c' e => ?_⟩
  · rw [List.nodup_append]
    refine ⟨t.nd, by simp, fun a ha b hb => ?_⟩
    rw [List.mem_singleton] at hb
    subst hb
    exact fun z => hn (z ▸ ha)
  · rcases List.mem_append.mp ha with z | z
    · exact t.there a z
    · rw [List.mem_singleton] at z
      rw [z, hp]
      simp
  · rw [List.getElem?_append] at e
    split at e
    · obtain ⟨a, e1, e2, e3⟩ := t.cell m c' e
      exact ⟨a, ap _ _ e1, e2, e3.up (Same.refl G) ap rfl⟩
    · rename_i hm
      have em : m = S.length := by
        have := (List.getElem?_eq_some_iff.mp e).1
        rw [List.length_singleton] at this
        omega
      rw [em, Nat.sub_self] at e
      cases e
      refine ⟨p, ?_, hg, hc.up (Same.refl G) ap rfl⟩
      rw [em, ← t.len, List.getElem?_append_right (Nat.le_refl _), Nat.sub_self]
      rfl
theorem Le.adoptC {G' : Hp} {as' : List Addr} {H0 H1 : Hp} (l : Le G as H0 G' as' H1) {p : Addr} (h : H0 p = none) : Le G as H0 G' (as' ++ [p]) H1 where
  g := l.g
  ad := fun m a e => by
    have e' := l.ad m a e
    rw [List.getElem?_append_left (List.getElem?_eq_some_iff.mp e').1]
    exact e'
  h := l.h
  free := l.free
  new := fun b hb => by
    rcases List.mem_append.mp hb with z | z
    · exact l.new b z
    · rw [List.mem_singleton] at z
      exact .inr (z ▸ h)
theorem mbind_assoc {γ : Type} (m : Mx α) (k : α → Mx β) (k2 : β → Mx γ) : mbind (mbind m k) k2 = mbind m fun a => mbind (k a) k2 := by
  funext S
  unfold mbind
  cases m S with
  | none => rfl
  | some p =>
    obtain ⟨r, S1⟩ := p
    cases r <;> rfl
theorem mbind_ret (a : α) (k : α → Mx β) : mbind (mret a) k = k a := rfl
theorem mbind_none (k : α → Mx β) : mbind (mnone : Mx α) k = mnone := rfl
theorem lcX_ok {bd : Bd} {td : TD} {de : Den} {ρ : Env} : ∀ {ds : List D} {S S' : Store} {r : Rz (List D)}, lcX bd td de ρ ds S = some (r, S') → ∃ xs, r = .ok xs
  | [], S, S', r, e => by
    cases e
    exact ⟨_, rfl⟩
  | d :: ds, S, S', r, e => by
    unfold lcX at e
    cases hb : bd.go d ρ with
    | none =>
      rw [hb] at e
      cases e
    | some ρ1 =>
      rw [hb] at e
      dsimp only at e
      unfold mbind mNox at e
      cases h1 : td ρ1 S with
      | none =>
        rw [h1] at e
        cases e
      | some p =>
        obtain ⟨r1, S1⟩ := p
        rw [h1] at e
        cases r1 with
        | ex _ _ _ => cases e
        | ok c =>
          cases c with
          | false => exact lcX_ok (ds := ds) e
          | true =>
            dsimp only at e
            rw [if_pos rfl] at e
            cases h2 : de ρ1 S1 with
            | none =>
              rw [h2] at e
              cases e
            | some p2 =>
              obtain ⟨r2, S2⟩ := p2
              rw [h2] at e
              cases r2 with
              | ex _ _ _ => cases e
              | ok x =>
                dsimp only at e
                cases h3 : lcX bd td de ρ ds S2 with
                | none =>
                  rw [h3] at e
                  cases e
                | some p3 =>
                  obtain ⟨r3, S3⟩ := p3
                  obtain ⟨xs, rfl⟩ := lcX_ok h3
                  rw [h3] at e
                  cases e
                  exact ⟨_, rfl⟩
theorem lc_len {bd : Bd} {td : TD} {de : Den} {ρ : Env} {ds acc : List D} {b : Bool} {C : D → Hp → List Addr → Store → Hp → Prop} (h : tR K W σ G as S H (mbind (lcX bd td de ρ ds) fun r => allocL b (acc ++ r)) C) : acc.length ≤ 16777216 := by
  obtain ⟨r, S', e, _⟩ := h
  unfold mbind at e
  cases h3 : lcX bd td de ρ ds S with
  | none =>
    rw [h3] at e
    cases e
  | some p3 =>
    obtain ⟨r3, S3⟩ := p3
    obtain ⟨xs, rfl⟩ := lcX_ok h3
    rw [h3] at e
    dsimp only at e
    unfold allocL at e
    split at e
    · rename_i hz
      rw [List.length_append] at hz
      omega
    · cases e
theorem lc_end {b : Bool} {ds : List D} {xs : List V} {Q : VK} {p : Addr} {Gb Hb : Hp} {asb : List Addr} (q : tF K W σ Gb asb S Hb (allocL b ds) Q) (t : Ht K G as S H) (l : Le Gb asb Hb G as H) (r : RVs K G as xs ds) (h0 : Hb p = none) (hn : p ∉ as) (hg : G p = none) (hp : H p = some (.lst xs)) : Q (.ref p) H := by
  obtain ⟨r0, S', e, h⟩ := q
  unfold allocL at e
  split at e
  · cases b with
    | false =>
      cases e
      exact h _ _ _ (t.adoptS hn hg hp) (l.adoptS hg h0) _ (.lst upd_same (r.up (fun b u e => by rw [upd_ne (fun z => by rw [z, hg] at e; cases e)]; exact e) fun _ _ e => e))
    | true =>
      cases e
      refine h _ _ _ (t.adoptC hn hg hp (c := .cl ds) ⟨xs, hp, r⟩) (l.adoptC h0) _ (.h _ ?_)
      rw [← t.len, List.getElem?_append_right (Nat.le_refl _), Nat.sub_self]
      rfl
  · cases e
end
section
variable {X : Cx} {W : WX} {elt tg iter : Expr} {ifs : List Expr} {scope : Scope} {own : List (Str × Nat)} {pos : Pos} {it : Env → Mx (List D)} {bd : Bd} {td : TD} {de : Den}
/-- tests of a comprehension -/
abbrev TsH (X : Cx) (W : WX) (es : List Expr) (den : TD) : Prop := PTs X es (tHb X.K W den)
def tdYes : TD := fun _ => mret true
theorem ptsI {es : List Expr} {t t' : TT} (h : PTs X es t) (i : ∀ σ H Q, t' σ H Q → t σ H Q) : PTs X es t' := ⟨fun pins s σ H Q I q => h.run pins s σ H Q I (i σ H Q q)⟩
theorem ts_nil : TsH X W [] tdYes := ptsI pts_nil fun σ H Q ⟨G, as, ρ, S, t, eo, q⟩ => tR.now q t
theorem ts_one (h : TH X W elt td) : TsH X W [elt] td := pts_one h
theorem lcQ {b : Bool} {vs : List Nat} (hw : ∀ i ∈ bd.vs, i ∈ vs) {σ : L2.St} {H : Hp} {Q : VK} (h : tH X.K W (dLc b vs it bd td de) σ H Q) : tLc (iH X.K W it) (gH X.K bd) (tHb X.K W0 td) (tH X.K W0 de) vs σ H Q := by
  obtain ⟨G, as, ρ, S, t, eo, q⟩ := h
  refine ⟨G, as, ρ, S, t, eo, tR.bind q fun ds G1 as1 S1 H1 t1 l1 q1 J wk D hD => ?_⟩
  have e1 := eo.le l1
  refine lc_it wk (fun i H' => ∃ G' as' S' xs acc, Ht X.K G' as' S' H' ∧ Le G1 as1 H1 G' as' H' ∧ D ∉ as' ∧ G' D = none ∧ H' D = some (.lst xs) ∧ RVs X.K G' as' xs acc ∧
    tF X.K W σ G1 as1 S' H1 (mbind (lcX bd td de (wipeE ρ vs) (ds.drop i)) fun r => allocL b (acc ++ r)) Q) ?_ ?_ ?_ ?_
  · exact ⟨G1, as1, S1, [], [], t1.aside (t1.notin hD) (t1.gfree hD), Le.refl.aside hD, t1.notin hD, t1.gfree hD, upd_same, .nil, q1⟩
  · rintro i H' _ ⟨G', as', S', xs, acc, t', l', _⟩
    exact l'.g.trans t'.sub
  · rintro i x H' H2 hi ⟨G', as', S', xs, acc, t', l', dn, dg, dh, rx, q'⟩ y
    have hd : ds[i]? = some ds[i] := List.getElem?_eq_getElem hi
    obtain ⟨G2, t2, l2, r2⟩ := y G' as' S' ds[i] t' l'.g l'.ad hd
    rw [drop_cons hi] at q'
    unfold lcX at q'
    cases hb : bd.go ds[i] (wipeE ρ vs) with
    | none =>
      rw [hb] at q'
      exact (tR.no q').elim
    | some ρ1 =>
      rw [hb] at q'
      dsimp only at q'
      rw [mbind_assoc] at q'
      have dn' : ∀ {G3 as3 H3 Ga asa Ha}, Le Ga asa Ha G3 as3 H3 → Ha D = some (.lst xs) → D ∉ asa → Ga D = none → D ∉ as3 ∧ G3 D = none ∧ H3 D = some (.lst xs) := fun {G3 as3 H3 Ga asa Ha} l e1 e2 e3 =>
        ⟨fun z => (l.new D z).elim e2 (fun q => by rw [e1] at q; cases q), l.free D e3 (by rw [e1]; simp) e2, l.h D _ e1 e2⟩
      obtain ⟨dn2, dg2, dh2⟩ := dn' l2 dh dn dg
      refine ⟨G2, as', S', wipeE ρ vs, ds[i], ρ1, t2, ((e1.wipe vs).le l').le l2, r2, hb, fun σ1 c1 o1 => ⟨chg_wipe c1 hw, G2, as', ρ1, S', t2, o1, tR.nox q' fun c G3 as3 S3 H3 t3 l3 q3 => ?_⟩⟩
      obtain ⟨dn3, dg3, dh3⟩ := dn' l3 dh2 dn2 dg2
      cases c with
      | false => exact ⟨G3, as3, S3, xs, acc, t3, (l'.trans l2).trans l3, dn3, dg3, dh3, (rx.le l2).le l3, q3⟩
      | true =>
        rw [if_pos rfl]
        rw [if_pos rfl, mbind_assoc] at q3
        refine ⟨G3, as3, ρ1, S3, t3, o1.le l3, tR.nox q3 fun x G4 as4 S4 H4 t4 l4 q4 v rv => ?_⟩
        obtain ⟨dn4, dg4, dh4⟩ := dn' l4 dh3 dn3 dg3
        rw [mbind_assoc] at q4
        have q5 : tF X.K W σ G1 as1 S4 H1 (mbind (lcX bd td de (wipeE ρ vs) (ds.drop (i + 1))) fun r => allocL b ((acc ++ [x]) ++ r)) Q := by
          have : (fun a => mbind (mret (x :: a)) fun r => allocL b (acc ++ r)) = fun r => allocL b ((acc ++ [x]) ++ r) := by
            funext a
            show allocL b (acc ++ x :: a) = _
            rw [List.append_assoc]
            rfl
          rw [← this]
          exact q4
        have ra := ((rx.le l2).le l3).le l4
        have hz := lc_len q5
        rw [List.length_append, List.length_singleton] at hz
        refine ⟨xs, dh4, by rw [sizeLine_eq, ra.len]; omega, G4, as4, S4, xs ++ [v], acc ++ [x], t4.aside dn4 dg4, (((l'.trans l2).trans l3).trans l4).aside hD, dn4, dg4, upd_same, ra.append (.cons rv .nil), q5⟩
  · rintro H' ⟨G', as', S', xs, acc, t', l', dn, dg, dh, rx, q'⟩
    rw [List.drop_length] at q'
    unfold lcX at q'
    rw [mbind_ret, List.append_nil] at q'
    exact lc_end q' t' l' rx hD dn dg dh
theorem eh_lc (b : Bool) (hc : X.calm = true) (hN : X.N.Nodup) (hi : IH X W tg iter it) (ok : BlkOk X.N X.env.scope scope own) (hw : ∀ i ∈ bd.vs, i ∈ own.map (·.2))
    (hg : ∀ (s : Shared) (H : Hp) (C : Addr) (cl : List (Str × Addr)) (fp : List Addr), GH (X.blk s H scope (compEnvC scope cl C X.env) fp) tg bd)
    (ht : ∀ (s : Shared) (H : Hp) (C : Addr) (cl : List (Str × Addr)) (fp : List Addr), TsH (X.blk s H scope (compEnvC scope cl C X.env) fp) W0 ifs td)
    (he : ∀ (s : Shared) (H : Hp) (C : Addr) (cl : List (Str × Addr)) (fp : List Addr), EH (X.blk s H scope (compEnvC scope cl C X.env) fp) W0 elt de) (hs : ∀ x, foldedSetIterable iter X.env x = pure x := by intro _; rfl) :
    EH X W (.ListComp elt [⟨tg, iter, ifs, 0⟩] scope pos) (dLc b (own.map (·.2)) it bd td de) :=
  peI (pe_lc (g := gH X.K bd) (tt := tHb X.K W0 td) (te := tH X.K W0 de) hc hN hi ok hg ht he hs) fun σ H Q h => lcQ hw h
/-- x = [..] on one line -/
theorem sh_setLc (b : Bool) {i : Nat} {y : Str} {py spos : Pos} (hc : X.calm = true) (hN : X.N.Nodup) (hy : X.N[i]? = some y) (hyl : X.env.scope.names.lookup y = some .local) (hk : X.env.scope.kind = .function) (hl : (py.line == pos.line) = true)
    (hna : (scope.names.any fun (n, k) => n == y && (k == .local || k == .cell)) = false) (hi : IH X W tg iter it) (ok : BlkOk X.N X.env.scope scope own) (hw : ∀ i ∈ bd.vs, i ∈ own.map (·.2))
    (hg : ∀ (s : Shared) (H : Hp) (C : Addr) (cl : List (Str × Addr)) (fp : List Addr), GH (X.blk s H scope (compEnvC scope cl C X.env) fp) tg bd)
    (ht : ∀ (s : Shared) (H : Hp) (C : Addr) (cl : List (Str × Addr)) (fp : List Addr), TsH (X.blk s H scope (compEnvC scope cl C X.env) fp) W0 ifs td)
    (he : ∀ (s : Shared) (H : Hp) (C : Addr) (cl : List (Str × Addr)) (fp : List Addr), EH (X.blk s H scope (compEnvC scope cl C X.env) fp) W0 elt de) (hs : ∀ x, foldedSetIterable iter X.env x = pure x := by intro _; rfl) :
    SH X W (.Assign [.Name y py] (.ListComp elt [⟨tg, iter, ifs, 0⟩] scope pos) spos) (sAsg (bN i) (dLc b (own.map (·.2)) it bd td de)) :=
  psI (ps_setLc (g := gH X.K bd) (tt := tHb X.K W0 td) (te := tH X.K W0 de) hc hN hy hyl (sw_true hk hyl hl hna) hi ok hg ht he hs) fun D σ H ⟨G, as, ρ, S, t, eo, q⟩ =>
    lcQ (Q := fun x H1 => D.nx (σ.set i (some x)) H1) hw ⟨G, as, ρ, S, t, eo, q.liftV eo fun v d G1 as1 S1 H1 t1 l1 r1 q1 => tS.now q1 t1 _ (by rw [List.length_set]) ((eo.le l1).set r1 i)⟩
end
end L2.Hy
end
section
/-! Cells settled; cells forgotten; calls on a store of their own. -/
namespace L2.Hy
open PySem PySem.Spec PyProof.Rows
/-! ### handles below n -/
mutual
def D.lo (n : Nat) : D → Bool
  | .tup ds => D.los n ds
  | .lst ds => D.los n ds
  | .dct kvs => D.lok n kvs
  | .obj _ fs => D.lof n fs
  | .exc _ _ d => D.lo n d
  | .h m => decide (m < n)
  | _ => true
def D.los (n : Nat) : List D → Bool
  | [] => true
  | d :: ds => D.lo n d && D.los n ds
def D.lok (n : Nat) : List (Key × D) → Bool
  | [] => true
  | (_, d) :: ds => D.lo n d && D.lok n ds
def D.lof (n : Nat) : List (Str × D) → Bool
  | [] => true
  | (_, d) :: ds => D.lo n d && D.lof n ds
end
section
variable {K : PySem.W.Frag} {G : Hp} {as as' : List Addr} {n : Nat}
mutual
theorem RV.re (p : ∀ (i : Nat) (a : Addr), i < n → as[i]? = some a → as'[i]? = some a) {v : V} {d : D} : RV K G as v d → D.lo n d = true → RV K G as' v d
  | .non, _ => .non
  | .bl b, _ => .bl b
  | .int i, _ => .int i
  | .str x, _ => .str x
  | .ty n, _ => .ty n
  | .cls x, _ => .cls x
  | .nfn x, _ => .nfn x
  | .tup h t, e => .tup h (RVs.re p t e)
  | .lst h t, e => .lst h (RVs.re p t e)
  | .scr h, _ => .scr h
  | .dct h t, e => .dct h (RVk.re p t e)
  | .obj h t, e => .obj h (RVf.re p t e)
  | .exc h t, e => .exc h (RV.re p t e)
  | .h m ea, e => .h m (p _ _ (of_decide_eq_true e) ea)
theorem RVs.re (p : ∀ (i : Nat) (a : Addr), i < n → as[i]? = some a → as'[i]? = some a) {v : List V} {d : List D} : RVs K G as v d → D.los n d = true → RVs K G as' v d
  | .nil, _ => .nil
  | .cons h t, e => .cons (RV.re p h (Bool.and_eq_true_iff.mp e).1) (RVs.re p t (Bool.and_eq_true_iff.mp e).2)
theorem RVk.re (p : ∀ (i : Nat) (a : Addr), i < n → as[i]? = some a → as'[i]? = some a) {v : List (Key × V)} {d : List (Key × D)} : RVk K G as v d → D.lok n d = true → RVk K G as' v d
  | .nil, _ => .nil
  | .cons h t, e => .cons (RV.re p h (Bool.and_eq_true_iff.mp e).1) (RVk.re p t (Bool.and_eq_true_iff.mp e).2)
theorem RVf.re (p : ∀ (i : Nat) (a : Addr), i < n → as[i]? = some a → as'[i]? = some a) {v : List (Str × V)} {d : List (Str × D)} : RVf K G as v d → D.lof n d = true → RVf K G as' v d
  | .nil, _ => .nil
  | .cons h t, e => .cons (RV.re p h (Bool.and_eq_true_iff.mp e).1) (RVf.re p t (Bool.and_eq_true_iff.mp e).2)
end
theorem RV.any {v : V} {d : D} (r : RV K G as v d) (h : D.lo 0 d = true) : RV K G as' v d := r.re (fun _ _ h _ => absurd h (Nat.not_lt_zero _)) h
theorem RVs.any {v : List V} {d : List D} (r : RVs K G as v d) (h : D.los 0 d = true) : RVs K G as' v d := r.re (fun _ _ h _ => absurd h (Nat.not_lt_zero _)) h
end
def Cell.lo (n : Nat) : Cell → Bool
  | .cl ds => D.los n ds
  | .cd kvs => D.lok n kvs
  | .ci _ fs => D.lof n fs
def oLo (n : Nat) : Option Cell → Bool
  | some c => c.lo n
  | none => true
def Rz.lo (n : Nat) : Rz D → Bool
  | .ok d => d.lo n
  | .ex _ _ d => d.lo n
/-- the cells made meanwhile are forgotten -/
def mCut (m : Mx D) : Mx D := fun S => match m S with
  | some (r, S1) => if r.lo S.length = true ∧ (S1.take S.length).all (oLo S.length) = true then some (r, S1.take S.length) else none
  | none => none
/-- what needs no cell of ours runs without them -/
def mFresh (m : Mx D) : Mx D := fun S => match m [] with
  | some (r, _) => if r.lo 0 = true then some (r, S) else none
  | none => none
section
variable {K : PySem.W.Frag} {W : WX} {σ : L2.St} {G H : Hp} {as : List Addr} {S : Store} {Q : VK} {m : Mx D}
theorem take_as {as as' : List Addr} (h : ∀ (n : Nat) (a : Addr), as[n]? = some a → as'[n]? = some a) : as'.take as.length = as := by
  refine List.ext_getElem? fun i => ?_
  rw [List.getElem?_take]
  split
  · rename_i hi
    rw [List.getElem?_eq_getElem hi]
    exact h i _ (List.getElem?_eq_getElem hi)
  · rename_i hi
    rw [List.getElem?_eq_none (by omega)]
theorem Ht.cut {n : Nat} (t : Ht K G as S H) (hn : n ≤ S.length) (hc : (S.take n).all (oLo n) = true) : Ht K G (as.take n) (S.take n) H where
  sub := t.sub
  len := by rw [List.length_take, List.length_take, t.len]
  nd := t.nd.sublist (List.take_sublist n as)
  there := fun a ha => t.there a (List.mem_of_mem_take ha)
  cell := fun i c e => by
    have hm := List.all_eq_true.mp hc _ (List.mem_of_getElem? e)
    rw [List.getElem?_take] at e
    split at e
    · rename_i hi
      obtain ⟨a, e1, e2, e3⟩ := t.cell i c e
      refine ⟨a, by rw [List.getElem?_take, if_pos hi]; exact e1, e2, ?_⟩
      have p : ∀ (i : Nat) (a : Addr), i < n → as[i]? = some a → (as.take n)[i]? = some a := fun i a h e => by rw [List.getElem?_take, if_pos h]; exact e
      cases c with
      | cl ds => obtain ⟨xs, z, r⟩ := e3; exact ⟨xs, z, r.re p hm⟩
      | cd ds => obtain ⟨xs, z, r⟩ := e3; exact ⟨xs, z, r.re p hm⟩
      | ci c ds => obtain ⟨dx, xs, z, r⟩ := e3; exact ⟨dx, xs, z, r.re p hm⟩
    · cases e
theorem Le.cut {G' H' : Hp} {as' : List Addr} (l : Le G as H G' as' H') : Le G as H G' (as'.take as.length) H' where
  g := l.g
  ad := fun n a e => by rw [take_as l.ad]; exact e
  h := l.h
  free := l.free
  new := fun b hb => l.new b (List.mem_of_mem_take hb)
theorem tF.cut (h : tF K W σ G as S H (mCut m) Q) (t : Ht K G as S H) : tF K W σ G as S H m Q := by
  obtain ⟨r, S', e, h⟩ := h
  unfold mCut at e
  cases hm : m S with
  | none =>
    rw [hm] at e
    cases e
  | some p =>
    obtain ⟨r0, S1⟩ := p
    rw [hm] at e
    dsimp only at e
    split at e
    · rename_i hc
      cases e
      have hs : ∀ {G' H' as'}, Ht K G' as' S1 H' → Le G as H G' as' H' → S.length ≤ S1.length := fun {G' H' as'} t' l => by
        rw [← t.len, ← t'.len]
        have := congrArg List.length (take_as l.ad)
        rw [List.length_take] at this
        omega
      have pp : ∀ {as' : List Addr} (i : Nat) (a : Addr), i < S.length → as'[i]? = some a → (as'.take as.length)[i]? = some a := fun i a h e => by rw [List.getElem?_take, if_pos (by rw [t.len]; exact h)]; exact e
      refine ⟨_, S1, hm, ?_⟩
      cases r with
      | ok d =>
        intro G' as' H' t' l v rv
        have t2 := t'.cut (hs t' l) hc.2
        rw [← t.len] at t2
        refine h G' _ H' ?_ l.cut v (rv.re pp hc.1)
        rw [← t.len]
        exact t2
      | ex c f d =>
        intro v dd G' as' H' t' l rv q1 q2 q3 q4
        have t2 := t'.cut (hs t' l) hc.2
        rw [← t.len] at t2
        refine h v dd G' _ H' ?_ l.cut (rv.re pp hc.1) q1 (fun z => q2 (List.mem_of_mem_take z)) q3 q4
        rw [← t.len]
        exact t2
    · cases e
/-- all cells are forgotten for a while -/
theorem Ht.bare (t : Ht K G as S H) : Ht K G [] [] H := ⟨t.sub, rfl, List.nodup_nil, fun _ h => absurd h List.not_mem_nil, fun n c e => by simp at e⟩
theorem Ht.back {G' H' : Hp} {as' : List Addr} {S' : Store} (t : Ht K G as S H) (t' : Ht K G' as' S' H') (l : Le G [] H G' as' H') : Ht K G' as S H' ∧ Le G as H G' as H' := by
  have hh : ∀ b, H b ≠ none → H' b = H b := fun b n => by
    obtain ⟨o, e⟩ := Option.ne_none_iff_exists'.mp n
    rw [e]
    exact l.h b o e List.not_mem_nil
  refine ⟨⟨t'.sub, t.len, t.nd, fun a ha => by rw [hh a (t.there a ha)]; exact t.there a ha, fun n c e => ?_⟩, l.g, fun _ _ e => e, fun b o e _ => l.h b o e List.not_mem_nil, fun b e1 e2 _ => l.free b e1 e2 List.not_mem_nil, fun _ e => .inl e⟩
  obtain ⟨a, e1, e2, e3⟩ := t.cell n c e
  have n1 := t.there a (List.mem_of_getElem? e1)
  exact ⟨a, e1, l.free a e2 n1 List.not_mem_nil, e3.up l.g (fun _ _ e => e) (hh a n1)⟩
theorem tF.fresh (h : tF K W σ G as S H (mFresh m) Q) (t : Ht K G as S H) : tF K W σ G [] [] H m Q := by
  obtain ⟨r, S', e, h⟩ := h
  unfold mFresh at e
  cases hm : m [] with
  | none =>
    rw [hm] at e
    cases e
  | some p =>
    obtain ⟨r0, S1⟩ := p
    rw [hm] at e
    dsimp only at e
    split at e
    · rename_i hc
      cases e
      refine ⟨_, S1, hm, ?_⟩
      cases r with
      | ok d =>
        intro G' as' H' t' l v rv
        obtain ⟨t2, l2⟩ := t.back t' l
        exact h G' as H' t2 l2 v (rv.any hc)
      | ex c f d =>
        intro v dd G' as' H' t' l rv q1 q2 q3 q4
        obtain ⟨t2, l2⟩ := t.back t' l
        exact h v dd G' as H' t2 l2 (rv.any hc) q1 (fun z => t.there dd z q4) q3 q4
    · cases e
end
end L2.Hy
end
section
/-! Defs: what a call comes to. -/
namespace L2.Hy
open PySem PySem.Spec PyProof.Rows
/-- a def that may raise, called where no repr is under way -/
structure FnX (P : Program) (w : World) (K : PySem.W.Frag) (mg : Str → Option Value) (base : Heap) (k : Nat) (f : Addr) (fd : FuncData) (ps : List Str) (sp : Sp) : Prop where
  num : ∀ vs H Q E, sp vs H Q E → vs.length = ps.length
  go : ∀ {A : Around} {outer : List PySem.Env} {s : Shared} {H : Hp} {args : Args} {us : List Value} {vs : List V} {Q : VK} {E : XK}, Xv.Quiet k A → Env0 P w K mg base A outer s H → BindsTo s fd args (ps.zip us) → Vals vs us → sp vs H Q E →
    codeAny (model P w) A (.call (.ref f) args) (CR (L2.CX P w) outer P w H s Q E) s
section
variable {P : Program} {w : World} {K : PySem.W.Frag} {mg : Str → Option Value} {base : Heap} {f : Addr} {fd : FuncData} {ps N : List Str} {sp : Sp} {k : Nat} {x qual : Str} {params : Arguments} {body : List Stmt} {scope : Scope} {dvs : List V} {kws : List (Str × V)}
theorem FnX.mono {j : Nat} (F : FnX P w K mg base j f fd ps sp) (h : j ≤ k) : FnX P w K mg base k f fd ps sp := ⟨F.num, fun q => F.go (q.mono h)⟩
theorem FnX.imp {sp' : Sp} (F : FnX P w K mg base k f fd ps sp) (h : ∀ vs H Q E, sp' vs H Q E → sp vs H Q E) : FnX P w K mg base k f fd ps sp' := ⟨fun vs H Q E q => F.num vs H Q E (h _ _ _ _ q), fun q e b v z => F.go q e b v (h _ _ _ _ z)⟩
/-- one that raises nothing -/
theorem FnX.of (F : Xv.FnQ P w K mg base k f fd ps sp) : FnX P w K mg base k f fd ps sp := ⟨F.num, fun q e b v h => codeAny_mono (F.go q e b v h) fun r s' z => by
  cases r with
  | error er => exact False.elim z
  | ok fl => cases fl <;> exact z⟩
theorem fnX (F : FunD K x qual params body scope dvs kws f fd) (S : FnScope N ps scope) (num : ∀ vs H Q E, sp vs H Q E → vs.length = ps.length)
    (walk : ∀ (cdv : Value) (A : Around) (outer : List PySem.Env) (s : Shared) (H : Hp) (vs : List V) (Q : VK) (E : XK), Xv.Quiet k (A.deeper (envOfC qual scope s.heap.objs.size f cdv)) → sp vs H Q E →
      ∃ t, PSs (cxOf (L2.CX P w) P w K mg base N qual scope f cdv A outer s H E) body t ∧ t { nx := fun _ H' => Q .non H', rt := Q } (start N vs) H) : FnX P w K mg base (k + 1) f fd ps sp := by
  refine ⟨num, ?_⟩
  intro A outer s H args us vs Q E q e0 hb rv h
  obtain ⟨oc, od, dV, kV, doc, pm, an, cdv, ct, osl, rfl, lk, hcd, _, _⟩ := F.ex
  have up : ∀ b o, base.get? b = some o → s.heap.get? b = some o := fun b o z => (e0.bs b o z).1
  have KX := e0.mod.kin.keeps up
  refine codeAny_call_function q.1.depth (KX _ _ lk) rfl S.co S.gen rfl (PySem.W.codeRec_of KX hcd) (hb _ _ _ _ (wpAny_newFunctionEnv_cells S.kind ?_ ?_))
  · rintro ⟨n, v⟩ hy
    have hn := (List.of_mem_zip hy).1
    exact (S.par n hn).imp id fun c => ⟨c, PySem.W.cellsFrom_some _ _ _ (.inl c)⟩
  · rintro env rfl s1 y
    refine ⟨(e0.mod.nolimit.keeps up).keeps y.toInCall.keep, codeAny_func ?_⟩
    obtain ⟨t, ht, hq⟩ := walk cdv A outer s H vs Q E ⟨q.1.deeper _, q.2⟩ h
    have J := inv_start (CX := L2.CX P w) (N := N) (E := E) S q.1.hd e0 (num _ _ _ _ h) rv y
    refine wpAny_mono (ht.run [] s1 (start N vs) H _ J hq) ?_ fun _ _ z => z
    intro fl s' hs
    cases fl with
    | next => obtain ⟨_, H', J', z⟩ := hs; exact ⟨.non, H', J'.os, J'.bare, J'.base, J'.hok, rfl, z⟩
    | ret u => obtain ⟨v, _, H', J', r', z⟩ := hs; exact ⟨v, H', J'.os, J'.bare, J'.base, J'.hok, r', z⟩
    | brk => obtain ⟨_, _, _, z⟩ := hs; exact z.elim
    | cont => obtain ⟨_, _, _, z⟩ := hs; exact z.elim
end
/-! ### by what it comes to -/
def spH (K : PySem.W.Frag) (n : Nat) (F : List D → Mx D) : Sp := fun vs H Q E => vs.length = n ∧ ∃ G as S ds, Ht K G as S H ∧ RVs K G as vs ds ∧ tF K (fun c d _ H' => E c d H') [] G as S H (F ds) Q
/-- a body, at its arguments; n slots -/
def runB (n : Nat) (den : SDen) (ds : List D) : Mx D := fun S => match den (ds.map some ++ List.replicate (n - ds.length) none) S with
  | some (.nx _, S1) => some (.ok .non, S1)
  | some (.rt d, S1) => some (.ok d, S1)
  | some (.xc _ c f d, S1) => some (.ex c f d, S1)
  | _ => none
/-- its arguments are settled: it runs on a store of its own -/
def runF (n : Nat) (den : SDen) (ds : List D) : Mx D := if D.los 0 ds = true then mFresh (runB n den ds) else mnone
/-- it is handed cells -/
def runC (n : Nat) (den : SDen) (ds : List D) : Mx D := mCut (runB n den ds)
section
variable {K : PySem.W.Frag} {E : XK} {G H : Hp} {as : List Addr} {S : Store} {Q : VK} {N : List Str} {vs : List V} {ds : List D} {den : SDen}
theorem EnvOk.start (r : RVs K G as vs ds) (h : vs.length ≤ N.length) : EnvOk K G as (L2.start N vs) (ds.map some ++ List.replicate (N.length - ds.length) none) := by
  unfold L2.start
  refine ⟨by simp [r.len], fun i d e => ?_⟩
  rw [List.getElem?_append] at e
  split at e
  · rename_i hi
    rw [List.length_map] at hi
    rw [List.getElem?_map] at e
    obtain ⟨d', e1, e2⟩ := Option.map_eq_some_iff.mp e
    cases e2
    obtain ⟨v, e3, r3⟩ := r.at e1
    refine ⟨v, ?_, r3⟩
    rw [List.getElem?_append_left (by rw [List.length_map, r.len]; exact hi), List.getElem?_map, e3]
    rfl
  · rw [List.getElem?_replicate] at e
    split at e <;> cases e
theorem start_len (h : vs.length ≤ N.length) : (L2.start N vs).length = N.length := by
  unfold L2.start
  rw [List.length_append, List.length_map, List.length_replicate]
  omega
theorem runB_ok (h : tF K (fun c d _ H' => E c d H') [] G as S H (runB N.length den ds) Q) :
    tS K (fun c d _ H' => E c d H') { nx := fun _ H' => Q .non H', rt := Q } N.length G as S H (den (ds.map some ++ List.replicate (N.length - ds.length) none)) := by
  obtain ⟨r, S', e, h⟩ := h
  unfold runB at e
  split at e
  · rename_i e1
    cases e
    exact ⟨_, _, e1, fun G' as' H' t l σ _ _ => h G' as' H' t l _ .non⟩
  · rename_i e1
    cases e
    exact ⟨_, _, e1, fun G' as' H' t l v rv => h G' as' H' t l v rv⟩
  · rename_i e1
    cases e
    exact ⟨_, _, e1, fun G' as' H' t l σ v dd _ _ rv q1 q2 q3 q4 => h v dd G' as' H' t l rv q1 q2 q3 q4⟩
  · cases e
end
section
variable {P : Program} {w : World} {K : PySem.W.Frag} {mg : Str → Option Value} {base : Heap} {f : Addr} {fd : FuncData} {ps N : List Str} {k : Nat} {x qual : Str} {params : Arguments} {body : List Stmt} {scope : Scope} {dvs : List V} {kws : List (Str × V)} {den : SDen}
/-- what a body is read in -/
def BodyH (P : Program) (w : World) (K : PySem.W.Frag) (mg : Str → Option Value) (base : Heap) (N : List Str) (k : Nat) (f : Addr) (qual : Str) (scope : Scope) (body : List Stmt) (den : SDen) : Prop :=
  ∀ (cdv : Value) (A : Around) (outer : List PySem.Env) (s : Shared) (H : Hp) (E : XK), Xv.Quiet k (A.deeper (envOfC qual scope s.heap.objs.size f cdv)) →
    Takes (cxOf (L2.CX P w) P w K mg base N qual scope f cdv A outer s H E) (fun c d _ H' => E c d H') →
    PassesOwn (model P w) (A.deeper (envOfC qual scope s.heap.objs.size f cdv)) (envOfC qual scope s.heap.objs.size f cdv) (cxOf (L2.CX P w) P w K mg base N qual scope f cdv A outer s H E).xe →
    SsH (cxOf (L2.CX P w) P w K mg base N qual scope f cdv A outer s H E) (fun c d _ H' => E c d H') body den
theorem fnB {F : List D → Mx D} (Fd : FunD K x qual params body scope dvs kws f fd) (S : FnScope N ps scope) (hb : BodyH P w K mg base N k f qual scope body den)
    (hF : ∀ (E : XK) (G H : Hp) (as : List Addr) (St : Store) (vs : List V) (ds : List D) (Q : VK), Ht K G as St H → RVs K G as vs ds → tF K (fun c d _ H' => E c d H') [] G as St H (F ds) Q → ∃ as2 S2, Ht K G as2 S2 H ∧ RVs K G as2 vs ds ∧ tF K (fun c d _ H' => E c d H') [] G as2 S2 H (runB N.length den ds) Q) :
    FnX P w K mg base (k + 1) f fd ps (spH K ps.length F) := by
  have hpl : ps.length ≤ N.length := by
    have := congrArg List.length S.pre
    rw [List.length_take] at this
    omega
  refine fnX Fd S (fun vs H Q E h => h.1) fun cdv A outer s H vs Q E q ⟨hl, G, as, St, ds, t, r, h⟩ => ?_
  obtain ⟨as2, S2, t2, r2, h2⟩ := hF E G H as St vs ds Q t r h
  refine ⟨_, hb cdv A outer s H E q (takes_of rfl rfl rfl rfl) (passes_of rfl), G, as2, _, S2, t2, EnvOk.start r2 (by omega), ?_⟩
  rw [start_len (by omega)]
  exact runB_ok h2
theorem fnF (Fd : FunD K x qual params body scope dvs kws f fd) (S : FnScope N ps scope) (hb : BodyH P w K mg base N k f qual scope body den) : FnX P w K mg base (k + 1) f fd ps (spH K ps.length (runF N.length den)) :=
  fnB Fd S hb fun E G H as St vs ds Q t r h => by
    unfold runF at h
    split at h
    · rename_i hc
      exact ⟨[], [], t.bare, r.any hc, h.fresh t⟩
    · exact (tR.no h).elim
theorem fnC (Fd : FunD K x qual params body scope dvs kws f fd) (S : FnScope N ps scope) (hb : BodyH P w K mg base N k f qual scope body den) : FnX P w K mg base (k + 1) f fd ps (spH K ps.length (runC N.length den)) :=
  fnB Fd S hb fun E G H as St vs ds Q t r h => ⟨as, St, t, r, tF.cut h t⟩
end
/-! ### calls -/
section
variable {X : Cx} {W : WX} {k : Nat} {f : Addr} {fd : FuncData} {ps : List Str} {sp : Sp} {dvs : List V} {ds : List Value} {x : Str} {p pos : Pos} {e : Expr} {es : List Expr} {t : TA}
def tCallX (sp : Sp) (dvs : List V) (W : WX) (t : TA) : TE := fun σ H Q => t σ H fun vs H1 => sp (vs ++ dvs) H1 Q fun c d H' => W c d σ H'
theorem run_x {pins : List (Addr × Obj)} {σ : L2.St} {H : Hp} {s : Shared} {Q : VK} {us : List Value} {vs : List V} (F : FnX X.prog X.w X.K X.mg X.base k f fd ps sp) (q : Xv.Quiet k X.A) (tk : Takes X W) (hb : Binds X.K fd ps ds) (hd : Vals dvs ds)
    (I : Inv X pins σ H s) (r : Vals vs us) (h : sp (vs ++ dvs) H Q fun c d H' => W c d σ H') : wpAny (model X.prog X.w) X.A (call (.ref f) us) (EP X pins σ Q) X.xe s := by
  have rr : Vals (vs ++ dvs) (us ++ ds) := r.append hd
  have n : (us ++ ds).length = ps.length := rr.length.symm.trans (F.num _ _ _ _ h)
  refine wpAny_call (codeAny_mono (F.go q I.env0 (hb s us I.kIn n) rr h) ?_)
  rintro (er | fl) s' z
  · exact tk _ _ (XE.of_call I (fun _ _ _ h => h) z)
  · cases fl with
    | ret u => exact I.after z
    | _ => exact False.elim z
theorem pe_callX (F : FnX X.prog X.w X.K X.mg X.base k f fd ps sp) (q : Xv.Quiet k X.A) (tk : Takes X W) (hg : Gl X x) (hm : X.mg x = some (.ref f)) (hk : PySem.W.keepIn X.K (.ref f) = true) (hb : Binds X.K fd ps ds) (hd : Vals dvs ds)
    (ha : PA X (e :: es) t) (hdb : (x == ("__debug__" : Str)) = false := by decide) (he : starEach (e :: es) X.env = (false, eval e X.env) :: starEach es X.env := by rfl) (hpl : (backTo pos (starEach es X.env)).any (·.1) = false := by rfl) :
    PE X (.Call (.Name x p) (e :: es) [] pos) (tCallX sp dvs W t) :=
  ⟨fun pins s σ H _ I h => wpAny_Call_Name_kw (ld_glob I hg hm (PySem.W.callWith_K (h₀ := X.base) I.ok.mod.kin hk (thn (ha.run pos pins s σ H _ I h) fun _ _ ⟨_, _, I1, r, z⟩ => ⟨I1.kIn, run_x F q tk hb hd I1 r z⟩) he hpl) hdb)⟩
/-- the call of a def -/
def dCall (n : Nat) (F : List D → Mx D) (dds : List D) (dd : AD) : Den := fun ρ => mbind (dd ρ) fun ds => if ds.length + dds.length = n then F (ds ++ dds) else mnone
theorem eh_call {F : List D → Mx D} {dds : List D} {dd : AD} (Fx : FnX X.prog X.w X.K X.mg X.base k f fd ps (spH X.K ps.length F)) (q : Xv.Quiet k X.A) (tk : Takes X W) (hg : Gl X x) (hm : X.mg x = some (.ref f)) (hk : PySem.W.keepIn X.K (.ref f) = true) (hb : Binds X.K fd ps ds) (hd : Vals dvs ds)
    (hD : ∀ G as, RVs X.K G as dvs dds) (ha : AH X W (e :: es) dd) (hdb : (x == ("__debug__" : Str)) = false := by decide) (he : starEach (e :: es) X.env = (false, eval e X.env) :: starEach es X.env := by rfl) (hpl : (backTo pos (starEach es X.env)).any (·.1) = false := by rfl) :
    EH X W (.Call (.Name x p) (e :: es) [] pos) (dCall ps.length F dds dd) :=
  peI (pe_callX Fx q tk hg hm hk hb hd ha hdb he hpl) fun σ H Q ⟨G, as, ρ, S, t, eo, q⟩ => ⟨G, as, ρ, S, t, eo, tL.bind q fun vs ds G1 as1 S1 H1 t1 l1 r1 q1 => by
    split at q1
    · rename_i hl
      exact ⟨by rw [List.length_append, r1.len, (hD G1 as1).len]; exact hl, G1, as1, S1, ds ++ dds, t1, r1.append (hD _ _), q1⟩
    · exact (tR.no q1).elim⟩
end
end L2.Hy
end
section
/-! Built-ins, stores, slices, freezing. -/
namespace L2.Hy
open PySem PySem.Spec PyProof.Rows
/-! ### built-ins by their arguments -/
def PrimN (K : PySem.W.Frag) (W : WX) (r : List V → Hp → VK → Prop) (f : List D → Mx D) : Prop := ∀ σ G as S H xs ds Q, Ht K G as S H → RVs K G as xs ds → tF K W σ G as S H (f ds) Q → r xs H Q
def dCB (f : List D → Mx D) (dd : AD) : Den := fun ρ => mbind (dd ρ) f
section
variable {X : Cx} {W : WX} {e : Expr} {es : List Expr} {dd : AD} {x : Str} {id T : String} {p pos : Pos} {r : List V → Hp → VK → Prop} {f : List D → Mx D}
theorem eh_callB (pr : PrimN X.K W r f) (hc : CallR X (.builtin id) r) (hg : Gl X x) (hm : X.mg x = none) (hv : bootBuiltins x = some (.builtin id)) (ha : AH X W (e :: es) dd) (hn : x ≠ "__name__" := by decide) (hdb : (x == ("__debug__" : Str)) = false := by decide)
    (he : starEach (e :: es) X.env = (false, eval e X.env) :: starEach es X.env := by rfl) (hpl : (backTo pos (starEach es X.env)).any (·.1) = false := by rfl) : EH X W (.Call (.Name x p) (e :: es) [] pos) (dCB f dd) :=
  peI (pe_callB hc hg hm hv ha hn hdb he hpl) fun σ H Q ⟨G, as, ρ, S, t, eo, q⟩ => ⟨G, as, ρ, S, t, eo, tL.bind q fun vs ds G1 as1 S1 H1 t1 l1 r1 q1 => pr σ G1 as1 S1 H1 vs ds Q t1 r1 q1⟩
theorem eh_callT (pr : PrimN X.K W r f) (hc : CallR X (.type T) r) (hg : Gl X x) (hm : X.mg x = none) (hv : bootBuiltins x = some (.type T)) (ha : AH X W (e :: es) dd) (hn : x ≠ "__name__" := by decide) (hdb : (x == ("__debug__" : Str)) = false := by decide)
    (he : starEach (e :: es) X.env = (false, eval e X.env) :: starEach es X.env := by rfl) (hpl : (backTo pos (starEach es X.env)).any (·.1) = false := by rfl) : EH X W (.Call (.Name x p) (e :: es) [] pos) (dCB f dd) :=
  peI (pe_callTy hc hg hm hv ha hn hdb he hpl) fun σ H Q ⟨G, as, ρ, S, t, eo, q⟩ => ⟨G, as, ρ, S, t, eo, tL.bind q fun vs ds G1 as1 S1 H1 t1 l1 r1 q1 => pr σ G1 as1 S1 H1 vs ds Q t1 r1 q1⟩
end
/-- the arguments are one -/
def on1 (f : D → Mx D) : List D → Mx D
  | [d] => f d
  | _ => mnone
def on2 (f : D → D → Mx D) : List D → Mx D
  | [d, e] => f d e
  | _ => mnone
def lenD (S : Store) : D → Option D
  | .str x => if x.length ≤ 16777216 then some (.int x.length) else none
  | d => (seqD S d).map fun ds => .int ds.length
def fLen : List D → Mx D := on1 fun d => mOf fun S => lenD S d
def fInt : List D → Mx D := on1 fun d => match d with
  | .int i => mret (.int i)
  | .bl b => mret (.int (if b then 1 else 0))
  | _ => mnone
def fMax2 : List D → Mx D := on2 fun d e => match d, e with
  | .int i, .int j => mret (.int (if j > i then j else i))
  | _, _ => mnone
def fMin2 : List D → Mx D := on2 fun d e => match d, e with
  | .int i, .int j => mret (.int (if j < i then j else i))
  | _, _ => mnone
def fAbs : List D → Mx D := on1 fun d => match d with
  | .int i => mret (.int (if i < 0 then -i else i))
  | _ => mnone
/-- list(x): a new list -/
def fList (b : Bool) : List D → Mx D := on1 fun d S => match seqD S d with
  | some ds => allocL b ds S
  | none => none
def blD : D → Option Bool
  | .bl b => some b
  | _ => none
def blsD : List D → Option (List Bool)
  | [] => some []
  | d :: ds => match blD d, blsD ds with
    | some b, some bs => some (b :: bs)
    | _, _ => none
def fAll : List D → Mx D := on1 fun d => mOf fun S => (lstD S d).bind fun ds => (blsD ds).map fun bs => .bl (bs.all fun b => b)
def fAny : List D → Mx D := on1 fun d => mOf fun S => (lstD S d).bind fun ds => (blsD ds).map fun bs => .bl (bs.any fun b => b)
section
variable {K : PySem.W.Frag} {W : WX}
theorem one1 {G : Hp} {as : List Addr} {xs : List V} {ds : List D} {σ : L2.St} {H : Hp} {S : Store} {f : D → Mx D} {Q : VK} (r : RVs K G as xs ds) (q : tF K W σ G as S H (on1 f ds) Q) : ∃ v d, xs = [v] ∧ ds = [d] ∧ RV K G as v d ∧ tF K W σ G as S H (f d) Q := by
  cases r with
  | nil => exact (tR.no q).elim
  | cons r rr =>
    cases rr with
    | nil => exact ⟨_, _, rfl, rfl, r, q⟩
    | cons _ _ => exact (tR.no q).elim
theorem one2 {G : Hp} {as : List Addr} {xs : List V} {ds : List D} {σ : L2.St} {H : Hp} {S : Store} {f : D → D → Mx D} {Q : VK} (r : RVs K G as xs ds) (q : tF K W σ G as S H (on2 f ds) Q) : ∃ v w d e, xs = [v, w] ∧ ds = [d, e] ∧ RV K G as v d ∧ RV K G as w e ∧ tF K W σ G as S H (f d e) Q := by
  cases r with
  | nil => exact (tR.no q).elim
  | cons r rr =>
    cases rr with
    | nil => exact (tR.no q).elim
    | cons r2 rr =>
      cases rr with
      | nil => exact ⟨_, _, _, _, rfl, rfl, r, r2, q⟩
      | cons _ _ => exact (tR.no q).elim
theorem prLen : PrimN K W (fun xs H Q => ∃ x n, xs = [x] ∧ LenV K x H n ∧ Q (.int n) H) fLen := fun σ G as S H xs ds Q t r q => by
  obtain ⟨v, d, rfl, rfl, r1, q⟩ := one1 r q
  obtain ⟨z, e, q⟩ := q.of t
  have hs : ∀ {d : D}, RV K G as v d → (seqD S d).map (fun ds => D.int ds.length) = some z → ∃ x n, [v] = [x] ∧ LenV K x H n ∧ Q (.int n) H := fun {d} r1 e => by
    obtain ⟨ds, e1, rfl⟩ := Option.map_eq_some_iff.mp e
    obtain ⟨a, xs, rfl, e3, r3⟩ := t.seq r1 e1
    refine ⟨_, ds.length, rfl, ?_, q _ (.int _)⟩
    rcases e3 with e3 | e3
    · exact .inl ⟨xs, e3, r3.len.symm⟩
    · exact .inr ⟨xs, e3, r3.len.symm⟩
  cases r1 with
  | str x =>
    unfold lenD at e
    dsimp only at e
    split at e
    · rename_i hz
      cases e
      exact ⟨_, x.length, rfl, ⟨by rw [sizeLine_eq]; exact hz, rfl⟩, q _ (.int _)⟩
    · cases e
  | tup h x => exact hs (.tup h x) e
  | lst h x => exact hs (.lst h x) e
  | h n ea => exact hs (.h n ea) e
  | scr h => exact hs (.scr h) e
  | _ => cases e
theorem prInt : PrimN K W (fun xs H Q => (∃ i, xs = [.int i] ∧ Q (.int i) H) ∨ ∃ k, xs = [.bl k] ∧ Q (.int (if k then 1 else 0)) H) fInt := fun σ G as S H xs ds Q t r q => by
  obtain ⟨v, d, rfl, rfl, r1, q⟩ := one1 r q
  cases r1 with
  | int i => exact .inl ⟨i, rfl, tF.now q t (.int _)⟩
  | bl b => exact .inr ⟨b, rfl, tF.now q t (.int _)⟩
  | _ => exact (tR.no q).elim
theorem prMax2 : PrimN K W (fun xs H Q => ∃ i j, xs = [.int i, .int j] ∧ Q (.int (if j > i then j else i)) H) fMax2 := fun σ G as S H xs ds Q t r q => by
  obtain ⟨v, w, d, e, rfl, rfl, r1, r2, q⟩ := one2 r q
  cases r1 <;> cases r2 <;> first | exact (tR.no q).elim | exact ⟨_, _, rfl, tF.now q t (.int _)⟩
theorem prMin2 : PrimN K W (fun xs H Q => ∃ i j, xs = [.int i, .int j] ∧ Q (.int (if j < i then j else i)) H) fMin2 := fun σ G as S H xs ds Q t r q => by
  obtain ⟨v, w, d, e, rfl, rfl, r1, r2, q⟩ := one2 r q
  cases r1 <;> cases r2 <;> first | exact (tR.no q).elim | exact ⟨_, _, rfl, tF.now q t (.int _)⟩
theorem prAbs : PrimN K W (fun xs H Q => ∃ i, xs = [.int i] ∧ Q (.int (if i < 0 then -i else i)) H) fAbs := fun σ G as S H xs ds Q t r q => by
  obtain ⟨v, d, rfl, rfl, r1, q⟩ := one1 r q
  cases r1 <;> first | exact (tR.no q).elim | exact ⟨_, rfl, tF.now q t (.int _)⟩
theorem prList {b : Bool} : PrimN K W (fun xs H Q => ∃ p ys, xs = [.ref p] ∧ (SqL K H p ys ∨ SqT K H p ys) ∧ ∀ l, H l = none → Q (.ref l) (upd H l (.lst ys))) (fList b) := fun σ G as S H xs ds Q t r q => by
  obtain ⟨v, d, rfl, rfl, r1, q⟩ := one1 r q
  have q0 : ∃ es, seqD S d = some es ∧ tF K W σ G as S H (allocL b es) Q := by
    obtain ⟨r0, S', e, h⟩ := q
    dsimp only at e
    split at e
    · rename_i es e1
      exact ⟨es, e1, r0, S', e, h⟩
    · cases e
  obtain ⟨es, e1, q1⟩ := q0
  obtain ⟨a, ys, rfl, e3, r3⟩ := t.seq r1 e1
  exact ⟨a, ys, rfl, e3, (allocL_ok q1 t r3).2⟩
theorem bls_ok {G : Hp} {as : List Addr} : ∀ {xs : List V} {ds : List D} {bs : List Bool}, RVs K G as xs ds → blsD ds = some bs → xs = bs.map V.bl
  | _, _, _, .nil, e => by cases e; rfl
  | _, _, _, .cons r rr, e => by
    unfold blsD at e
    split at e
    · rename_i b bs e1 e2
      cases e
      rw [bls_ok rr e2]
      cases r <;> cases e1
      rfl
    · cases e
theorem prAll : PrimN K W (rAll K) fAll := fun σ G as S H xs ds Q t r q => by
  obtain ⟨v, d, rfl, rfl, r1, q⟩ := one1 r q
  obtain ⟨z, e, q⟩ := q.of t
  obtain ⟨es, e1, e2⟩ := Option.bind_eq_some_iff.mp e
  obtain ⟨bs, e3, rfl⟩ := Option.map_eq_some_iff.mp e2
  obtain ⟨a, ys, rfl, e4, r4⟩ := t.lst r1 e1
  exact ⟨a, bs, rfl, by rw [← bls_ok r4 e3]; exact .inl (.inl e4), q _ (.bl _)⟩
theorem prAny : PrimN K W (rAny K) fAny := fun σ G as S H xs ds Q t r q => by
  obtain ⟨v, d, rfl, rfl, r1, q⟩ := one1 r q
  obtain ⟨z, e, q⟩ := q.of t
  obtain ⟨es, e1, e2⟩ := Option.bind_eq_some_iff.mp e
  obtain ⟨bs, e3, rfl⟩ := Option.map_eq_some_iff.mp e2
  obtain ⟨a, ys, rfl, e4, r4⟩ := t.lst r1 e1
  exact ⟨a, bs, rfl, by rw [← bls_ok r4 e3]; exact .inl (.inl e4), q _ (.bl _)⟩
end
/-! ### operators -/
def fFdiv : D → D → Mx D := fIIc (fun _ j => decide (0 < j ∧ j < 1073741824)) fun i j => .int (i / j)
def fMod : D → D → Mx D := fIIc (fun _ j => decide (0 < j)) fun i j => .int (i % j)
def fNeg : D → Mx D
  | .int i => mret (.int (-i))
  | _ => mnone
def fPow : D → D → Mx D := fIIc (fun i j => decide (0 ≤ j ∧ j ≤ 1000 ∧ i.natAbs < 18446744073709551616)) fun i j => .int (i ^ j.toNat)
/-- + of texts, of lists -/
def fCatS : D → D → Mx D
  | .str x, .str y => if x.length + y.length ≤ 16777216 then mret (.str (x ++ y)) else mnone
  | _, _ => mnone
def fCat (b : Bool) (x y : D) : Mx D := fun S => match lstD S x, lstD S y with
  | some ds, some es => allocL b (ds ++ es) S
  | _, _ => none
section
variable {X : Cx} {W : WX} {a b : Expr} {da db : Den} {pos : Pos}
theorem eh_fdiv (ha : EH X W a da) (hb : EH X W b db) : EH X W (.BinOp a .FloorDiv b pos) (d2 fFdiv da db) := eh_2 op_fdiv (prIIc (fun i j h => by have := of_decide_eq_true h; exact this) fun _ _ _ _ _ => .int _) ha hb
theorem eh_mod (ha : EH X W a da) (hb : EH X W b db) : EH X W (.BinOp a .Mod b pos) (d2 fMod da db) := eh_2 op_mod (prIIc (fun i j h => by have := of_decide_eq_true h; exact this) fun _ _ _ _ _ => .int _) ha hb
theorem eh_pow (ha : EH X W a da) (hb : EH X W b db) : EH X W (.BinOp a .Pow b pos) (d2 fPow da db) := eh_2 op_pow (prIIc (fun i j h => by have := of_decide_eq_true h; exact ⟨this.1, by omega, this.2.2⟩) fun _ _ _ _ _ => .int _) ha hb
theorem prNeg {K : PySem.W.Frag} : Prim1 K W (rU fun i => .int (-i)) fNeg := fun σ G as S H x v Q t rx q => by
  cases rx <;> first | exact (tR.no q).elim | exact ⟨_, rfl, tF.now q t (.int _)⟩
theorem eh_neg (ha : EH X W a da) : EH X W (.UnaryOp .USub a pos) (d1 fNeg da) := eh_un un_neg prNeg ha
theorem prCatS {K : PySem.W.Frag} : Prim2 K W (fun x y H Q => ∃ i j, x = .str i ∧ y = .str j ∧ i.length + j.length ≤ sizeLine ∧ Q (.str (i ++ j)) H) fCatS := fun σ G as S H x y v w Q t rx ry q => by
  cases rx with
  | str x =>
    cases ry with
    | str y =>
      unfold fCatS at q
      dsimp only at q
      split at q
      · rename_i h
        exact ⟨x, y, rfl, rfl, by rw [sizeLine_eq]; exact h, tF.now q t (.str _)⟩
      · exact (tR.no q).elim
    | _ => exact (tR.no q).elim
  | _ => cases ry <;> exact (tR.no q).elim
theorem eh_catS (ha : EH X W a da) (hb : EH X W b db) : EH X W (.BinOp a .Add b pos) (d2 fCatS da db) := eh_2 op_add_str prCatS ha hb
theorem prCat {K : PySem.W.Frag} {bb : Bool} : Prim2 K W rCat (fCat bb) := fun σ G as S H x y v w Q t rx ry q => by
  have q0 : ∃ ds es, lstD S x = some ds ∧ lstD S y = some es ∧ tF K W σ G as S H (allocL bb (ds ++ es)) Q := by
    obtain ⟨r0, S', e, h⟩ := q
    unfold fCat at e
    split at e
    · rename_i ds es e1 e2
      exact ⟨ds, es, e1, e2, r0, S', e, h⟩
    · cases e
  obtain ⟨ds, es, e1, e2, q1⟩ := q0
  obtain ⟨p, xs, rfl, hx, r1⟩ := t.lst rx e1
  obtain ⟨p2, ys, rfl, hy, r2⟩ := t.lst ry e2
  obtain ⟨hz, k⟩ := allocL_ok q1 t (r1.append r2)
  exact ⟨p, p2, xs, ys, rfl, rfl, hx, hy, by rw [← List.length_append]; exact hz, k⟩
theorem eh_cat (bb : Bool) (ha : EH X W a da) (hb : EH X W b db) : EH X W (.BinOp a .Add b pos) (d2 (fCat bb) da db) := eh_2 op_cat prCat ha hb
/-! ### == and in of data, is None -/
theorem eh_eq (hu : X.A.units + 64 < cLine) (ha : EH X W a da) (hb : EH X W b db) (hm : behindInMarks .Eq b = false := by rfl) : EH X W (.Compare a [.Eq] [b] pos) (d2 (fEq false) da db) := eh_cmp (op_eqD hu) prEq ha hb hm
theorem eh_ne (hu : X.A.units + 64 < cLine) (ha : EH X W a da) (hb : EH X W b db) (hm : behindInMarks .NotEq b = false := by rfl) : EH X W (.Compare a [.NotEq] [b] pos) (d2 (fEq true) da db) := eh_cmp (op_neD hu) prNe ha hb hm
theorem eh_in (hu : X.A.units + 65 < cLine) (ha : EH X W a da) (hb : EH X W b db) (hm : behindInMarks .In b = false := by rfl) : EH X W (.Compare a [.In] [b] pos) (d2 (fIn false) da db) := eh_cmp (op_inD hu) prIn ha hb hm
theorem eh_notIn (hu : X.A.units + 65 < cLine) (ha : EH X W a da) (hb : EH X W b db) (hm : behindInMarks .NotIn b = false := by rfl) : EH X W (.Compare a [.NotIn] [b] pos) (d2 (fIn true) da db) := eh_cmp (op_notInD hu) prNotIn ha hb hm
theorem eh_inS (ha : EH X W a da) (hb : EH X W b db) (hm : behindInMarks .In b = false := by rfl) : EH X W (.Compare a [.In] [b] pos) (d2 (fInS false) da db) := eh_cmp op_in_str prInS ha hb hm
theorem eh_isN (ha : EH X W a da) (hb : EH X W b db) (hm : behindInMarks .Is b = false := by rfl) : EH X W (.Compare a [.Is] [b] pos) (d2 (fIsN false) da db) := eh_cmp op_isN prIsN ha hb hm
theorem eh_notN (ha : EH X W a da) (hb : EH X W b db) (hm : behindInMarks .IsNot b = false := by rfl) : EH X W (.Compare a [.IsNot] [b] pos) (d2 (fIsN true) da db) := eh_cmp op_notN prNotN ha hb hm
end
/-! ### slices -/
abbrev PD := L2.Hy.Env → Mx (Option Int)
def tHo (K : PySem.W.Frag) (W : WX) (den : PD) : TO := fun σ H Q => ∃ G as ρ S, Ht K G as S H ∧ EnvOk K G as σ ρ ∧ tR K W σ G as S H (den ρ) fun o _ _ _ H' => Q o H'
abbrev OH (X : Cx) (W : WX) (e : Option Expr) (den : PD) : Prop := PO X e (tHo X.K W den)
theorem poI {X : Cx} {e : Option Expr} {t t' : TO} (h : PO X e t) (i : ∀ σ H Q, t' σ H Q → t σ H Q) : PO X e t' := ⟨fun pins s σ H Q I q => h.run pins s σ H Q I (i σ H Q q)⟩
def oNo : PD := fun _ => mret none
def intO : D → Mx (Option Int)
  | .int i => mret (some i)
  | _ => mnone
def oSm (da : Den) : PD := fun ρ => mbind (da ρ) intO
/-- a slice -/
def fSl (b : Bool) (x : D) (lo hi : Option Int) : Mx D := fun S => match lstD S x with
  | some ds => allocL b ((ds.drop (HT.sIx ds.length 0 lo)).take (HT.sIx ds.length ds.length hi - HT.sIx ds.length 0 lo)) S
  | none => none
def dSl (b : Bool) (de : Den) (dl du : PD) : Den := fun ρ => mbind (de ρ) fun x => mbind (dl ρ) fun lo => mbind (du ρ) fun hi => fSl b x lo hi
section
variable {X : Cx} {W : WX} {a e : Expr} {lo hi : Option Expr} {da de : Den} {dl du : PD} {p2 pos : Pos}
theorem oh_no : OH X W none oNo := poI po_none fun σ H Q ⟨G, as, ρ, S, t, eo, q⟩ => tR.now q t
theorem oh_some (ha : EH X W a da) : OH X W (some a) (oSm da) := poI (po_some ha) fun σ H Q ⟨G, as, ρ, S, t, eo, q⟩ => ⟨G, as, ρ, S, t, eo, tF.bind q fun v d G1 as1 S1 H1 t1 l1 r1 q1 => by
  cases r1 with
  | int i => exact ⟨i, rfl, tR.now q1 t1⟩
  | _ => exact (tR.no q1).elim⟩
theorem eh_sl (b : Bool) (he : EH X W e de) (hl : OH X W lo dl) (hu : OH X W hi du) : EH X W (.Subscript e (.Slice lo hi none p2) pos) (dSl b de dl du) :=
  peI (pe_slice sl_list he hl hu) fun σ H Q ⟨G, as, ρ, S, t, eo, q⟩ => ⟨G, as, ρ, S, t, eo, tF.bind q fun v d G1 as1 S1 H1 t1 l1 r1 q1 => ⟨G1, as1, ρ, S1, t1, eo.le l1, tR.bind q1 fun o1 G2 as2 S2 H2 t2 l2 q2 =>
    ⟨G2, as2, ρ, S2, t2, (eo.le l1).le l2, tR.bind q2 fun o2 G3 as3 S3 H3 t3 l3 q3 => by
      have q0 : ∃ ds, lstD S3 d = some ds ∧ tF X.K W σ G3 as3 S3 H3 (allocL b ((ds.drop (HT.sIx ds.length 0 o1)).take (HT.sIx ds.length ds.length o2 - HT.sIx ds.length 0 o1))) Q := by
        obtain ⟨r0, S', e, h⟩ := q3
        unfold fSl at e
        split at e
        · rename_i ds e1
          exact ⟨ds, e1, r0, S', e, h⟩
        · cases e
      obtain ⟨ds, e1, q4⟩ := q0
      obtain ⟨p, xs, rfl, hx, rx⟩ := t3.lst ((r1.le l2).le l3) e1
      refine ⟨p, xs, rfl, .inl (.inl hx), (allocL_ok q4 t3 ?_).2⟩
      rw [show cutV xs o1 o2 = (xs.drop (HT.sIx ds.length 0 o1)).take (HT.sIx ds.length ds.length o2 - HT.sIx ds.length 0 o1) from by unfold cutV; rw [rx.len]]
      exact (rx.drop _).take _⟩⟩⟩
end
/-! ### stores -/
/-- x.append(y) -/
def fApp (x : D) : List D → Mx D
  | [y] => fun S => match x with
    | .h n => match S[n]? with
      | some (some (.cl ds)) => if ds.length < 16777216 then some (.ok .non, S.set n (some (.cl (ds ++ [y])))) else none
      | _ => none
    | _ => none
  | _ => mnone
def dApp (do_ : Den) (dd : AD) : Den := fun ρ => mbind (do_ ρ) fun x => mbind (mOf fun S => lstD S x) fun _ => mbind (dd ρ) fun ds => fApp x ds
/-- o[i] = e -/
def fSet (o i v : D) : Mx Unit := fun S => match o, i with
  | .h n, .int k => match S[n]? with
    | some (some (.cl ds)) => match ixN ds.length k with
      | some j => some (.ok (), S.set n (some (.cl (ds.set j v))))
      | none => none
    | _ => none
  | _, _ => none
def sSub (do_ di de : Den) : SDen := fun ρ => lift ρ (mbind (de ρ) fun v => mbind (do_ ρ) fun o => mbind (di ρ) fun i => fSet o i v) fun _ => sOu (.nx ρ)
section
variable {X : Cx} {W : WX} {o i e : Expr} {es : List Expr} {do_ di de : Den} {dd : AD} {apos cpos pos pos' : Pos}
theorem tyL {K : PySem.W.Frag} {G H : Hp} {as : List Addr} {S : Store} {n : Nat} {a : Addr} (t : Ht K G as S H) (ea : as[n]? = some a) {ds : List D} (e : S[n]? = some (some (.cl ds))) : ∃ xs, H a = some (.lst xs) ∧ RVs K G as xs ds := by
  obtain ⟨a', e1, _, xs, e2, e3⟩ := t.cell _ _ e
  rw [ea] at e1
  cases e1
  exact ⟨xs, e2, e3⟩
theorem tR.ofK {α β : Type} {K : PySem.W.Frag} {σ : L2.St} {G H : Hp} {as : List Addr} {S : Store} {o : Store → Option α} {k : α → Mx β} {C : β → Hp → List Addr → Store → Hp → Prop} (h : tR K W σ G as S H (mbind (mOf o) k) C) : ∃ a, o S = some a ∧ tR K W σ G as S H (k a) C := by
  obtain ⟨r, S', e, h⟩ := h
  unfold mbind mOf at e
  cases q : o S with
  | none =>
    rw [q] at e
    cases e
  | some a =>
    rw [q] at e
    exact ⟨a, rfl, r, S', e, h⟩
theorem eh_app (ho : EH X W o do_) (ha : AH X W [e] dd)
    (hbase : attributeBase o "append" X.env (eval o X.env) = eval o X.env := by rfl)
    (hfew : ((backTo cpos (starEach [e] X.env)).all (fun x => !x.1) && (backToKw cpos (keywordEach [] X.env)).all (fun x => x.1.isSome)
      && decide ([e].length + ([] : List Keyword).length + (if ([] : List Keyword).isEmpty then 0 else 1) < 30)) = true := by rfl)
    (hline : (apos.endLine == cpos.line) = true := by rfl) (hs : starEach [e] X.env = (false, eval e X.env) :: starEach [] X.env := by rfl) (hplain : (backTo cpos (starEach [] X.env)).any (·.1) = false := by rfl) :
    EH X W (.Call (.Attribute o "append" apos) [e] [] cpos) (dApp do_ dd) :=
  peI (pe_bm PySem.F.plainAttrs_list PySem.F.slot_list_append PySem.F.type_list_append mt_append ho ha hbase hfew hline hs hplain) fun σ H Q ⟨G, as, ρ, S, t, eo, q⟩ => ⟨G, as, ρ, S, t, eo, tF.bind q fun v d G1 as1 S1 H1 t1 l1 r1 q1 => by
    obtain ⟨ds1, e1, q1⟩ := tR.ofK q1
    obtain ⟨a, xs, rfl, hx, rx⟩ := t1.lst r1 e1
    refine ⟨.inl ⟨rfl, xs, .inl (.inl hx)⟩, G1, as1, ρ, S1, t1, eo.le l1, tL.bind q1 fun vs ds G2 as2 S2 H2 t2 l2 r2 q2 => ?_⟩
    obtain ⟨r0, S', e2, h⟩ := q2
    unfold fApp at e2
    split at e2
    · rename_i y
      split at e2
      · rename_i n
        split at e2
        · rename_i ds q3
          split at e2
          · rename_i hz
            cases e2
            cases r1.le l2 with
            | h _ ea =>
              obtain ⟨xs2, hx2, rx2⟩ := tyL t2 ea q3
              cases r2 with
              | cons ry rr =>
                cases rr
                obtain ⟨t3, l3⟩ := t2.store q3 ea (c := .cl (ds ++ [y])) (o := .lst (xs2 ++ [_])) fun H' e' => ⟨_, e', rx2.append (.cons ry .nil)⟩
                exact ⟨a, xs2, _, rfl, rfl, hx2, by rw [sizeLine_eq, rx2.len]; exact hz, h _ _ _ t3 l3 _ .non⟩
          · cases e2
        · cases e2
      · cases e2
    · cases e2⟩
theorem sh_sub (he : EH X W e de) (ho : EH X W o do_) (hi : EH X W i di)
    (ha : ∀ v, assign (.Subscript o i pos') X.env v = (do
      let ov ← holding [v] (eval o X.env)
      let iv ← holding [v, ov] (eval i X.env)
      standAt pos'
      holding [v, ov, iv] (setItem ov iv v)
      release [v, ov, iv] []) := by intro _; rfl)
    (hs : swapsWithSole [.Subscript o i pos'] e pos.line X.env = pure false := by rfl) (hw : swappedStores [.Subscript o i pos'] e X.env = pure none := by rfl)
    (h1 : (assignEach [.Subscript o i pos'] X.env).map (·.2) = [assign (.Subscript o i pos') X.env] := by rfl) : SH X W (.Assign [.Subscript o i pos'] e pos) (sSub do_ di de) :=
  psI (ps_asg he (pg_sub ho hi set_list ha) hs hw h1) fun D σ H ⟨G, as, ρ, S, t, eo, q⟩ => by
    have q0 : tR X.K W σ G as S H (mbind (de ρ) fun v => mbind (do_ ρ) fun o => mbind (di ρ) fun i => fSet o i v) fun _ G' as' S' H' => D.nx σ H' := q.lift eo fun a G1 as1 S1 H1 t1 l1 q1 => tS.now q1 t1 σ rfl (eo.le l1)
    refine ⟨G, as, ρ, S, t, eo, tF.bind q0 fun v d G1 as1 S1 H1 t1 l1 r1 q1 => ⟨G1, as1, ρ, S1, t1, eo.le l1, tF.bind q1 fun ov od G2 as2 S2 H2 t2 l2 r2 q2 => ⟨G2, as2, ρ, S2, t2, (eo.le l1).le l2, tF.bind q2 fun iv id G3 as3 S3 H3 t3 l3 r3 q3 => ?_⟩⟩⟩
    have rv := (r1.le l2).le l3
    have ro := r2.le l3
    obtain ⟨r0, S', e2, h⟩ := q3
    unfold fSet at e2
    split at e2
    · rename_i n k
      split at e2
      · rename_i ds q4
        split at e2
        · rename_i j e4
          cases e2
          cases ro with
          | h _ ea =>
            cases r3 with
            | int _ =>
              obtain ⟨xs, hx, rx⟩ := tyL t3 ea q4
              obtain ⟨t4, l4⟩ := t3.store q4 ea (c := .cl (ds.set j d)) (o := .lst (xs.set j v)) fun H' e' => ⟨_, e', rx.set j rv⟩
              exact ⟨_, xs, k, j, rfl, rfl, hx, by rw [rx.len]; exact e4, h _ _ _ t4 l4⟩
        · cases e2
      · cases e2
    · cases e2
end
end L2.Hy
end
section
/-! Cells settled, with all that hangs on them. -/
namespace L2.Hy
open PySem PySem.Spec PyProof.Rows
mutual
def frzG (r : Nat → Mx D) : D → Mx D
  | .tup ds => mbind (frzsG r ds) fun es => mret (.tup es)
  | .lst ds => mbind (frzsG r ds) fun es => mret (.lst es)
  | .dct ds => mbind (frzkG r ds) fun es => mret (.dct es)
  | .obj c ds => mbind (frzfG r ds) fun es => mret (.obj c es)
  | .exc c f d => mbind (frzG r d) fun e => mret (.exc c f e)
  | .h n => r n
  | .non => mret .non
  | .bl b => mret (.bl b)
  | .int i => mret (.int i)
  | .str x => mret (.str x)
  | .ty n => mret (.ty n)
  | .cls x => mret (.cls x)
  | .nfn x => mret (.nfn x)
  | .scr is => mret (.scr is)
def frzsG (r : Nat → Mx D) : List D → Mx (List D)
  | [] => mret []
  | d :: ds => mbind (frzG r d) fun e => mbind (frzsG r ds) fun es => mret (e :: es)
def frzkG (r : Nat → Mx D) : List (Key × D) → Mx (List (Key × D))
  | [] => mret []
  | (k, d) :: ds => mbind (frzG r d) fun e => mbind (frzkG r ds) fun es => mret ((k, e) :: es)
def frzfG (r : Nat → Mx D) : List (Str × D) → Mx (List (Str × D))
  | [] => mret []
  | (k, d) :: ds => mbind (frzG r d) fun e => mbind (frzfG r ds) fun es => mret ((k, e) :: es)
end
def rFz : Nat → Nat → Mx D
  | 0, _ => mnone
  | k + 1, n => fun S => match S[n]? with
    | some (some (.cl ds)) => (mbind (frzsG (rFz k) ds) fun es => mret (.lst es)) (S.set n none)
    | some (some (.cd ds)) => (mbind (frzkG (rFz k) ds) fun es => mret (.dct es)) (S.set n none)
    | some (some (.ci c ds)) => (mbind (frzfG (rFz k) ds) fun es => mret (.obj c es)) (S.set n none)
    | _ => none
def frz (d : D) : Mx D := if D.lo 0 d = true then mret d else frzG (rFz 8) d
structure FzR (K : PySem.W.Frag) (S S' : Store) (G G' : Hp) (as : List Addr) (H : Hp) : Prop where
  t : Ht K G' as S' H
  l : Le G as H G' as H
  s : ∀ (m : Nat) (a : Addr), as[m]? = some a → S[m]? = some none → G' a = G a
  n : ∀ m : Nat, S[m]? = some none → S'[m]? = some none
section
variable {K : PySem.W.Frag} {G G1 G2 H : Hp} {as : List Addr} {S S1 S2 : Store}
theorem FzR.refl (t : Ht K G as S H) : FzR K S S G G as H := ⟨t, Le.refl, fun _ _ _ _ => rfl, fun _ h => h⟩
theorem FzR.trans (a : FzR K S S1 G G1 as H) (b : FzR K S1 S2 G1 G2 as H) : FzR K S S2 G G2 as H := ⟨b.t, a.l.trans b.l, fun m x e h => (b.s m x e (a.n m h)).trans (a.s m x e h), fun m h => b.n m (a.n m h)⟩
def HR (K : PySem.W.Frag) (r : Nat → Mx D) : Prop := ∀ n S rz S' G as H a, r n S = some (rz, S') → Ht K G as S H → as[n]? = some a → ∃ d' G', rz = .ok d' ∧ FzR K S S' G G' as H ∧ RV K G' as (.ref a) d'
theorem mb {α β : Type} {m : Mx α} {k : α → Mx β} {S S' : Store} {rz : Rz β} (e : mbind m k S = some (rz, S')) : (∃ a S1, m S = some (.ok a, S1) ∧ k a S1 = some (rz, S')) ∨ ∃ c f d, m S = some (.ex c f d, S') ∧ rz = .ex c f d := by
  unfold mbind at e
  cases q : m S with
  | none =>
    rw [q] at e
    cases e
  | some p =>
    obtain ⟨r0, S1⟩ := p
    rw [q] at e
    cases r0 with
    | ok a => exact .inl ⟨a, S1, rfl, e⟩
    | ex c f d =>
      cases e
      exact .inr ⟨c, f, d, rfl, rfl⟩
mutual
theorem frzG_ok {r : Nat → Mx D} (hr : HR K r) : ∀ (d : D) {v : V} {G H : Hp} {as : List Addr} {S S' : Store} {rz : Rz D}, RV K G as v d → frzG r d S = some (rz, S') → Ht K G as S H → ∃ d' G', rz = .ok d' ∧ FzR K S S' G G' as H ∧ RV K G' as v d'
  | .tup ds, v, G, H, as, S, S', rz, x, e, t => by
    cases x with
    | tup h x =>
      rcases mb e with ⟨es, S1, e1, e2⟩ | ⟨c, f, d, e1, _⟩
      · obtain ⟨es', G', q, z, y⟩ := frzsG_ok hr ds x e1 t
        cases q
        cases e2
        exact ⟨_, G', rfl, z, .tup (sqT_same z.l.g h) y⟩
      · obtain ⟨_, _, q, _⟩ := frzsG_ok hr ds x e1 t
        cases q
  | .lst ds, v, G, H, as, S, S', rz, x, e, t => by
    cases x with
    | lst h x =>
      rcases mb e with ⟨es, S1, e1, e2⟩ | ⟨c, f, d, e1, _⟩
      · obtain ⟨es', G', q, z, y⟩ := frzsG_ok hr ds x e1 t
        cases q
        cases e2
        exact ⟨_, G', rfl, z, .lst (z.l.g _ _ h) y⟩
      · obtain ⟨_, _, q, _⟩ := frzsG_ok hr ds x e1 t
        cases q
  | .dct ds, v, G, H, as, S, S', rz, x, e, t => by
    cases x with
    | dct h x =>
      rcases mb e with ⟨es, S1, e1, e2⟩ | ⟨c, f, d, e1, _⟩
      · obtain ⟨es', G', q, z, y⟩ := frzkG_ok hr ds x e1 t
        cases q
        cases e2
        exact ⟨_, G', rfl, z, .dct (z.l.g _ _ h) y⟩
      · obtain ⟨_, _, q, _⟩ := frzkG_ok hr ds x e1 t
        cases q
  | .obj c ds, v, G, H, as, S, S', rz, x, e, t => by
    cases x with
    | obj h x =>
      rcases mb e with ⟨es, S1, e1, e2⟩ | ⟨c, f, d, e1, _⟩
      · obtain ⟨es', G', q, z, y⟩ := frzfG_ok hr ds x e1 t
        cases q
        cases e2
        exact ⟨_, G', rfl, z, .obj (z.l.g _ _ h) y⟩
      · obtain ⟨_, _, q, _⟩ := frzfG_ok hr ds x e1 t
        cases q
  | .exc c f d, v, G, H, as, S, S', rz, x, e, t => by
    cases x with
    | exc h x =>
      rcases mb e with ⟨es, S1, e1, e2⟩ | ⟨c', f', d', e1, _⟩
      · obtain ⟨es', G', q, z, y⟩ := frzG_ok hr d x e1 t
        cases q
        cases e2
        exact ⟨_, G', rfl, z, .exc (h.same z.l.g) y⟩
      · obtain ⟨_, _, q, _⟩ := frzG_ok hr d x e1 t
        cases q
  | .h n, v, G, H, as, S, S', rz, x, e, t => by
    cases x with
    | h _ ea => exact hr n S rz S' G as H _ e t ea
  | .non, v, G, H, as, S, S', rz, x, e, t => by cases e; exact ⟨_, G, rfl, .refl t, x⟩
  | .bl _, v, G, H, as, S, S', rz, x, e, t => by cases e; exact ⟨_, G, rfl, .refl t, x⟩
  | .int _, v, G, H, as, S, S', rz, x, e, t => by cases e; exact ⟨_, G, rfl, .refl t, x⟩
  | .str _, v, G, H, as, S, S', rz, x, e, t => by cases e; exact ⟨_, G, rfl, .refl t, x⟩
  | .ty _, v, G, H, as, S, S', rz, x, e, t => by cases e; exact ⟨_, G, rfl, .refl t, x⟩
  | .cls _, v, G, H, as, S, S', rz, x, e, t => by cases e; exact ⟨_, G, rfl, .refl t, x⟩
  | .nfn _, v, G, H, as, S, S', rz, x, e, t => by cases e; exact ⟨_, G, rfl, .refl t, x⟩
  | .scr _, v, G, H, as, S, S', rz, x, e, t => by cases e; exact ⟨_, G, rfl, .refl t, x⟩
theorem frzsG_ok {r : Nat → Mx D} (hr : HR K r) : ∀ (d : List D) {v : List V} {G H : Hp} {as : List Addr} {S S' : Store} {rz : Rz (List D)}, RVs K G as v d → frzsG r d S = some (rz, S') → Ht K G as S H → ∃ d' G', rz = .ok d' ∧ FzR K S S' G G' as H ∧ RVs K G' as v d'
  | [], v, G, H, as, S, S', rz, x, e, t => by cases e; cases x; exact ⟨_, G, rfl, .refl t, .nil⟩
  | d :: ds, v, G, H, as, S, S', rz, x, e, t => by
    cases x with
    | cons x xs =>
      rcases mb e with ⟨e', S1, e1, e2⟩ | ⟨c, f, d', e1, _⟩
      · obtain ⟨d1, G1, q, z, y⟩ := frzG_ok hr d x e1 t
        cases q
        rcases mb e2 with ⟨e', S2, e3, e4⟩ | ⟨c, f, d', e3, _⟩
        · obtain ⟨d2, G2, q, z2, y2⟩ := frzsG_ok hr ds (xs.le z.l) e3 z.t
          cases q
          cases e4
          exact ⟨_, G2, rfl, z.trans z2, .cons (y.le z2.l) y2⟩
        · obtain ⟨d2, G2, q, z2, y2⟩ := frzsG_ok hr ds (xs.le z.l) e3 z.t
          cases q
      · obtain ⟨_, _, q, _⟩ := frzG_ok hr d x e1 t
        cases q
theorem frzkG_ok {r : Nat → Mx D} (hr : HR K r) : ∀ (d : List (Key × D)) {v : List (Key × V)} {G H : Hp} {as : List Addr} {S S' : Store} {rz : Rz (List (Key × D))}, RVk K G as v d → frzkG r d S = some (rz, S') → Ht K G as S H → ∃ d' G', rz = .ok d' ∧ FzR K S S' G G' as H ∧ RVk K G' as v d'
  | [], v, G, H, as, S, S', rz, x, e, t => by cases e; cases x; exact ⟨_, G, rfl, .refl t, .nil⟩
  | (k, d) :: ds, v, G, H, as, S, S', rz, x, e, t => by
    cases x with
    | cons x xs =>
      rcases mb e with ⟨e', S1, e1, e2⟩ | ⟨c, f, d', e1, _⟩
      · obtain ⟨d1, G1, q, z, y⟩ := frzG_ok hr d x e1 t
        cases q
        rcases mb e2 with ⟨e', S2, e3, e4⟩ | ⟨c, f, d', e3, _⟩
        · obtain ⟨d2, G2, q, z2, y2⟩ := frzkG_ok hr ds (xs.up z.l.g z.l.ad) e3 z.t
          cases q
          cases e4
          exact ⟨_, G2, rfl, z.trans z2, .cons (y.le z2.l) y2⟩
        · obtain ⟨d2, G2, q, z2, y2⟩ := frzkG_ok hr ds (xs.up z.l.g z.l.ad) e3 z.t
          cases q
      · obtain ⟨_, _, q, _⟩ := frzG_ok hr d x e1 t
        cases q
theorem frzfG_ok {r : Nat → Mx D} (hr : HR K r) : ∀ (d : List (Str × D)) {v : List (Str × V)} {G H : Hp} {as : List Addr} {S S' : Store} {rz : Rz (List (Str × D))}, RVf K G as v d → frzfG r d S = some (rz, S') → Ht K G as S H → ∃ d' G', rz = .ok d' ∧ FzR K S S' G G' as H ∧ RVf K G' as v d'
  | [], v, G, H, as, S, S', rz, x, e, t => by cases e; cases x; exact ⟨_, G, rfl, .refl t, .nil⟩
  | (k, d) :: ds, v, G, H, as, S, S', rz, x, e, t => by
    cases x with
    | cons x xs =>
      rcases mb e with ⟨e', S1, e1, e2⟩ | ⟨c, f, d', e1, _⟩
      · obtain ⟨d1, G1, q, z, y⟩ := frzG_ok hr d x e1 t
        cases q
        rcases mb e2 with ⟨e', S2, e3, e4⟩ | ⟨c, f, d', e3, _⟩
        · obtain ⟨d2, G2, q, z2, y2⟩ := frzfG_ok hr ds (xs.up z.l.g z.l.ad) e3 z.t
          cases q
          cases e4
          exact ⟨_, G2, rfl, z.trans z2, .cons (y.le z2.l) y2⟩
        · obtain ⟨d2, G2, q, z2, y2⟩ := frzfG_ok hr ds (xs.up z.l.g z.l.ad) e3 z.t
          cases q
      · obtain ⟨_, _, q, _⟩ := frzG_ok hr d x e1 t
        cases q
end
theorem Ht.drop (t : Ht K G as S H) (n : Nat) : Ht K G as (S.set n none) H := ⟨t.sub, by rw [List.length_set]; exact t.len, t.nd, t.there, fun m c e => by
  rw [List.getElem?_set] at e
  split at e
  · split at e <;> cases e
  · exact t.cell m c e⟩
/-- a cell that was taken out is settled -/
theorem fz_end {n : Nat} {a : Addr} {o : HO} {c : Cell} (ht : Ht K G as S H) (hn : S[n]? = some (some c)) (ea : as[n]? = some a) (g0 : G a = none) (ho : H a = some o) (z : FzR K (S.set n none) S1 G G1 as H) :
    FzR K S S1 G (upd G1 a o) as H ∧ Le G1 as H (upd G1 a o) as H ∧ (upd G1 a o) a = some o := by
  have hs : (S.set n none)[n]? = some none := by
    rw [List.getElem?_set, if_pos rfl, if_pos (List.getElem?_eq_some_iff.mp hn).1]
  have g1 : G1 a = none := (z.s n a ea hs).trans g0
  have n1 := z.n n hs
  have l : Le G1 as H (upd G1 a o) as H := ⟨fun b u e => by rw [upd_ne (fun q => by rw [q, g1] at e; cases e)]; exact e, fun _ _ e => e, fun _ _ e _ => e, fun b e1 e2 nb => by rw [upd_ne (fun q => nb (by rw [q]; exact List.mem_of_getElem? ea))]; exact e1, fun _ e => .inl e⟩
  refine ⟨⟨⟨fun b u e => ?_, z.t.len, z.t.nd, z.t.there, fun m c' e => ?_⟩, z.l.trans l, fun m b eb hm => ?_, fun m hm => ?_⟩, l, upd_same⟩
  · by_cases q : b = a
    · subst q
      rw [upd_same] at e
      cases e
      exact ho
    · rw [upd_ne q] at e
      exact z.t.sub _ _ e
  · obtain ⟨b, e1, e2, e3⟩ := z.t.cell m c' e
    have : b ≠ a := by
      rintro rfl
      have := (List.getElem?_inj (List.getElem?_eq_some_iff.mp e1).1 z.t.nd).mp (e1.trans ea.symm)
      rw [this, n1] at e
      cases e
    exact ⟨b, e1, by rw [upd_ne this]; exact e2, e3.up l.g (fun _ _ e => e) rfl⟩
  · have mn : m ≠ n := by
      rintro rfl
      rw [hn] at hm
      cases hm
    have : b ≠ a := by
      rintro rfl
      exact mn ((List.getElem?_inj (List.getElem?_eq_some_iff.mp eb).1 z.t.nd).mp (eb.trans ea.symm))
    rw [upd_ne this]
    exact z.s m b eb (by rw [List.getElem?_set, if_neg (Ne.symm mn)]; exact hm)
  · have mn : m ≠ n := by
      rintro rfl
      rw [hn] at hm
      cases hm
    exact z.n m (by rw [List.getElem?_set, if_neg (Ne.symm mn)]; exact hm)
theorem rFz_ok : ∀ k : Nat, HR K (rFz k)
  | 0, n, S, rz, S', G, as, H, a, e, t, ea => by cases e
  | k + 1, n, S, rz, S', G, as, H, a, e, t, ea => by
    unfold rFz at e
    split at e
    · rename_i ds q
      obtain ⟨a', e1, g0, xs, e2, e3⟩ := t.cell _ _ q
      rw [ea] at e1
      cases e1
      rcases mb e with ⟨es, S1, e1, e4⟩ | ⟨c, f, d, e1, _⟩
      · obtain ⟨es', G1, q1, z, y⟩ := frzsG_ok (rFz_ok k) ds e3 e1 (t.drop n)
        cases q1
        cases e4
        obtain ⟨z2, l2, g2⟩ := fz_end t q ea g0 e2 z
        exact ⟨_, _, rfl, z2, .lst g2 (y.le l2)⟩
      · obtain ⟨_, _, q1, _⟩ := frzsG_ok (rFz_ok k) ds e3 e1 (t.drop n)
        cases q1
    · rename_i ds q
      obtain ⟨a', e1, g0, xs, e2, e3⟩ := t.cell _ _ q
      rw [ea] at e1
      cases e1
      rcases mb e with ⟨es, S1, e1, e4⟩ | ⟨c, f, d, e1, _⟩
      · obtain ⟨es', G1, q1, z, y⟩ := frzkG_ok (rFz_ok k) ds e3 e1 (t.drop n)
        cases q1
        cases e4
        obtain ⟨z2, l2, g2⟩ := fz_end t q ea g0 e2 z
        exact ⟨_, _, rfl, z2, .dct g2 (y.up l2.g l2.ad)⟩
      · obtain ⟨_, _, q1, _⟩ := frzkG_ok (rFz_ok k) ds e3 e1 (t.drop n)
        cases q1
    · rename_i c ds q
      obtain ⟨a', e1, g0, dx, xs, e2, e3⟩ := t.cell _ _ q
      rw [ea] at e1
      cases e1
      rcases mb e with ⟨es, S1, e1, e4⟩ | ⟨c, f, d, e1, _⟩
      · obtain ⟨es', G1, q1, z, y⟩ := frzfG_ok (rFz_ok k) ds e3 e1 (t.drop n)
        cases q1
        cases e4
        obtain ⟨z2, l2, g2⟩ := fz_end t q ea g0 e2 z
        exact ⟨_, _, rfl, z2, .obj g2 (y.up l2.g l2.ad)⟩
      · obtain ⟨_, _, q1, _⟩ := frzfG_ok (rFz_ok k) ds e3 e1 (t.drop n)
        cases q1
    · cases e
/-- the value, and all on it, settled: the heap stays, σ stays -/
theorem frz_ok {d : D} {v : V} {rz : Rz D} {S' : Store} (t : Ht K G as S H) (x : RV K G as v d) (e : frz d S = some (rz, S')) : ∃ d' G', rz = .ok d' ∧ Ht K G' as S' H ∧ Le G as H G' as H ∧ RV K G' as v d' := by
  unfold frz at e
  split at e
  · cases e
    exact ⟨d, G, rfl, t, Le.refl, x⟩
  · obtain ⟨d', G', q, z, y⟩ := frzG_ok (rFz_ok 8) d x e t
    exact ⟨d', G', q, z.t, z.l, y⟩
end
/-- a value is settled at once -/
def dFrz (de : Den) : Den := fun ρ => mbind (de ρ) frz
theorem eh_frz {X : Cx} {W : WX} {e : Expr} {de : Den} (he : EH X W e de) : EH X W e (dFrz de) := peI he fun σ H Q ⟨G, as, ρ, S, t, eo, q⟩ => ⟨G, as, ρ, S, t, eo, tF.bind q fun v d G1 as1 S1 H1 t1 l1 r1 q1 => by
  obtain ⟨rz, S', e1, h⟩ := q1
  obtain ⟨d', G', rfl, t2, l2, r2⟩ := frz_ok t1 r1 e1
  exact h G' as1 H1 t2 l2 v r2⟩
/-- a slot's value is settled ahead of a statement -/
def sFrz (i : Nat) (den : SDen) : SDen := fun ρ => match ρ[i]? with
  | some (some d) => fun S => match frz d S with
    | some (.ok d', S1) => den (ρ.set i (some d')) S1
    | _ => none
  | _ => sNo
theorem frzQ {K : PySem.W.Frag} {W : WX} {i : Nat} {den : SDen} {D : Ends} {σ : L2.St} {H : Hp} (h : tHs K W (sFrz i den) D σ H) : tHs K W den D σ H := by
  obtain ⟨G, as, ρ, S, t, eo, q⟩ := h
  unfold sFrz at q
  split at q
  · rename_i d e
    obtain ⟨o, S', e1, h⟩ := q
    obtain ⟨v, hv, r⟩ := eo.ok i d e
    dsimp only at e1
    split at e1
    · rename_i d' S1 e2
      obtain ⟨d2, G', q2, t2, l2, r2⟩ := frz_ok t r e2
      cases q2
      have eo2 : EnvOk K G' as σ (ρ.set i (some d')) := by
        have := (eo.le l2).set r2 i
        rwa [show σ.set i (some v) = σ from by
          refine List.ext_getElem? fun j => ?_
          rw [List.getElem?_set]
          split
          · rename_i z
            subst z
            rw [if_pos (List.getElem?_eq_some_iff.mp hv).1]
            exact hv.symm
          · rfl] at this
      exact ⟨G', as, _, S1, t2, eo2, o, S', e1, fun G2 as2 H2 t3 l3 => h G2 as2 H2 t3 (l2.trans l3)⟩
    · cases e1
  · exact (tS.no q).elim
theorem sh_frz {X : Cx} {W : WX} (i : Nat) {st : Stmt} {den : SDen} (h : SH X W st den) : SH X W st (sFrz i den) := psI h fun D σ H => frzQ
theorem ss_frz {X : Cx} {W : WX} (i : Nat) {st : List Stmt} {den : SDen} (h : SsH X W st den) : SsH X W st (sFrz i den) := pssI h fun D σ H => frzQ
end L2.Hy
end
section
/-! def __init__(self, f=None): self.f = f, of an own exception. -/
namespace L2.Xv
open PySem PySem.Spec PyProof.Rows He
def aIni (f : Str) (p1 p2 : Pos) (d : Expr) : Arguments := { posonlyargs := [], args := [{ arg := "self", annotation := none, pos := p1 }, { arg := f, annotation := none, pos := p2 }], vararg := none, kwonlyargs := [], kw_defaults := [], kwarg := none, defaults := [d] }
def bIni (f : Str) (q1 q2 q3 q4 : Pos) : List Stmt := [.Assign [.Attribute (.Name "self" q1) f q2] (.Name f q3) q4]
def sIni (f : Str) : Scope := { kind := .function, names := [(PySem.Str.ofString "self", .local), (f, .local)], isGenerator := false, isCoroutine := false, more := [] }
/-- what a call of such a class C with the field f leans on -/
structure Ini (P : Program) (w : World) (K : PySem.W.Frag) (mg : Str → Option Value) (base : Heap) (C : Addr) (f : Str) (fI : Addr) (fd : FuncData) : Prop where
  ok : FnOk P w K mg base CX0 1 fI fd ["self", f] (spIn C f)
  b1 : ∀ (self u : Value) (s' : Shared), K.In s'.heap → BindsTo s' fd ⟨[self, u], []⟩ ((["self", f] : List Str).zip [self, u])
  b0 : ∀ (self : Value) (s' : Shared), K.In s'.heap → BindsTo s' fd ⟨[self], []⟩ ((["self", f] : List Str).zip [self, .none])
  bk : ∀ (self u : Value) (s' : Shared), K.In s'.heap → BindsTo s' fd ⟨[self], [(f, u)]⟩ ((["self", f] : List Str).zip [self, u])
section
variable {P : Program} {w : World} {K : PySem.W.Frag} {mg : Str → Option Value} {base : Heap} {C fI : Addr} {fd : FuncData} {qual f : Str} {p1 p2 q1 q2 q3 q4 : Pos} {d : Expr}
theorem ini_scope (hf : ¬ ("self" : Str) = f) : FnScope ["self", f] ["self", f] (sIni f) := by
  refine ⟨rfl, rfl, rfl, ?_, rfl, ?_, ?_⟩
  · simp [hf]
  · intro x hx
    left
    by_cases e : x = ("self" : Str)
    · subst e
      simp [sIni, List.lookup]
    · have : x = f := by simpa [e] using hx
      subst this
      have q : (x == ("self" : Str)) = false := by simpa using e
      simp [sIni, List.lookup, q]
  · intro y hy
    have : y = (PySem.Str.ofString "self", NameKind.local) ∨ y = (f, NameKind.local) := by simpa [sIni] using hy
    rcases this with rfl | rfl <;> simp
theorem ini_ok (F : FunD K "__init__" qual (aIni f p1 p2 d) (bIni f q1 q2 q3 q4) (sIni f) [.non] [] fI fd) (hf : ¬ ("self" : Str) = f) (hd1 : (f == ("__debug__" : Str)) = false) (hd2 : (f == ("__classdict__" : Str)) = false) (T : OexC K C) (hno : PySem.W.findIn K (.ref C) f = some none) : FnOk P w K mg base CX0 1 fI fd ["self", f] (spIn C f) := by
  have S := ini_scope hf
  refine F.ok S (fun vs H Q E h => ?_) (fun cdv A outer s H vs Q E hr h => ?_)
  · obtain ⟨a, y, rfl, _⟩ := h
    rfl
  · obtain ⟨a, y, rfl, ha, k⟩ := h
    have v1 : (sIni f).names.lookup f = some .local := by
      have q : (f == ("self" : Str)) = false := by simpa using fun z : f = "self" => hf z.symm
      simp [sIni, List.lookup, q]
    refine ⟨_, pss_one (ps_ost (pv 0) (pe_var (i := 1) (x := f) (by rfl) (by exact Or.inl v1) hd1 hd2)), ?_⟩
    refine ⟨_, rfl, _, rfl, a, C, rfl, T, hno, .inl ⟨ha, fun dx hdx ne => ?_⟩⟩
    exact k dx hdx ne
end
theorem ini_value {P : Program} {w : World} {K : PySem.W.Frag} {mg : Str → Option Value} {base : Heap} {C fI : Addr} {fd : FuncData} {qual : Str} {p1 p2 q1 q2 q3 q4 : Pos} {d : Expr}
    (F : FunD K "__init__" qual (aIni "value" p1 p2 d) (bIni "value" q1 q2 q3 q4) (sIni "value") [.non] [] fI fd) (T : OexC K C) (hno : PySem.W.findIn K (.ref C) "value" = some none) : Ini P w K mg base C "value" fI fd := by
  refine ⟨ini_ok F (by decide) (by decide) (by decide) T hno, fun self u s' X => ?_, fun self s' X => ?_, fun self u s' X => ?_⟩
  · obtain ⟨ds, rv, hb⟩ := F.binds1 (ps := ["self", "value"]) 2 1 (by simp) rfl fun T kV doc pm an cdv ct us its hu hi => match us, its, hu, hi with | [_, _], [_], _, _ => ⟨_, rfl, rfl⟩
    cases rv
    exact hb s' [self, u] X rfl
  · obtain ⟨ds, rv, hb⟩ := F.binds1 (ps := ["self", "value"]) 1 0 (by simp) rfl fun T kV doc pm an cdv ct us its hu hi => match us, its, hu, hi with | [_], [_], _, _ => ⟨_, rfl, rfl⟩
    have rv' : Vals [V.non] ds := rv
    cases rv' with
    | cons r1 r2 =>
      cases r2
      cases r1
      exact hb s' [self] X rfl
  · obtain ⟨its, kb⟩ := F.kbindsD (ps := ["self", "value"]) 1 ["value"] (fun us _ ws => us ++ ws) (by simp) (fun r1 _ r3 => r1.append r3) fun T kV doc pm an cdv ct us its ws hu hi hw => match us, its, ws, hu, hi, hw with | [_], [_], [_], _, _, _ => ⟨_, rfl, rfl⟩
    exact kb.to s' [self] [u] X rfl rfl
theorem ini_name {P : Program} {w : World} {K : PySem.W.Frag} {mg : Str → Option Value} {base : Heap} {C fI : Addr} {fd : FuncData} {qual : Str} {p1 p2 q1 q2 q3 q4 : Pos} {d : Expr}
    (F : FunD K "__init__" qual (aIni "name" p1 p2 d) (bIni "name" q1 q2 q3 q4) (sIni "name") [.non] [] fI fd) (T : OexC K C) (hno : PySem.W.findIn K (.ref C) "name" = some none) : Ini P w K mg base C "name" fI fd := by
  refine ⟨ini_ok F (by decide) (by decide) (by decide) T hno, fun self u s' X => ?_, fun self s' X => ?_, fun self u s' X => ?_⟩
  · obtain ⟨ds, rv, hb⟩ := F.binds1 (ps := ["self", "name"]) 2 1 (by simp) rfl fun T kV doc pm an cdv ct us its hu hi => match us, its, hu, hi with | [_, _], [_], _, _ => ⟨_, rfl, rfl⟩
    cases rv
    exact hb s' [self, u] X rfl
  · obtain ⟨ds, rv, hb⟩ := F.binds1 (ps := ["self", "name"]) 1 0 (by simp) rfl fun T kV doc pm an cdv ct us its hu hi => match us, its, hu, hi with | [_], [_], _, _ => ⟨_, rfl, rfl⟩
    have rv' : Vals [V.non] ds := rv
    cases rv' with
    | cons r1 r2 =>
      cases r2
      cases r1
      exact hb s' [self] X rfl
  · obtain ⟨its, kb⟩ := F.kbindsD (ps := ["self", "name"]) 1 ["name"] (fun us _ ws => us ++ ws) (by simp) (fun r1 _ r3 => r1.append r3) fun T kV doc pm an cdv ct us its ws hu hi hw => match us, its, ws, hu, hi, hw with | [_], [_], [_], _, _, _ => ⟨_, rfl, rfl⟩
    exact kb.to s' [self] [u] X rfl rfl
theorem ini_number {P : Program} {w : World} {K : PySem.W.Frag} {mg : Str → Option Value} {base : Heap} {C fI : Addr} {fd : FuncData} {qual : Str} {p1 p2 q1 q2 q3 q4 : Pos} {d : Expr}
    (F : FunD K "__init__" qual (aIni "number" p1 p2 d) (bIni "number" q1 q2 q3 q4) (sIni "number") [.non] [] fI fd) (T : OexC K C) (hno : PySem.W.findIn K (.ref C) "number" = some none) : Ini P w K mg base C "number" fI fd := by
  refine ⟨ini_ok F (by decide) (by decide) (by decide) T hno, fun self u s' X => ?_, fun self s' X => ?_, fun self u s' X => ?_⟩
  · obtain ⟨ds, rv, hb⟩ := F.binds1 (ps := ["self", "number"]) 2 1 (by simp) rfl fun T kV doc pm an cdv ct us its hu hi => match us, its, hu, hi with | [_, _], [_], _, _ => ⟨_, rfl, rfl⟩
    cases rv
    exact hb s' [self, u] X rfl
  · obtain ⟨ds, rv, hb⟩ := F.binds1 (ps := ["self", "number"]) 1 0 (by simp) rfl fun T kV doc pm an cdv ct us its hu hi => match us, its, hu, hi with | [_], [_], _, _ => ⟨_, rfl, rfl⟩
    have rv' : Vals [V.non] ds := rv
    cases rv' with
    | cons r1 r2 =>
      cases r2
      cases r1
      exact hb s' [self] X rfl
  · obtain ⟨its, kb⟩ := F.kbindsD (ps := ["self", "number"]) 1 ["number"] (fun us _ ws => us ++ ws) (by simp) (fun r1 _ r3 => r1.append r3) fun T kV doc pm an cdv ct us its ws hu hi hw => match us, its, ws, hu, hi, hw with | [_], [_], [_], _, _, _ => ⟨_, rfl, rfl⟩
    exact kb.to s' [self] [u] X rfl rfl
end L2.Xv
end
section
/-! Exceptions raised, caught, asked. -/
namespace L2.Hy
open PySem PySem.Spec PyProof.Rows
/-- raise C(e) -/
def sRaise (c f : Str) (dd : AD) : SDen := fun ρ => lift ρ (dd ρ) fun ds => match ds with
  | [d] => sOu (.xc ρ c f d)
  | _ => sNo
section
variable {X : Cx} {W : WX} {e : Expr} {es : List Expr} {dd : AD} {c f : Str} {p pos pos' : Pos} {k : Nat} {fI : Addr} {fd : FuncData}
theorem sh_raise (hc : X.calm = true) (tk : Takes X W) (T : OexC X.K (He.ga X.K c)) (iC : PySem.W.findIn X.K (.ref (He.ga X.K c)) "__init__" = some (some (.ref fI))) (tI : PySem.W.typeIn X.K (.ref fI) = some (.type "function"))
    (R : Raises X (.ref (He.ga X.K c))) (I0 : Xv.Ini X.prog X.w X.K X.mg X.base (He.ga X.K c) f fI fd) (hr : Room 2 X.A) (hg : Gl X c) (hm : X.mg c = some (.ref (He.ga X.K c))) (ha : AH X W [e] dd)
    (hk : PMk X (.Call (.Name c p) [e] [] pos) (tMkO (He.ga X.K c) (Xv.spIn (He.ga X.K c) f) [] (tHa X.K W dd))) : SH X W (.Raise (some (.Call (.Name c p) [e] [] pos)) none pos') (sRaise c f dd) :=
  psI (ps_raise hc tk hk) fun D σ H ⟨G, as, ρ, S, t, eo, q⟩ => ⟨G, as, ρ, S, t, eo, q.lift eo fun ds G1 as1 S1 H1 t1 l1 q1 vs rs => by
    split at q1
    · rename_i d
      cases rs with
      | cons r rr =>
        cases rr
        rename_i v
        refine ⟨by simp, fun a ha => ⟨a, v, rfl, upd_same, fun dx hdx ne => ⟨rfl, dx, _, upd_same, by rw [upd_ne ne, upd_same], ?_, ?_⟩⟩⟩
        · rw [upd_ne ne] at hdx
          exact hdx
        · have hdx1 : H1 dx = none := by
            rw [upd_ne ne] at hdx
            exact hdx
          have eH : upd (del (upd (upd (upd H1 a (exo a (He.ga X.K c) none)) dx (exd dx [(f, v)])) a (exo a (He.ga X.K c) (some dx))) a) dx (.xd [(f, v)]) = upd H1 dx (.xd [(f, v)]) := by
            funext b
            by_cases h1 : b = dx
            · rw [h1, upd_same, upd_same]
            · rw [upd_ne h1, upd_ne h1]
              by_cases h2 : b = a
              · rw [h2, del_same, ha]
              · rw [del_ne h2, upd_ne h2, upd_ne h1, upd_ne h2]
          rw [eH]
          obtain ⟨o, S', e1, h⟩ := q1
          cases e1
          exact h G1 as1 _ (t1.aside (t1.notin hdx1) (t1.gfree hdx1)) (Le.refl.aside hdx1) σ v dx rfl (eo.le l1) r upd_same (t1.notin hdx1) (t1.gfree hdx1) hdx1
    · exact (tS.no q1).elim⟩
end
/-! ### try -/
def sTry (body : SDen) (mt : Str → Option Bool) (i : Nat) (suite : SDen) : SDen := fun ρ S => match body ρ S with
  | some (.xc ρ1 c f d, S1) => match mt c with
    | some true => match suite (ρ1.set i (some (.exc c f d))) S1 with
      | some (.nx ρ2, S2) => some (.nx (ρ2.set i none), S2)
      | some (.bk ρ2, S2) => some (.bk (ρ2.set i none), S2)
      | some (.ct ρ2, S2) => some (.ct (ρ2.set i none), S2)
      | some (.rt d, S2) => some (.rt d, S2)
      | _ => none
    | some false => some (.xc ρ1 c f d, S1)
    | none => none
  | r => r
section
variable {X : Cx} {W : WX} {body suite : List Stmt} {b₀ : Stmt} {x n : Str} {cv : Value} {i : Nat} {np pos pos' : Pos} {db ds : SDen} {mt : Str → Option Bool}
/-- what the suite is wanted for -/
def wTry (K : PySem.W.Frag) (cv : Value) (i : Nat) (ds : SDen) (W : WX) (D : Ends) : WX := Xv.wAs2 K cv i (tHs K W0 ds) W D
theorem tryQ {K : PySem.W.Frag} {D : Ends} {σ : L2.St} {H : Hp} (hm : ∀ c b, mt c = some b → PySem.W.exmOne K (.ref (He.ga K c)) cv = some b) (h : tHs K W (sTry db mt i ds) D σ H) : tHs K (wTry K cv i ds W D) db D σ H := by
  obtain ⟨G, as, ρ, S, t, eo, o, S', e, h⟩ := h
  refine ⟨G, as, ρ, S, t, eo, ?_⟩
  unfold sTry at e
  cases hb : db ρ S with
  | none =>
    rw [hb] at e
    cases e
  | some p =>
    obtain ⟨o1, S1⟩ := p
    rw [hb] at e
    cases o1 with
    | xc ρ1 c f d =>
      refine ⟨_, _, hb, fun G' as' H' t' l' σ' v dd sl eo' r q1 q2 q3 q4 => ?_⟩
      dsimp only at e
      cases hc : mt c with
      | none =>
        rw [hc] at e
        cases e
      | some b =>
        rw [hc] at e
        refine ⟨b, hm c b hc, fun hbt a ha => ?_, fun hbf => ?_⟩
        · subst hbt
          dsimp only at e
          have t2 := t'.adoptS q2 q3 q1
          have l2 := l'.adoptS (o := .xd [(f, v)]) q3 q4
          have na : upd G' dd (.xd [(f, v)]) a = none := t2.gfree ha
          obtain ⟨t3, l3⟩ := t2.settle ha (Xv.exc2 a (.ref (He.ga K c)) (some dd))
          have lG : Le G' as' H' (upd (upd G' dd (.xd [(f, v)])) a (Xv.exc2 a (.ref (He.ga K c)) (some dd))) as' (upd H' a (Xv.exc2 a (.ref (He.ga K c)) (some dd))) → True := fun _ => trivial
          have sG : Same G' (upd (upd G' dd (.xd [(f, v)])) a (Xv.exc2 a (.ref (He.ga K c)) (some dd))) := (fun b u e => by
            have z : b ≠ dd := fun z => by rw [z, q3] at e; cases e
            have z2 : b ≠ a := fun z2 => by rw [z2, t'.gfree ha] at e; cases e
            rw [upd_ne z2, upd_ne z]
            exact e)
          have dda : dd ≠ a := fun z => by rw [z, ha] at q1; cases q1
          have re : RV K (upd (upd G' dd (.xd [(f, v)])) a (Xv.exc2 a (.ref (He.ga K c)) (some dd))) as' (.ref a) (.exc c f d) :=
            .exc (.inr ⟨dd, upd_same, by rw [upd_ne dda, upd_same]⟩) (r.up sG fun _ _ e => e)
          have eo2 : EnvOk K (upd (upd G' dd (.xd [(f, v)])) a (Xv.exc2 a (.ref (He.ga K c)) (some dd))) as' σ' ρ1 := ⟨eo'.len, fun j d' e' => by
            obtain ⟨w, e1, r1⟩ := eo'.ok j d' e'
            exact ⟨w, e1, r1.up sG fun _ _ e => e⟩⟩
          refine ⟨_, as', _, S1, t3, eo2.set re i, ?_⟩
          cases hs : ds (ρ1.set i (some (.exc c f d))) S1 with
          | none =>
            rw [hs] at e
            cases e
          | some p2 =>
            obtain ⟨o2, S2⟩ := p2
            rw [hs] at e
            have lw := l2.trans l3
            cases o2 with
            | nx ρ2 =>
              cases e
              refine ⟨_, _, hs, fun G3 as3 H3 t4 l4 σ3 sl3 eo3 => h G3 as3 H3 t4 (lw.trans l4) _ ?_ (eo3.gone i none)⟩
              rw [List.length_set, sl3, List.length_set, sl]
            | bk ρ2 =>
              cases e
              refine ⟨_, _, hs, fun G3 as3 H3 t4 l4 σ3 sl3 eo3 => h G3 as3 H3 t4 (lw.trans l4) _ ?_ (eo3.gone i none)⟩
              rw [List.length_set, sl3, List.length_set, sl]
            | ct ρ2 =>
              cases e
              refine ⟨_, _, hs, fun G3 as3 H3 t4 l4 σ3 sl3 eo3 => h G3 as3 H3 t4 (lw.trans l4) _ ?_ (eo3.gone i none)⟩
              rw [List.length_set, sl3, List.length_set, sl]
            | rt d2 =>
              cases e
              exact ⟨_, _, hs, fun G3 as3 H3 t4 l4 => h G3 as3 H3 t4 (lw.trans l4)⟩
            | xc _ _ _ _ => cases e
        · subst hbf
          cases e
          exact h G' as' H' t' l' σ' v dd sl eo' r q1 q2 q3 q4
    | _ =>
      cases e
      exact ⟨_, _, hb, fun G' as' H' t' l' => h G' as' H' t' l'⟩
theorem sh_try (hs : X.stack = X.env :: X.outer) (hf : X.env.frame = some X.env.locals) (hex : X.ex = []) (hN : X.N.Nodup) (hi : X.N[i]? = some n) (hln : X.env.kindOf n = some .local) (hc : Names X x cv) (tk : Takes X W)
    (hm : ∀ c b, mt c = some b → PySem.W.exmOne X.K (.ref (He.ga X.K c)) cv = some b)
    (hb : ∀ (W : WX) (pn : List (Addr × Obj)) (xe : Value → Shared → Prop), Takes (X.tr pn xe) W → PassesOwn (model X.prog X.w) X.A X.env xe → SsH (X.tr pn xe) W body db)
    (hsu : ∀ (a : Addr) (pn : List (Addr × Obj)), SsH (X.suite a pn) W0 (b₀ :: suite) ds) :
    SH X W (.Try body [.ExceptHandler (some (.Name x np)) (some n) (b₀ :: suite) pos'] [] [] pos) (sTry db mt i ds) :=
  psI (Xv.ps_try_as2 (ts := tHs X.K W0 ds) (tb := fun W => tHs X.K W db) hs hf hex hN hi hln hc tk hb hsu) fun D σ H h => tryQ hm h
end
end L2.Hy
end
section
/-! Objects: attributes, methods, constructors. -/
namespace L2.Hy
open PySem PySem.Spec PyProof.Rows
/-- an object's class and attributes -/
def objD (S : Store) : D → Option (Str × List (Str × D))
  | .obj c fs => some (c, fs)
  | .h n => match S[n]? with
    | some (some (.ci c fs)) => some (c, fs)
    | _ => none
  | _ => none
section
variable {K : PySem.W.Frag} {G H : Hp} {as : List Addr} {S : Store} {v : V} {d : D} {c : Str} {fs : List (Str × D)}
theorem Ht.obj (t : Ht K G as S H) (r : RV K G as v d) (e : objD S d = some (c, fs)) : ∃ a dx xs, v = .ref a ∧ H a = some (.ins (He.ga K c) dx xs) ∧ RVf K G as xs fs := by
  cases r with
  | obj h x =>
    cases e
    exact ⟨_, _, _, rfl, t.sub _ _ h, x⟩
  | h n ea =>
    unfold objD at e
    dsimp only at e
    split at e
    · rename_i c' fs' q
      cases e
      obtain ⟨a, e1, _, dx, xs, e2, e3⟩ := t.cell _ _ q
      rw [ea] at e1
      cases e1
      exact ⟨_, dx, xs, rfl, e2, e3⟩
    · cases e
  | _ => cases e
theorem RVf.look {xs : List (Str × V)} {f : Str} : ∀ {fs : List (Str × D)}, RVf K G as xs fs → fs.lookup f = some d → ∃ v, xs.lookup f = some v ∧ RV K G as v d := by
  induction xs with
  | nil =>
    intro fs r e
    cases r
    cases e
  | cons p xs ih =>
    intro fs r e
    cases r with
    | @cons k v vs d' ds' h t =>
      rw [List.lookup_cons] at e ⊢
      cases hk : (f == k) with
      | true =>
        rw [hk] at e
        cases e
        exact ⟨v, rfl, h⟩
      | false =>
        rw [hk] at e
        exact ih t e
theorem RVf.noLook {xs : List (Str × V)} {f : Str} : ∀ {fs : List (Str × D)}, RVf K G as xs fs → fs.lookup f = none → xs.lookup f = none := by
  induction xs with
  | nil => intro fs r e; rfl
  | cons p xs ih =>
    intro fs r e
    cases r with
    | @cons k v vs d' ds' h t =>
      rw [List.lookup_cons] at e ⊢
      cases hk : (f == k) with
      | true =>
        rw [hk] at e
        cases e
      | false =>
        rw [hk] at e
        exact ih t e
def putD (f : Str) (d : D) : List (Str × D) → List (Str × D)
  | [] => [(f, d)]
  | (g, x) :: r => if g = f then (g, d) :: r else (g, x) :: putD f d r
theorem RVf.put {xs : List (Str × V)} {f : Str} (r0 : RV K G as v d) : ∀ {fs : List (Str × D)}, RVf K G as xs fs → RVf K G as (putF f v xs) (putD f d fs) := by
  induction xs with
  | nil =>
    intro fs r
    cases r
    exact .cons r0 .nil
  | cons p xs ih =>
    intro fs r
    cases r with
    | @cons k v vs d' ds' h t =>
      unfold putF putD
      split
      · exact .cons r0 t
      · exact .cons h (ih t)
theorem RVf.len {xs : List (Str × V)} : ∀ {fs : List (Str × D)}, RVf K G as xs fs → xs.length = fs.length := by
  induction xs with
  | nil => intro fs r; cases r; rfl
  | cons p xs ih =>
    intro fs r
    cases r with
    | cons h t => exact congrArg Nat.succ (ih t)
end
/-- o.f -/
def fFld (ok : Str → Bool) (f : Str) (x : D) : Mx D := mOf fun S => match objD S x with
  | some (c, fs) => if ok c = true then fs.lookup f else none
  | none => none
/-- self.f = v -/
def fPut (ok : Str → Bool) (f : Str) (o v : D) : Mx Unit := fun S => match o with
  | .h n => match S[n]? with
    | some (some (.ci c fs)) => if ok c = true ∧ fs.length < 1000 then some (.ok (), S.set n (some (.ci c (putD f v fs)))) else none
    | _ => none
  | _ => none
def sFldH (ok : Str → Bool) (f : Str) (do_ de : Den) : SDen := fun ρ => lift ρ (mbind (de ρ) fun v => mbind (do_ ρ) fun o => fPut ok f o v) fun _ => sOu (.nx ρ)
section
variable {X : Cx} {W : WX} {e o : Expr} {de do_ : Den} {f : Str} {ok : Str → Bool} {pos pos' : Pos}
theorem eh_fld (hC : ∀ c, ok c = true → Cls X.K (He.ga X.K c) ∧ NoAttr X.K (He.ga X.K c) f) (he : EH X W e de) (hb : attributeBase e f X.env (eval e X.env) = eval e X.env := by rfl) : EH X W (.Attribute e f pos) (d1 (fFld ok f) de) :=
  peI (pe_fld he hb) fun σ H Q ⟨G, as, ρ, S, t, eo, q⟩ => ⟨G, as, ρ, S, t, eo, tF.bind q fun v d G1 as1 S1 H1 t1 l1 r1 q1 => by
    obtain ⟨z, e1, q1⟩ := q1.of t1
    split at e1
    · rename_i c fs e2
      split at e1
      · rename_i hc
        obtain ⟨a, dx, xs, rfl, ha, rf⟩ := t1.obj r1 e2
        obtain ⟨w, hw, rw'⟩ := rf.look e1
        exact ⟨a, _, dx, xs, w, rfl, ha, (hC c hc).1, (hC c hc).2, hw, q1 w rw'⟩
      · cases e1
    · cases e1⟩
theorem sh_fld (hC : ∀ c, ok c = true → Cls X.K (He.ga X.K c) ∧ NoAttr X.K (He.ga X.K c) f) (ho : EH X W o do_) (he : EH X W e de) (hs : swapsWith e (some (.Attribute o f pos')) pos.line X.env = pure false := by rfl) :
    SH X W (.Assign [.Attribute o f pos'] e pos) (sFldH ok f do_ de) :=
  psI (ps_fld ho he hs) fun D σ H ⟨G, as, ρ, S, t, eo, q⟩ => by
    have q0 : tR X.K W σ G as S H (mbind (de ρ) fun v => mbind (do_ ρ) fun o => fPut ok f o v) fun _ G' as' S' H' => D.nx σ H' := q.lift eo fun a G1 as1 S1 H1 t1 l1 q1 => tS.now q1 t1 σ rfl (eo.le l1)
    refine ⟨G, as, ρ, S, t, eo, tF.bind q0 fun v d G1 as1 S1 H1 t1 l1 r1 q1 => ⟨G1, as1, ρ, S1, t1, eo.le l1, tF.bind q1 fun ov od G2 as2 S2 H2 t2 l2 r2 q2 => ?_⟩⟩
    obtain ⟨r0, S', e2, h⟩ := q2
    unfold fPut at e2
    split at e2
    · rename_i n
      split at e2
      · rename_i c fs q4
        split at e2
        · rename_i hc
          cases e2
          cases r2 with
          | h _ ea =>
            obtain ⟨a', e1, _, dx, xs, hx, rx⟩ := t2.cell _ _ q4
            rw [ea] at e1
            cases e1
            have rp : RVf X.K G2 as2 (putF f v xs) (putD f d fs) := rx.put (r1.le l2)
            obtain ⟨t4, l4⟩ := t2.store q4 ea (c := .ci c (putD f d fs)) (o := .ins (He.ga X.K c) dx (putF f v xs)) fun H' e' => ⟨dx, _, e', rp⟩
            exact ⟨_, _, dx, xs, rfl, hx, (hC c hc.1).1, (hC c hc.1).2, by rw [rx.len]; exact hc.2, h _ _ _ t4 l4⟩
        · cases e2
      · cases e2
    · cases e2
end
/-! ### methods and constructors, of defs that may raise -/
section
variable {X : Cx} {W : WX} {k : Nat} {f C : Addr} {fd : FuncData} {ps : List Str} {sp : Sp} {dvs : List V} {ds : List Value} {x m : Str} {p pos apos : Pos} {e o : Expr} {es : List Expr} {ta : TE} {t : TA}
def tMethX (C : Addr) (m : Str) (sp : Sp) (dvs : List V) (W : WX) (ta : TE) (t : TA) : TE := fun σ H Q => ta σ H fun x H1 => ∃ a dx fs, x = .ref a ∧ H1 a = some (.ins C dx fs) ∧ fs.lookup m = none ∧
  t σ H1 fun vs H2 => sp (x :: (vs ++ dvs)) H2 Q fun c d H' => W c d σ H'
theorem pe_methX {pl : Sem Bool} (he : PE X o ta) (c : Cls X.K C) (hm : Meth X.K C m f) (F : FnX X.prog X.w X.K X.mg X.base k f fd ps sp) (q : Xv.Quiet k X.A) (tk : Takes X W) (hb : Binds X.K fd ps ds) (hd : Vals dvs ds) (ha : PA X (e :: es) t)
    (hst : starEach (e :: es) X.env = (false, eval e X.env) :: starEach es X.env := by rfl) (hpl : (backTo pos (starEach es X.env)).any (·.1) = false := by rfl)
    (ht : eval (.Call (.Attribute o m apos) (e :: es) [] pos) X.env = (do
      let ov ← eval o X.env
      standAt apos.atName
      let (f, first) ← holding [ov] (getMethod ov m pl)
      callWith pos f first (backTo pos (starEach (e :: es) X.env)) (backToKw pos (keywordEach [] X.env))) := by rfl) :
    PE X (.Call (.Attribute o m apos) (e :: es) [] pos) (tMethX C m sp dvs W ta t) := by
  refine ⟨fun pins s σ H Q I h => ?_⟩
  refine PySem.W.methodCall_KW (pl := pl) (thn (he.run pins s σ H _ I h) fun u s1 ⟨x, H1, I1, rx, a, dx, fs, ex, ea, l, q1⟩ => ?_) ht
  subst ex
  obtain rfl : u = Value.ref a := rx
  refine getmeth_ok I1 ea c hm l ?_
  refine PySem.W.callWith_K (first := [.ref a]) (h₀ := X.base) I.ok.mod.kin hm.kp (thn (ha.run pos pins s1 σ H1 _ I1 q1) fun us s2 ⟨vs, H2, I2, r, q2⟩ => ⟨I2.kIn, ?_⟩) hst hpl
  exact run_x (us := .ref a :: us) (vs := .ref a :: vs) F q tk hb hd I2 (.cons rfl r) q2
theorem pe_methX0 {pl : Sem Bool} (he : PE X o ta) (c : Cls X.K C) (hm : Meth X.K C m f) (F : FnX X.prog X.w X.K X.mg X.base k f fd ps sp) (q : Xv.Quiet k X.A) (tk : Takes X W) (hb : Binds X.K fd ps ds) (hd : Vals dvs ds)
    (ht : eval (.Call (.Attribute o m apos) [] [] pos) X.env = (do
      let ov ← eval o X.env
      standAt apos.atName
      let (f, first) ← holding [ov] (getMethod ov m pl)
      callWith pos f first (backTo pos (starEach [] X.env)) (backToKw pos (keywordEach [] X.env))) := by rfl) :
    PE X (.Call (.Attribute o m apos) [] [] pos) (tMethX C m sp dvs W ta tNil) := by
  refine ⟨fun pins s σ H Q I h => ?_⟩
  refine PySem.W.methodCall_KW (pl := pl) (thn (he.run pins s σ H _ I h) fun u s1 ⟨x, H1, I1, rx, a, dx, fs, ex, ea, l, q1⟩ => ?_) ht
  subst ex
  obtain rfl : u = Value.ref a := rx
  refine getmeth_ok I1 ea c hm l ?_
  exact PySem.W.callWith_K0 (first := [.ref a]) I1.kIn hm.kp (run_x (us := [.ref a]) (vs := [.ref a]) F q tk hb hd I1 (.cons rfl .nil) q1)
theorem Quiet.make {A : Around} (q : Xv.Quiet (k + 1) A) (C : Addr) (us : List Value) (kw : List (Str × Value)) : Xv.Quiet k (A.under (.builtin "type.__call__" ⟨.ref C :: us, kw⟩)) := by
  refine ⟨q.1.make C us kw, ?_⟩
  have := q.2
  simp [Around.under, Code.guards, Code.isGuard, pushGuards, this, show ¬ "type.__call__" ∈ guardIds from by decide]
/-- the methods' call -/
def dMeth (ok : Str → Bool) (m : Str) (n : Nat) (F : List D → Mx D) (dds : List D) (do_ : Den) (dd : AD) : Den := fun ρ => mbind (do_ ρ) fun o => mbind (mOf fun S => match objD S o with
  | some (c, fs) => if ok c = true ∧ fs.lookup m = none then some () else none
  | none => none) fun _ => mbind (dd ρ) fun ds => if 1 + ds.length + dds.length = n then F (o :: (ds ++ dds)) else mnone
theorem methQ {K : PySem.W.Frag} {c : Str} {F : List D → Mx D} {dds : List D} {do_ : Den} {dd : AD} (hD : ∀ G as, RVs K G as dvs dds) {σ : L2.St} {H : Hp} {Q : VK} (h : tH K W (dMeth (fun z => z == c) m ps.length F dds do_ dd) σ H Q) :
    tMethX (He.ga K c) m (spH K ps.length F) dvs W (tH K W do_) (tHa K W dd) σ H Q := by
  obtain ⟨G, as, ρ, S, t, eo, q⟩ := h
  refine ⟨G, as, ρ, S, t, eo, tF.bind q fun v d G1 as1 S1 H1 t1 l1 r1 q1 => ?_⟩
  obtain ⟨u, e1, q2⟩ := tR.ofK q1
  split at e1
  · rename_i c' fs e2
    split at e1
    · rename_i hc
      have hcc : c' = c := by simpa using hc.1
      subst hcc
      obtain ⟨a, dx, xs, rfl, ha, rf⟩ := t1.obj r1 e2
      refine ⟨a, dx, xs, rfl, ha, rf.noLook hc.2, G1, as1, ρ, S1, t1, eo.le l1, tL.bind q2 fun vs ds G2 as2 S2 H2 t2 l2 r2 q3 => ?_⟩
      split at q3
      · rename_i hl
        refine ⟨?_, G2, as2, S2, d :: (ds ++ dds), t2, .cons (r1.le l2) (r2.append (hD _ _)), q3⟩
        rw [List.length_cons, List.length_append, r2.len, (hD G2 as2).len]
        omega
      · exact (tR.no q3).elim
    · cases e1
  · cases e1
theorem eh_meth {pl : Sem Bool} {c : Str} {F : List D → Mx D} {dds : List D} {do_ : Den} {dd : AD} (he : EH X W o do_) (cl : Cls X.K (He.ga X.K c)) (hm : Meth X.K (He.ga X.K c) m f) (Fx : FnX X.prog X.w X.K X.mg X.base k f fd ps (spH X.K ps.length F)) (q : Xv.Quiet k X.A) (tk : Takes X W) (hb : Binds X.K fd ps ds) (hd : Vals dvs ds)
    (hD : ∀ G as, RVs X.K G as dvs dds) (ha : AH X W (e :: es) dd)
    (hst : starEach (e :: es) X.env = (false, eval e X.env) :: starEach es X.env := by rfl) (hpl : (backTo pos (starEach es X.env)).any (·.1) = false := by rfl)
    (ht : eval (.Call (.Attribute o m apos) (e :: es) [] pos) X.env = (do
      let ov ← eval o X.env
      standAt apos.atName
      let (f, first) ← holding [ov] (getMethod ov m pl)
      callWith pos f first (backTo pos (starEach (e :: es) X.env)) (backToKw pos (keywordEach [] X.env))) := by rfl) :
    EH X W (.Call (.Attribute o m apos) (e :: es) [] pos) (dMeth (fun z => z == c) m ps.length F dds do_ dd) :=
  peI (pe_methX (pl := pl) he cl hm Fx q tk hb hd ha hst hpl ht) fun σ H Q h => methQ hD h
theorem eh_meth0 {pl : Sem Bool} {c : Str} {F : List D → Mx D} {dds : List D} {do_ : Den} (he : EH X W o do_) (cl : Cls X.K (He.ga X.K c)) (hm : Meth X.K (He.ga X.K c) m f) (Fx : FnX X.prog X.w X.K X.mg X.base k f fd ps (spH X.K ps.length F)) (q : Xv.Quiet k X.A) (tk : Takes X W) (hb : Binds X.K fd ps ds) (hd : Vals dvs ds)
    (hD : ∀ G as, RVs X.K G as dvs dds)
    (ht : eval (.Call (.Attribute o m apos) [] [] pos) X.env = (do
      let ov ← eval o X.env
      standAt apos.atName
      let (f, first) ← holding [ov] (getMethod ov m pl)
      callWith pos f first (backTo pos (starEach [] X.env)) (backToKw pos (keywordEach [] X.env))) := by rfl) :
    EH X W (.Call (.Attribute o m apos) [] [] pos) (dMeth (fun z => z == c) m ps.length F dds do_ aNil) :=
  peI (pe_methX0 (pl := pl) he cl hm Fx q tk hb hd ht) fun σ H Q h => by
    obtain ⟨G, as, ρ, S, t, eo, q⟩ := methQ (m := m) hD h
    refine ⟨G, as, ρ, S, t, eo, tR.imp q fun z G1 as1 S1 H1 t1 l1 hz v r => ?_⟩
    obtain ⟨a, dx, xs, e1, e2, e3, G2, as2, ρ2, S2, t2, eo2, q2⟩ := hz v r
    exact ⟨a, dx, xs, e1, e2, e3, tR.now q2 t2 _ .nil⟩
/-! a new instance -/
theorem run_makeX {pins : List (Addr × Obj)} {σ : L2.St} {H : Hp} {s : Shared} {Q : VK} {us : List Value} {vs : List V} (M : Mk X.K C f) (F : FnX X.prog X.w X.K X.mg X.base k f fd ps sp) (q : Xv.Quiet (k + 1) X.A) (tk : Takes X W) (hb : Binds X.K fd ps ds) (hd : Vals dvs ds)
    (I : Inv X pins σ H s) (r : Vals vs us)
    (h : ∀ x dx, H x = none → H dx = none → dx ≠ x → sp (.ref x :: (vs ++ dvs)) (upd (upd H dx (.own x)) x (.ins C dx [])) (fun v H2 => v = .non ∧ Q (.ref x) H2) fun c d H' => W c d σ H') :
    wpAny (model X.prog X.w) X.A (call (.ref C) us) (EP X pins σ Q) X.xe s := by
  have hq := h (s.heap.objs.size + 1) s.heap.objs.size (I.hok.fresh (Nat.le_succ _)) (I.hok.fresh (Nat.le_refl _)) (Nat.ne_of_lt (Nat.lt_succ_self _))
  have I2 := Inv.made (C := C) I
  have r2 : Vals (V.ref (s.heap.objs.size + 1) :: (vs ++ dvs)) (Value.ref (s.heap.objs.size + 1) :: (us ++ ds)) := .cons rfl (r.append hd)
  have hl : (Value.ref (s.heap.objs.size + 1) :: us ++ ds).length = ps.length := by
    have e := r2.length
    rw [F.num _ _ _ _ hq] at e
    exact e.symm
  refine wpAny_call (make_map (f := f) I.kIn M.makes M.init (beq_iff_eq.mp M.fn) (codeAny_mono (F.go (Quiet.make q C us []) (I2.env0.make C us []) (hb _ (Value.ref (s.heap.objs.size + 1) :: us) I2.kIn hl) r2 hq) fun r s' hq' => ?_))
  cases r with
  | error e => exact tk _ _ (XE.of_call I2 (fun _ _ _ h => h) hq')
  | ok fl =>
    cases fl with
    | ret u =>
      obtain ⟨v, H', I3, rv, ev, q3⟩ := I2.after hq'
      subst ev
      exact ⟨rv, ⟨V.ref (s.heap.objs.size + 1), H', I3, rfl, q3⟩⟩
    | next => exact False.elim hq'
    | brk => exact False.elim hq'
    | cont => exact False.elim hq'
def tMakeX (C : Addr) (sp : Sp) (dvs : List V) (W : WX) (t : TA) : TE := fun σ H Q => t σ H fun vs H1 => ∀ x dx, H1 x = none → H1 dx = none → dx ≠ x →
  sp (.ref x :: (vs ++ dvs)) (upd (upd H1 dx (.own x)) x (.ins C dx [])) (fun v H2 => v = .non ∧ Q (.ref x) H2) fun c d H' => W c d σ H'
theorem pe_makeX (M : Mk X.K C f) (F : FnX X.prog X.w X.K X.mg X.base k f fd ps sp) (q : Xv.Quiet (k + 1) X.A) (tk : Takes X W) (hg : Gl X x) (hm : X.mg x = some (.ref C)) (hb : Binds X.K fd ps ds) (hd : Vals dvs ds)
    (ha : PA X (e :: es) t) (hdb : (x == ("__debug__" : Str)) = false := by decide) (he : starEach (e :: es) X.env = (false, eval e X.env) :: starEach es X.env := by rfl) (hpl : (backTo pos (starEach es X.env)).any (·.1) = false := by rfl) :
    PE X (.Call (.Name x p) (e :: es) [] pos) (tMakeX C sp dvs W t) := by
  refine ⟨fun pins s σ H Q I h => ?_⟩
  refine wpAny_Call_Name_kw (ld_glob I hg hm ?_ hdb)
  refine PySem.W.callWith_K (h₀ := X.base) I.ok.mod.kin M.kp (thn (ha.run pos pins s σ H _ I h) fun us s1 ⟨vs, H1, I1, r, q1⟩ => ⟨I1.kIn, ?_⟩) he hpl
  exact run_makeX M F q tk hb hd I1 r q1
/-- C(..): the new object is a cell -/
def dMake (c : Str) (n : Nat) (F : List D → Mx D) (dds : List D) (dd : AD) : Den := fun ρ => mbind (dd ρ) fun ds S => if 1 + ds.length + dds.length = n then
    mbind (F (.h S.length :: (ds ++ dds))) (fun z => match z with
      | .non => mret (.h S.length)
      | _ => mnone) (S ++ [some (.ci c [])])
  else none
theorem eh_make {c : Str} {F : List D → Mx D} {dds : List D} {dd : AD} (M : Mk X.K (He.ga X.K c) f) (Fx : FnX X.prog X.w X.K X.mg X.base k f fd ps (spH X.K ps.length F)) (q : Xv.Quiet (k + 1) X.A) (tk : Takes X W) (hg : Gl X x) (hm : X.mg x = some (.ref (He.ga X.K c))) (hb : Binds X.K fd ps ds) (hd : Vals dvs ds)
    (hD : ∀ G as, RVs X.K G as dvs dds) (ha : AH X W (e :: es) dd) (hdb : (x == ("__debug__" : Str)) = false := by decide) (he : starEach (e :: es) X.env = (false, eval e X.env) :: starEach es X.env := by rfl) (hpl : (backTo pos (starEach es X.env)).any (·.1) = false := by rfl) :
    EH X W (.Call (.Name x p) (e :: es) [] pos) (dMake c ps.length F dds dd) :=
  peI (pe_makeX M Fx q tk hg hm hb hd ha hdb he hpl) fun σ H Q ⟨G, as, ρ, S, t, eo, q⟩ => ⟨G, as, ρ, S, t, eo, tL.bind q fun vs ds G1 as1 S1 H1 t1 l1 r1 q1 a dx ha hdx ne => by
    obtain ⟨r0, S', e1, h⟩ := q1
    dsimp only at e1
    split at e1
    · rename_i hl
      have hx2 : upd H1 dx (.own a) a = none := by rw [upd_ne (Ne.symm ne)]; exact ha
      obtain ⟨t2, l2⟩ := t1.settle hdx (.own a)
      obtain ⟨t3, l3⟩ := t2.alloc hx2 (o := .ins (He.ga X.K c) dx []) (c := .ci c []) fun H' e' => ⟨dx, [], e', .nil⟩
      have ln : (as1 ++ [a])[S1.length]? = some a := by
        rw [← t1.len, List.getElem?_append_right (Nat.le_refl _), Nat.sub_self]
        rfl
      refine ⟨?_, _, _, _, .h S1.length :: (ds ++ dds), t3, .cons (.h _ ln) (((r1.append (hD _ _)).le l2).le l3), ?_⟩
      · rw [List.length_cons, List.length_append, r1.len, (hD G1 as1).len]
        omega
      · have q3 : tF X.K W σ (upd G1 dx (.own a)) (as1 ++ [a]) (S1 ++ [some (.ci c [])]) (upd (upd H1 dx (.own a)) a (.ins (He.ga X.K c) dx [])) (mbind (F (.h S1.length :: (ds ++ dds))) fun z => match z with
            | .non => mret (.h S1.length)
            | _ => mnone) Q := by
          refine ⟨r0, S', e1, ?_⟩
          cases r0 with
          | ok d => exact fun G' as' H' t' l' => h G' as' H' t' ((l2.trans l3).trans l')
          | ex c f d => exact fun v dd G' as' H' t' l' r q1 q2 q3 q4 => h v dd G' as' H' t' ((l2.trans l3).trans l') r q1 q2 q3 (Le.was t3 (l2.trans l3) q4)
        exact tF.bind q3 fun v d G4 as4 S4 H4 t4 l4 r4 q4 => by
          cases r4 with
          | non => exact ⟨rfl, tF.now q4 t4 (.h _ (l4.ad _ _ ln))⟩
          | _ => exact (tR.no q4).elim
    · cases e1⟩
end
end L2.Hy
end
section
/-! isinstance, repr, an exception's field. -/
namespace L2.Hy
open PySem PySem.Spec PyProof.Rows
inductive Tg where
  | b (n : String)
  | c (x : Str)
def tgV (K : PySem.W.Frag) : Tg → Value
  | .b n => .type n
  | .c x => .ref (He.ga K x)
def tgD (S : Store) (oc xc : Str → Bool) : D → Option Tg
  | .non => some (.b "NoneType")
  | .bl _ => some (.b "bool")
  | .int _ => some (.b "int")
  | .str _ => some (.b "str")
  | .tup _ => some (.b "tuple")
  | .lst _ => some (.b "list")
  | .dct _ => some (.b "dict")
  | .obj c _ => if oc c = true then some (.c c) else none
  | .exc c _ _ => if xc c = true then some (.c c) else none
  | .h n => match S[n]? with
    | some (some (.cl _)) => some (.b "list")
    | some (some (.cd _)) => some (.b "dict")
    | some (some (.ci c _)) => if oc c = true then some (.c c) else none
    | _ => none
  | _ => none
def clD : D → Option Tg
  | .ty n => some (.b n)
  | .cls x => some (.c x)
  | _ => none
def fIs (oc xc : Str → Bool) (kq : Tg → Tg → Option Bool) : List D → Mx D := on2 fun x y => mOf fun S => match tgD S oc xc x, clD y with
  | some t, some u => (kq t u).map .bl
  | _, _ => none
section
variable {X : Cx} {W : WX} {oc xc : Str → Bool} {kq : Tg → Tg → Option Bool}
structure IsK (K : PySem.W.Frag) (oc xc : Str → Bool) (kq : Tg → Tg → Option Bool) : Prop where
  all : Xv.XAll K
  q : ∀ t u b, kq t u = some b → PySem.W.kitOne K (tgV K t) (tgV K u) = some b
  o : ∀ c, oc c = true → Cls K (He.ga K c) ∧ PySem.W.findIn K (.ref (He.ga K c)) "__class__" = some (some (.builtin "object.__class__")) ∧ PySem.W.mroIn K (He.ga K c) (.type "object") = some true
  x : ∀ c, xc c = true → Xv.XCls K (He.ga K c)
theorem call_isAll (T : Xv.XAll X.K) : CallR X (.builtin "isinstance") (fun xs H Q => rIsi X.K xs H Q ∨ Xv.rIsX2 X.K xs H Q) := fun pins s σ H xs us Q I r h => h.elim (fun h => call_isi pins s σ H xs us Q I r h) fun h => Xv.call_isX2 T pins s σ H xs us Q I r h
theorem cl_ok {K : PySem.W.Frag} {G : Hp} {as : List Addr} {v : V} {d : D} {u : Tg} (r : RV K G as v d) (e : clD d = some u) : ClsV v (tgV K u) := by
  cases r <;> cases e
  · exact .ty _
  · exact .own _
theorem prIs (T : IsK X.K oc xc kq) : PrimN X.K W (fun xs H Q => rIsi X.K xs H Q ∨ Xv.rIsX2 X.K xs H Q) (fIs oc xc kq) := fun σ G as S H xs ds Q t r q => by
  obtain ⟨v, w, d, e, rfl, rfl, r1, r2, q⟩ := one2 r q
  obtain ⟨z, e1, qq⟩ := q.of t
  split at e1
  · rename_i tg u e2 e3
    obtain ⟨b, e4, rfl⟩ := Option.map_eq_some_iff.mp e1
    have hk := T.q _ _ _ e4
    have hc := cl_ok r2 e3
    have base : TyX X.K H v (tgV X.K tg) → rIsi X.K [v, w] H Q ∨ Xv.rIsX2 X.K [v, w] H Q := fun ty => .inl ⟨v, w, _, _, b, rfl, hc, ty, hk, qq _ (.bl _)⟩
    cases r1 with
    | non => cases e2; exact base (.base .non)
    | bl x => cases e2; exact base (.base (.bl x))
    | int x => cases e2; exact base (.base (.int x))
    | str x => cases e2; exact base (.base (.str x))
    | tup h x =>
      cases e2
      rcases sqT_same t.sub h with (h | ⟨o, h⟩) | ⟨o, its, n, h, hcl, _⟩
      · exact base (.base (.tup h))
      · exact base (.fTuple h)
      · exact base (.kTuple h hcl)
    | lst h x => cases e2; exact base (.base (.lst (t.sub _ _ h)))
    | dct h x => cases e2; exact base (.base (.dK (t.sub _ _ h)))
    | obj h x =>
      unfold tgD at e2
      dsimp only at e2
      split at e2
      · rename_i ho
        cases e2
        obtain ⟨c1, c2, c3⟩ := T.o _ ho
        exact base (.base (.ins (t.sub _ _ h) c1 c2 T.all.hn T.all.ht c3))
      · cases e2
    | exc h x =>
      unfold tgD at e2
      dsimp only at e2
      split at e2
      · rename_i ho
        cases e2
        exact .inr ⟨_, _, w, _, b, rfl, hc, T.x _ ho, ⟨_, _, h.same t.sub⟩, hk, qq _ (.bl _)⟩
      · cases e2
    | h n ea =>
      unfold tgD at e2
      dsimp only at e2
      split at e2
      · rename_i q1
        cases e2
        obtain ⟨a, f1, _, xs, f2, f3⟩ := t.cell _ _ q1
        rw [ea] at f1
        cases f1
        exact base (.base (.lst f2))
      · rename_i q1
        cases e2
        obtain ⟨a, f1, _, xs, f2, f3⟩ := t.cell _ _ q1
        rw [ea] at f1
        cases f1
        exact base (.base (.dK f2))
      · rename_i q1
        split at e2
        · rename_i ho
          cases e2
          obtain ⟨a, f1, _, dx, xs, f2, f3⟩ := t.cell _ _ q1
          rw [ea] at f1
          cases f1
          obtain ⟨c1, c2, c3⟩ := T.o _ ho
          exact base (.base (.ins f2 c1 c2 T.all.hn T.all.ht c3))
        · cases e2
      · cases e2
    | _ => cases e2
  · cases e1
/-- an exception's field -/
def fXf (xc : Str → Bool) (f : Str) : D → Mx D
  | .exc c g d => if xc c = true ∧ g = f then mret d else mnone
  | _ => mnone
theorem eh_xf {f : Str} {e : Expr} {de : Den} {pos : Pos} (hx : ∀ c, xc c = true → Xv.XCls X.K (He.ga X.K c) ∧ PySem.W.findIn X.K (.ref (He.ga X.K c)) f = some none) (he : EH X W e de) (hb : attributeBase e f X.env (eval e X.env) = eval e X.env := by rfl) : EH X W (.Attribute e f pos) (d1 (fXf xc f) de) :=
  peI (Xv.pe_xf2 he hb) fun σ H Q ⟨G, as, ρ, S, t, eo, q⟩ => ⟨G, as, ρ, S, t, eo, tF.bind q fun v d G1 as1 S1 H1 t1 l1 r1 q1 => by
    cases r1 with
    | exc h x =>
      unfold fXf at q1
      dsimp only at q1
      split at q1
      · rename_i hc
        obtain ⟨hc, rfl⟩ := hc
        exact ⟨_, _, _, rfl, (hx _ hc).1, (hx _ hc).2, h.same t1.sub, tF.now q1 t1 x⟩
      · exact (tR.no q1).elim
    | _ => exact (tR.no q1).elim⟩
end
/-! ### repr -/
mutual
def sdG (r : Nat → Option PyData) : D → Option PyData
  | .non => some .none
  | .bl b => some (.bool b)
  | .int i => some (.int i)
  | .str x => some (.str x)
  | .tup ds => (sdsG r ds).map .tuple
  | .lst ds => (sdsG r ds).map .list
  | .dct ds => (sdkG r ds).map .dict
  | .h n => r n
  | _ => none
def sdsG (r : Nat → Option PyData) : List D → Option (List PyData)
  | [] => some []
  | d :: ds => match sdG r d, sdsG r ds with
    | some p, some ps => some (p :: ps)
    | _, _ => none
def sdkG (r : Nat → Option PyData) : List (Key × D) → Option (List (PyData × PyData))
  | [] => some []
  | (k, d) :: ds => match sdG r d, sdkG r ds with
    | some p, some ps => some ((Xv.keyD k, p) :: ps)
    | _, _ => none
end
def rS (S : Store) : Nat → Nat → Option PyData
  | 0, _ => none
  | n + 1, k => match S[k]? with
    | some (some (.cl ds)) => (sdsG (rS S n) ds).map .list
    | some (some (.cd ds)) => (sdkG (rS S n) ds).map .dict
    | _ => none
def fRepr : List D → Mx D := on1 fun d => mOf fun S => match sdG (rS S 8) d with
  | some p => if p.showable = true ∧ p.shown.length ≤ 16777216 ∧ p.depth ≤ 60 then some (.str p.shown) else none
  | none => none
section
variable {K : PySem.W.Frag} {W : WX} {G H : Hp} {as : List Addr} {S : Store}
mutual
theorem sdG_ok {r : Nat → Option PyData} (s : Same G H) (hr : ∀ k p a, r k = some p → as[k]? = some a → Xv.Sd K H (.ref a) p) {v : V} {d : D} {p : PyData} : RV K G as v d → sdG r d = some p → Xv.Sd K H v p
  | .non, e => by cases e; exact .non
  | .bl b, e => by cases e; exact .bl b
  | .int i, e => by cases e; exact .int i
  | .str x, e => by cases e; exact .str x
  | .ty _, e => by cases e
  | .cls _, e => by cases e
  | .nfn _, e => by cases e
  | .tup h x, e => by
    obtain ⟨ps, e1, rfl⟩ := Option.map_eq_some_iff.mp (show (sdsG r _).map _ = some p from e)
    exact .tup (sqT_same s h) (sdsG_ok s hr x e1)
  | .lst h x, e => by
    obtain ⟨ps, e1, rfl⟩ := Option.map_eq_some_iff.mp (show (sdsG r _).map _ = some p from e)
    exact .lst (.inl (.inl (s _ _ h))) (sdsG_ok s hr x e1)
  | .scr _, e => by cases e
  | .dct h x, e => by
    obtain ⟨ps, e1, rfl⟩ := Option.map_eq_some_iff.mp (show (sdkG r _).map _ = some p from e)
    exact .dct (s _ _ h) (sdkG_ok s hr x e1)
  | .obj _ _, e => by cases e
  | .exc _ _, e => by cases e
  | .h n ea, e => hr n p _ e ea
theorem sdsG_ok {r : Nat → Option PyData} (s : Same G H) (hr : ∀ k p a, r k = some p → as[k]? = some a → Xv.Sd K H (.ref a) p) {v : List V} {d : List D} {p : List PyData} : RVs K G as v d → sdsG r d = some p → Xv.SdAll K H v p
  | .nil, e => by cases e; exact .nil
  | .cons h t, e => by
    unfold sdsG at e
    split at e
    · rename_i p1 p2 e1 e2
      cases e
      exact .cons (sdG_ok s hr h e1) (sdsG_ok s hr t e2)
    · cases e
theorem sdkG_ok {r : Nat → Option PyData} (s : Same G H) (hr : ∀ k p a, r k = some p → as[k]? = some a → Xv.Sd K H (.ref a) p) {v : List (Key × V)} {d : List (Key × D)} {p : List (PyData × PyData)} : RVk K G as v d → sdkG r d = some p → Xv.SdKv K H v p
  | .nil, e => by cases e; exact .nil
  | .cons h t, e => by
    unfold sdkG at e
    split at e
    · rename_i p1 p2 e1 e2
      cases e
      exact .cons (sdG_ok s hr h e1) (sdkG_ok s hr t e2)
    · cases e
end
theorem rS_ok (t : Ht K G as S H) : ∀ (n k : Nat) (p : PyData) (a : Addr), rS S n k = some p → as[k]? = some a → Xv.Sd K H (.ref a) p
  | 0, _, _, _, e, _ => by cases e
  | n + 1, k, p, a, e, ea => by
    unfold rS at e
    split at e
    · rename_i ds q
      obtain ⟨ps, e1, rfl⟩ := Option.map_eq_some_iff.mp e
      obtain ⟨a', e2, _, xs, e3, e4⟩ := t.cell _ _ q
      rw [ea] at e2
      cases e2
      exact .lst (.inl (.inl e3)) (sdsG_ok t.sub (rS_ok t n) e4 e1)
    · rename_i ds q
      obtain ⟨ps, e1, rfl⟩ := Option.map_eq_some_iff.mp e
      obtain ⟨a', e2, _, xs, e3, e4⟩ := t.cell _ _ q
      rw [ea] at e2
      cases e2
      exact .dct e3 (sdkG_ok t.sub (rS_ok t n) e4 e1)
    · cases e
theorem prRepr : PrimN K W (Xv.rRepr K) fRepr := fun σ G as S H xs ds Q t r q => by
  obtain ⟨v, d, rfl, rfl, r1, q⟩ := one1 r q
  obtain ⟨z, e, qq⟩ := q.of t
  split at e
  · rename_i p e1
    split at e
    · rename_i hc
      cases e
      exact ⟨v, p, rfl, sdG_ok t.sub (rS_ok t 8) r1 e1, hc.1, by rw [sizeLine_eq]; exact hc.2.1, hc.2.2, qq _ (.str _)⟩
    · cases e
  · cases e
end
end L2.Hy
end
section
/-! What a program's text leans on: its defs, classes, constants. -/
namespace L2.Hy
open PySem PySem.Spec PyProof.Rows
/-- the def x, called with n values; the defaults behind them are dds; it comes to F -/
structure Cal (P : Program) (w : World) (K : PySem.W.Frag) (mg : Str → Option Value) (base : Heap) (x : Str) (k n : Nat) (dds : List D) (F : List D → Mx D) : Prop where
  ex : ∃ (f : Addr) (fd : FuncData) (ps : List Str) (dvs : List V) (ds : List Value), FnX P w K mg base k f fd ps (spH K ps.length F) ∧ mg x = some (.ref f) ∧ PySem.W.keepIn K (.ref f) = true ∧ Binds K fd ps ds ∧ Vals dvs ds ∧ (∀ G as, RVs K G as dvs dds) ∧ ps.length = n + dds.length
/-- the method m of the class c -/
structure Mal (P : Program) (w : World) (K : PySem.W.Frag) (mg : Str → Option Value) (base : Heap) (c m : Str) (k n : Nat) (dds : List D) (F : List D → Mx D) : Prop where
  cl : Cls K (He.ga K c)
  ex : ∃ (f : Addr) (fd : FuncData) (ps : List Str) (dvs : List V) (ds : List Value), FnX P w K mg base k f fd ps (spH K ps.length F) ∧ Meth K (He.ga K c) m f ∧ Binds K fd ps ds ∧ Vals dvs ds ∧ (∀ G as, RVs K G as dvs dds) ∧ ps.length = n + dds.length
/-- the class c, made by its __init__ -/
structure Kal (P : Program) (w : World) (K : PySem.W.Frag) (mg : Str → Option Value) (base : Heap) (c : Str) (k n : Nat) (dds : List D) (F : List D → Mx D) : Prop where
  gl : mg c = some (.ref (He.ga K c))
  ex : ∃ (f : Addr) (fd : FuncData) (ps : List Str) (dvs : List V) (ds : List Value), FnX P w K mg base k f fd ps (spH K ps.length F) ∧ Mk K (He.ga K c) f ∧ Binds K fd ps ds ∧ Vals dvs ds ∧ (∀ G as, RVs K G as dvs dds) ∧ ps.length = n + dds.length
section
variable {X : Cx} {W : WX} {k j n : Nat} {x m c : Str} {p pos apos : Pos} {e o : Expr} {es : List Expr} {dd : AD} {do_ : Den} {F : List D → Mx D} {dds : List D}
theorem eh_callK (C : Cal X.prog X.w X.K X.mg X.base x j n dds F) (q : Xv.Quiet k X.A) (hj : j ≤ k) (tk : Takes X W) (hg : Gl X x) (ha : AH X W (e :: es) dd) (hdb : (x == ("__debug__" : Str)) = false := by decide) (he : starEach (e :: es) X.env = (false, eval e X.env) :: starEach es X.env := by rfl) (hpl : (backTo pos (starEach es X.env)).any (·.1) = false := by rfl) :
    EH X W (.Call (.Name x p) (e :: es) [] pos) (dCall (n + dds.length) F dds dd) := by
  obtain ⟨f, fd, ps, dvs, ds, h1, h2, h3, h4, h5, h6, h7⟩ := C.ex
  rw [← h7]
  exact eh_call h1 (q.mono hj) tk hg h2 h3 h4 h5 h6 ha hdb he hpl
theorem eh_makeK (C : Kal X.prog X.w X.K X.mg X.base c j n dds F) (q : Xv.Quiet k X.A) (hj : j + 1 ≤ k) (tk : Takes X W) (hg : Gl X c) (ha : AH X W (e :: es) dd) (hdb : (c == ("__debug__" : Str)) = false := by decide) (he : starEach (e :: es) X.env = (false, eval e X.env) :: starEach es X.env := by rfl) (hpl : (backTo pos (starEach es X.env)).any (·.1) = false := by rfl) :
    EH X W (.Call (.Name c p) (e :: es) [] pos) (dMake c (n + dds.length) F dds dd) := by
  obtain ⟨f, fd, ps, dvs, ds, h1, h2, h4, h5, h6, h7⟩ := C.ex
  rw [← h7]
  exact eh_make h2 h1 (q.mono hj) tk hg C.gl h4 h5 h6 ha hdb he hpl
theorem eh_methK {pl : Sem Bool} (C : Mal X.prog X.w X.K X.mg X.base c m j n dds F) (q : Xv.Quiet k X.A) (hj : j ≤ k) (tk : Takes X W) (ho : EH X W o do_) (ha : AH X W (e :: es) dd)
    (hst : starEach (e :: es) X.env = (false, eval e X.env) :: starEach es X.env := by rfl) (hpl : (backTo pos (starEach es X.env)).any (·.1) = false := by rfl)
    (ht : eval (.Call (.Attribute o m apos) (e :: es) [] pos) X.env = (do
      let ov ← eval o X.env
      standAt apos.atName
      let (f, first) ← holding [ov] (getMethod ov m pl)
      callWith pos f first (backTo pos (starEach (e :: es) X.env)) (backToKw pos (keywordEach [] X.env))) := by rfl) :
    EH X W (.Call (.Attribute o m apos) (e :: es) [] pos) (dMeth (fun z => z == c) m (n + dds.length) F dds do_ dd) := by
  obtain ⟨f, fd, ps, dvs, ds, h1, h2, h4, h5, h6, h7⟩ := C.ex
  rw [← h7]
  exact eh_meth (pl := pl) ho C.cl h2 h1 (q.mono hj) tk h4 h5 h6 ha hst hpl ht
theorem eh_meth0K {pl : Sem Bool} (C : Mal X.prog X.w X.K X.mg X.base c m j n dds F) (q : Xv.Quiet k X.A) (hj : j ≤ k) (tk : Takes X W) (ho : EH X W o do_)
    (ht : eval (.Call (.Attribute o m apos) [] [] pos) X.env = (do
      let ov ← eval o X.env
      standAt apos.atName
      let (f, first) ← holding [ov] (getMethod ov m pl)
      callWith pos f first (backTo pos (starEach [] X.env)) (backToKw pos (keywordEach [] X.env))) := by rfl) :
    EH X W (.Call (.Attribute o m apos) [] [] pos) (dMeth (fun z => z == c) m (n + dds.length) F dds do_ aNil) := by
  obtain ⟨f, fd, ps, dvs, ds, h1, h2, h4, h5, h6, h7⟩ := C.ex
  rw [← h7]
  exact eh_meth0 (pl := pl) ho C.cl h2 h1 (q.mono hj) tk h4 h5 h6 ht
/-- a constant of the module -/
theorem eh_gc {v : V} {d : D} (hg : Gl X x) (h : ∃ u, X.mg x = some u ∧ RelV v u) (r : ∀ K G as, RV K G as v d) (hd : (x == ("__debug__" : Str)) = false := by decide) : EH X W (.Name x pos) (dC d) := by
  obtain ⟨u, h1, h2⟩ := h
  exact eh_c (pe_glob hg h1 h2 hd) r
/-- a class by its name -/
theorem eh_cls (hg : Gl X x) (h : X.mg x = some (.ref (He.ga X.K x))) (hd : (x == ("__debug__" : Str)) = false := by decide) : EH X W (.Name x pos) (dC (.cls x)) :=
  peI (pe_glob (v := .ref (He.ga X.K x)) hg h rfl hd) fun σ H Q ⟨G, as, ρ, S, t, eo, q⟩ => tF.now q t (.cls _)
/-- a built-in type by its name -/
theorem eh_bty {T : String} (hg : Gl X x) (hm : X.mg x = none) (hv : bootBuiltins x = some (.type T)) (hn : x ≠ "__name__" := by decide) (hd : (x == ("__debug__" : Str)) = false := by decide) : EH X W (.Name x pos) (dC (.ty T)) :=
  eh_c (pe_bltn (v := .ty T) hg hm hv rfl hn hd) fun _ _ _ => .ty _
end
/-- the class c of errors, its field f: raised by c(e) -/
structure RaiseK (P : Program) (w : World) (K : PySem.W.Frag) (mg : Str → Option Value) (base : Heap) (c f : Str) : Prop where
  ox : OexC K (He.ga K c)
  gl : mg c = some (.ref (He.ga K c))
  ri : PySem.W.subIn K (.ref (He.ga K c)) (.type "BaseException") = some true ∧ PySem.W.typeIn K (.ref (He.ga K c)) = some (.type "type")
  ex : ∃ (fI : Addr) (fd : FuncData), PySem.W.findIn K (.ref (He.ga K c)) "__init__" = some (some (.ref fI)) ∧ PySem.W.typeIn K (.ref fI) = some (.type "function") ∧ Xv.Ini P w K mg base (He.ga K c) f fI fd
theorem sh_raiseK {X : Cx} {W : WX} {e : Expr} {dd : AD} {c f : Str} {p pos pos' : Pos} {k : Nat} (r : RaiseK X.prog X.w X.K X.mg X.base c f) (hc : X.calm = true) (q : Xv.Quiet k X.A) (tk : Takes X W) (hg : Gl X c) (hk : 2 ≤ k) (ha : AH X W [e] dd)
    (hdb : (c == ("__debug__" : Str)) = false := by decide) (he : starEach [e] X.env = (false, eval e X.env) :: starEach [] X.env := by rfl) : SH X W (.Raise (some (.Call (.Name c p) [e] [] pos)) none pos') (sRaise c f dd) := by
  obtain ⟨fI, fd, h1, h2, I0⟩ := r.ex
  have R : Raises X (.ref (He.ga X.K c)) := raises_own r.ri.1 r.ri.2
  exact sh_raise hc tk r.ox h1 h2 R I0 (q.1.mono hk) hg r.gl ha (pmk_oex (CX := CX0) (k := 1) (ps := ["self", f]) (ds := []) (dvs := []) r.ox h1 h2 I0.ok (q.1.mono hk) (fun s us K' hl => by
    match us, hl with
    | [self, u], _ => exact I0.b1 self u s K') .nil (pass0) hg r.gl ha hdb he (by rfl))
theorem hu64 {k : Nat} {A : Around} (r : Room k A) : A.units + 64 < cLine := r.units
theorem hu65 {k : Nat} {A : Around} (r : Room k A) : A.units + 65 < cLine := by
  have := r.un
  omega
end L2.Hy
end
section
namespace K13
open PySem PySem.Spec PyProof.Rows L2 L2.Xv He
def top (i : Nat) : Stmt := PySem.Challenge.pw_millpapers_k13_rows_refused.main.body.getD i (.Pass ⟨0, 0, 0, 0⟩)
end K13
end
section
/-! == and != of objects with an own __eq__, as the interpreter runs them. -/
namespace L2.Hy
open PySem PySem.W PySem.SeqAt
open AutoSeq1 (wpAny_loadPart')
section
variable {prog : Program} {w : World} {A : Around} {E : Value → Shared → Prop} {s : Shared} {K : Frag} {C y : Addr}
theorem inst_isIn {oy : Obj} {T : String} {M : Model} {A : Around} {Q : Bool → Shared → Prop} (X : K.In s.heap) (hy : s.heap.get? y = some oy) (hc : oy.cls = .ref C) (e : subIn K (.ref C) (.type T) = some false) (q : Q false s) : wpAny M A (isInstance (.ref y) (.type T)) Q E s := by
  unfold isInstance
  refine wpAny_bind (wpAny_typeOf_ref hy ?_)
  rw [hc]
  exact (looks_subIn X e).here q
/-- a builtin that answers NotImplemented -/
abbrev Decl (M : Model) (A : Around) (E : Value → Shared → Prop) (s : Shared) (t : Sem Fin) : Prop := ∀ Q : Value → Shared → Prop, Q .notImplemented s → wpAny M A t (fun fin s' => ∃ v, fin = .done (.ret v) ∧ Q v s') E s
theorem list_decl {l : Addr} {M : Model} {oy : Obj} (X : K.In s.heap) (hy : s.heap.get? y = some oy) (hc : oy.cls = .ref C) (e : subIn K (.ref C) (.type "list") = some false) : Decl M A E s (Builtin.«list.__eq__» ⟨[.ref l, .ref y], []⟩) := fun Q h => by
  obtain ⟨hp, g, d, tk, os⟩ := s
  wp_walk using inst_isIn X hy hc e
  exact ⟨_, rfl, h⟩
theorem tup_decl {l : Addr} {M : Model} {oy : Obj} (X : K.In s.heap) (hy : s.heap.get? y = some oy) (hc : oy.cls = .ref C) (e : subIn K (.ref C) (.type "tuple") = some false) : Decl M A E s (Builtin.«tuple.__eq__» ⟨[.ref l, .ref y], []⟩) := fun Q h => by
  obtain ⟨hp, g, d, tk, os⟩ := s
  wp_walk using inst_isIn X hy hc e
  exact ⟨_, rfl, h⟩
theorem non_decl {M : Model} : Decl M A E s (Builtin.«NoneType.__eq__» ⟨[.none, .ref y], []⟩) := fun Q h => by
  obtain ⟨hp, g, d, tk, os⟩ := s
  wp_walk
  exact ⟨_, rfl, h⟩
theorem int_decl {M : Model} {dx : Addr} {i : Int} {t : Tok} (hy : s.heap.get? y = some (instObj C dx)) : Decl M A E s (Builtin.«int.__eq__» ⟨[.int i t, .ref y], []⟩) := fun Q h => by
  obtain ⟨hp, g, d, tk, os⟩ := s
  wp_walk using wpAny_loadPart' hy, wpAny_load hy
  exact ⟨_, rfl, h⟩
theorem str_decl {M : Model} {dx : Addr} {i : Str} {t : Tok} (hy : s.heap.get? y = some (instObj C dx)) : Decl M A E s (Builtin.«str.__eq__» ⟨[.str i t, .ref y], []⟩) := fun Q h => by
  obtain ⟨hp, g, d, tk, os⟩ := s
  wp_walk using wpAny_loadPart' hy, wpAny_load hy
  exact ⟨_, rfl, h⟩
theorem bool_decl {M : Model} {dx : Addr} {i : Bool} (hy : s.heap.get? y = some (instObj C dx)) : Decl M A E s (Builtin.«int.__eq__» ⟨[.bool i, .ref y], []⟩) := fun Q h => by
  obtain ⟨hp, g, d, tk, os⟩ := s
  wp_walk using wpAny_loadPart' hy, wpAny_load hy
  exact ⟨_, rfl, h⟩
theorem dict_decl {l : Addr} {oy : Obj} (X : K.In s.heap) (hy : s.heap.get? y = some oy) (hc : oy.cls = .ref C) (e : subIn K (.ref C) (.type "dict") = some false) (hl : s.TypeIs (.ref l) "dict") : Decl (model prog w) A E s (Builtin.«dict.__eq__» ⟨[.ref l, .ref y], []⟩) := fun Q h => by
  show wpAny (model prog w) A (Builtin.Dict.dictSlotArgs "__eq__" ⟨[.ref l, .ref y], []⟩ >>= _) _ E s
  refine wpAny_bind ?_
  unfold Builtin.Dict.dictSlotArgs
  refine wpAny_bind (wpAny_notOrdered_dict hl ?_)
  show wpAny _ _ (pure (Value.ref l, Value.ref y)) _ _ s
  refine wpAny_pure ?_
  refine wpAny_bind (inst_isIn X hy hc e ?_)
  obtain ⟨hp, g, d, tk, os⟩ := s
  wp_walk
  exact ⟨_, rfl, h⟩
/-- what is known of a class with an own == -/
structure OwnK (K : Frag) (C f : Addr) : Prop where
  eq : findIn K (.ref C) "__eq__" = some (some (.ref f))
  fn : isFn K (.ref f) = true
  ne : findIn K (.ref C) "__ne__" = some (some (.builtin "object.__ne__"))
  nf : ∀ T ∈ (["NoneType", "bool", "int", "str", "tuple", "list", "dict"] : List String), subIn K (.type T) (.ref C) = some false
  nt : ∀ T ∈ (["NoneType", "bool", "int", "str", "tuple", "list", "dict"] : List String), subIn K (.ref C) (.type T) = some false
  ob : subIn K (.ref C) (.type "object") = some true
variable {f l dx : Addr} {u : Value} {T : String} {Q : Value → Shared → Prop}
theorem call_decl {id : String} {b : Builtin} {R : Value → Shared → Prop} (slot : Slot T "__eq__" id) (hT : s.TypeIs u T) (hb : entryFor table id = some b) (ha : argsOk id ⟨[u, .ref y], []⟩) (d : Decl (model prog w) A.in1 E s (b ⟨[u, .ref y], []⟩)) (h : R .notImplemented s) :
    wpAny (model prog w) A (call (.builtin id) [u, .ref y]) R E s := wpAny_call_entry slot hT hb (d R h) ha
/-- what u's own type answers to an instance -/
structure Declines (prog : Program) (w : World) (s : Shared) (u : Value) (T : String) (y : Addr) : Prop where
  ty : s.TypeIs u T
  ex : ∃ id, Slot T "__eq__" id ∧ ∀ (A : Around) (E R : Value → Shared → Prop), R .notImplemented s → wpAny (model prog w) A (call (.builtin id) [u, .ref y]) R E s
theorem isSub_looks (X : K.In s.heap) {a b : Value} {r : Bool} {M : Model} {A : Around} {Q : Bool → Shared → Prop} (e : subIn K a b = some r) (q : Q r s) : wpAny M A (isSubtype a b) Q E s := (looks_subIn X e).here q
theorem rc_ownR {oy : Obj} {od : Option Obj} (X : K.In s.heap) (O : OwnK K C f) (hk : T ∈ (["NoneType", "bool", "int", "str", "tuple", "list", "dict"] : List String)) (I : InstAt s.heap y oy C od) (D : Declines prog w s u T y) (hu : A.units < cLine)
    (h : wpAny (model prog w) A (call (.ref f) [.ref y, u]) (CmpBack Q) E s) : wpAny (model prog w) A (richCompare .Eq u (.ref y)) Q E s := by
  obtain ⟨id, slot, hc⟩ := D.ex
  simp only [richCompare, D.ty.oneThing_none, cmpInfo]
  refine wpAny_holding (wpAny_bind (wpAny_cRoomFor hu ?_))
  refine wpAny_bind (wpAny_typeOf D.ty (wpAny_bind (wpAny_typeOf_ref I.at_ ?_)))
  rw [I.cls]
  have hne : (Value.type T != Value.ref C) = true := rfl
  simp only [hne, if_true]
  refine wpAny_bind (isSub_looks X (O.nt T hk) ?_)
  simp only [Bool.false_eq_true, if_false, Bool.not_false, if_true]
  refine wpAny_bind (m := tryCompare u _ (.ref y)) (wpAny_tryCompare_declines D.ty slot (hc _ _ _ ⟨rfl, ?_⟩))
  refine wpAny_bind (m := tryCompare (.ref y) _ u) ?_
  unfold tryCompare
  refine wpAny_bind (ifBound_K X I O.eq O.fn (wpAny_mono h (fun v s' hv => ?_) fun _ _ e => e))
  cases v <;> first | exact hv.elim | exact wpAny_pure (wpAny_pure hv)
abbrev FinOk (prog : Program) (w : World) (A : Around) (R : Result → Shared → Prop) : Fin → Shared → Prop := fun fin s' => match fin with
  | .done f => R (.ok f) s'
  | .again c' => c'.quiet = true ∧ codeAny (model prog w) A c' R s'
theorem on_bind (self : Value) : bindSpecial (.builtin "object.__ne__") self = pure (.builtin "object.__ne__", [self]) :=
  (Slot.of (T := "object") (name := "__ne__") (owner := "object") (n := "__ne__") (by rw [typeLookup_type, builtinLookup_eq_fast]; kernel_rfl) (by decide +kernel) (by decide +kernel) (by decide +kernel)
    (.inl (by decide +kernel)) (by rw [isSubtype_type]; kernel_rfl)).bind self
theorem on_plain : plainId "object.__ne__" = true := by decide +kernel
theorem ifBound_ne {oy : Obj} {od : Option Obj} {b : Value} {R : Option Value → Shared → Prop} (X : K.In s.heap) (I : InstAt s.heap y oy C od) (O : OwnK K C f)
    (h : wpAny (model prog w) A (call (.builtin "object.__ne__") [.ref y, b]) (fun v => R (some v)) E s) : wpAny (model prog w) A (callSpecialIfBound? (.ref y) "__ne__" [b]) R E s := by
  simp only [callSpecialIfBound?, bindSpecialIfBound?]
  refine wpAny_holding (wpAny_bind (wpAny_bind (wpAny_bind (I.type.here ((looks_findIn X O.ne).here ?_)))))
  simp only [on_bind]
  refine wpAny_bind (wpAny_askSetting (wpAny_ite ?_))
  have fin : wpAny (model prog w) A (call (.builtin "object.__ne__") ([.ref y] ++ [b]) >>= fun v => pure (some v)) R E s := wpAny_bind (wpAny_mono h (fun v s' h' => wpAny_pure h') fun _ _ h' => h')
  split
  · exact wpAny_bind (wpAny_pure (wpAny_pure fin))
  · exact wpAny_tryCatch (wpAny_bind (wpAny_pure (wpAny_pure fin)))
theorem call_ne {oy : Obj} {od : Option Obj} {b : Value} {R : Value → Shared → Prop} (X : K.In s.heap) (I : InstAt s.heap y oy C od) (O : OwnK K C f) (hu : A.units + 1 < cLine)
    (h : wpAny (model prog w) A.in1 (call (.ref f) [.ref y, b]) (fun v s' => ∃ r, v = .bool r ∧ R (.bool (!r)) s') E s) : wpAny (model prog w) A (call (.builtin "object.__ne__") [.ref y, b]) R E s := by
  refine wpAny_call (codeAny_call_builtin on_plain PySem.F.cmpEntry_ne (PySem.W.check_slot PySem.F.cmpKind_ne PySem.F.cmpSplit_ne ?_ (PySem.F.cmpArgs_ne _ _) ?_))
  · unfold isInstance
    exact I.type.andThen (looks_subIn X O.ob)
  · unfold Builtin.«object.__ne__»
    have hu1 : A.in1.units < cLine := hu
    have go : wpAny (model prog w) A.in1 (callSpecialIfBound? (.ref y) "__eq__" [b]) (fun r s' => ∃ k, r = some (.bool k) ∧ R (.bool (!k)) s') E s :=
      ifBound_K X I O.eq O.fn (wpAny_mono h (fun v s' z => by obtain ⟨k, rfl, q⟩ := z; exact ⟨k, rfl, q⟩) fun _ _ e => e)
    have step : ∀ (r : Option Value) (s' : Shared), (∃ k, r = some (.bool k) ∧ R (.bool (!k)) s') → wpAny (model prog w) A.in1 (match r with
          | some Value.notImplemented => PySem.ret Value.notImplemented
          | none => PySem.ret Value.notImplemented
          | some r => do PySem.ret (Value.bool !(← truthy r))) (FinOk prog w A (wants R E)) E s' := by
      rintro r s' ⟨k, rfl, q⟩
      exact wpAny_bind (wpAny_truthy_bool (wpAny_pure q))
    repeat (first | with_reducible refine wpAny_cRoomFor hu1 ?_ | (with_reducible refine wpAny_mono go ?_ ?_) | wp_step)
    · exact step
    · exact fun _ _ e => e
theorem rc_neL {oy : Obj} {od : Option Obj} {tb b : Value} (X : K.In s.heap) (O : OwnK K C f) (I : InstAt s.heap y oy C od) (hb : Looks (model prog w) s.heap (typeOf b) tb) (hn : notFirst K C tb = true) (hu : A.units + 2 < cLine)
    (h : wpAny (model prog w) A.in1 (call (.ref f) [.ref y, b]) (fun v s' => ∃ r, v = .bool r ∧ Q (.bool (!r)) s') E s) : wpAny (model prog w) A (richCompare .NotEq (.ref y) b) Q E s := by
  have hu0 : A.units < cLine := by omega
  have one : wpAny (model prog w) A (tryCompare (.ref y) "__ne__" b) (fun r s' => ∃ v, r = some v ∧ Q v s') E s := by
    unfold tryCompare
    refine wpAny_bind (ifBound_ne X I O (call_ne X I O (by omega) (wpAny_mono h (fun v s' z => ?_) fun _ _ e => e)))
    obtain ⟨r, rfl, q⟩ := z
    exact ⟨r, rfl, wpAny_pure ⟨_, rfl, q⟩⟩
  unfold richCompare
  simp only [oneThing_ref, cmpInfo]
  refine wpAny_holding (wpAny_bind (wpAny_cRoomFor hu0 ?_))
  refine wpAny_bind (I.type.here (wpAny_bind (hb.here ?_)))
  split
  · rename_i q
    have e : subIn K tb (.ref C) = some false := by
      rcases Bool.or_eq_true_iff.mp hn with e | e
      · rw [beq_iff_eq.mp e] at q; simp at q
      · exact beq_iff_eq.mp e
    refine wpAny_bind (isSub_looks X e ?_)
    simp only [Bool.false_eq_true, if_false]
    refine wpAny_bind (wpAny_mono one (fun r s' z => ?_) fun _ _ e => e)
    obtain ⟨v, rfl, hq⟩ := z
    exact wpAny_pure hq
  · refine wpAny_bind (wpAny_pure ?_)
    simp only [Bool.false_eq_true, if_false]
    refine wpAny_bind (wpAny_mono one (fun r s' z => ?_) fun _ _ e => e)
    obtain ⟨v, rfl, hq⟩ := z
    exact wpAny_pure hq
end
end L2.Hy
end
section
/-! What is walked, whatever its kind; [::-1], tuple(), index. -/
namespace L2.Hy
open PySem PySem.Spec PyProof.Rows
def iAny (K : PySem.W.Frag) (tl : TE) : TI := fun σ H R => tl σ H fun x H1 => (∃ a xs, x = .ref a ∧ SqL K H1 a xs ∧ R (Itl K a) H1) ∨ (∃ a xs, x = .ref a ∧ SqT K H1 a xs ∧ R (Itt K a) H1) ∨ ∃ z, x = .str z ∧ R (Its z) H1
section
variable {X : Cx} {W : WX} {tg l e o : Expr} {tl : TE} {dl do_ de : Den} {dd : AD}
theorem pi_any (hl : PE X l tl) : PI X tg l (iAny X.K tl) := by
  refine ⟨fun pins s σ H R I h => ?_⟩
  refine thn (hl.run pins s σ H _ I h) fun v s1 ⟨x, H1, I1, r1, q1⟩ => ?_
  have one : ∀ b ∈ [s1.heap.objs.size], FpOk X pins H1 b := fun b hb => by
    have e : b = s1.heap.objs.size := by simpa using hb
    subst e
    exact I1.fpOk (Nat.le_refl _) (I1.hok.fresh (Nat.le_refl _))
  rcases q1 with ⟨a, xs, rfl, hq, q⟩ | ⟨a, xs, rfl, hq, q⟩ | ⟨z, rfl, q⟩
  · cases r1
    obtain ⟨its, rv, p, hz⟩ := I1.list hq
    exact wpAny_pyIter_list p.isList ⟨s1.heap.objs.size, [s1.heap.objs.size], _, _, H1, rfl, I1.kept (t' := s1.toks) fun b o e => Heap.get?_push_of_some _ e, turn_list a _, ⟨_, Heap.get?_push_size _ rfl, rfl, rfl⟩, one, q⟩
  · cases r1
    obtain ⟨its, rv, p, hz⟩ := I1.tuple hq
    exact wpAny_pyIter_tuple (show s1.heap.IsTuple a its.toArray from p) ⟨s1.heap.objs.size, [s1.heap.objs.size], _, _, H1, rfl, I1.kept (t' := s1.toks) fun b o e => Heap.get?_push_of_some _ e, turn_tuple a _, ⟨_, Heap.get?_push_size _ rfl, rfl, rfl⟩, one, q⟩
  · obtain ⟨t, rfl⟩ := r1
    cases ha : z.cps.all (· < 128)
    · exact wpAny_pyIter_wide ha (pi_one (tk := s1.toks) I1 _ (turn_str _ z t "str_iterator" (.inr rfl)) ⟨_, Heap.get?_push_size _ rfl, rfl, rfl⟩ q)
    · exact wpAny_pyIter_ascii ha (pi_one (tk := s1.toks) I1 _ (turn_str _ z t "str_ascii_iterator" (.inl rfl)) ⟨_, Heap.get?_push_size _ rfl, rfl, rfl⟩ q)
def sgD (z : Str) : List D := z.cps.toList.map fun c => .str ⟨#[c]⟩
theorem walkd_str {K : PySem.W.Frag} {G : Hp} {as : List Addr} {z : Str} : WalkD K (Its z) G as (sgD z) := by
  have w := walk_str (z := z)
  have hl : (sgD z).length = z.cps.size := by unfold sgD; simp
  unfold WalkD
  rw [hl]
  refine w.mono (fun _ _ => trivial) fun i H x H' hi _ y => yd_still (Y := fun i H v H' => H' = H ∧ ∃ c, z.cps[i]? = some c ∧ v = .str ⟨#[c]⟩) (fun i H x H' _ y => ⟨y.1, fun d e => ?_⟩) (by rw [hl]; exact hi) y
  obtain ⟨c, e1, rfl⟩ := y.2
  unfold sgD at e
  rw [List.getElem?_map, Array.getElem?_toList, e1] at e
  cases e
  exact .str _
/-- a settled list, a tuple, a text -/
def itA : D → Mx (List D)
  | .lst ds => mret ds
  | .tup ds => mret ds
  | .str z => mret (sgD z)
  | _ => mnone
theorem ih_any (hl : EH X W l dl) : IH X W tg l (fun ρ => mbind (dl ρ) itA) := piI (pi_any hl) fun σ H R ⟨G, as, ρ, S, t, eo, q⟩ => ⟨G, as, ρ, S, t, eo, tF.bind q fun v d G1 as1 S1 H1 t1 l1 r1 q1 => by
  cases r1 with
  | lst h x => exact .inl ⟨_, _, rfl, .inl (.inl (t1.sub _ _ h)), tR.now q1 t1 _ (walkd_list h x)⟩
  | tup h x => exact .inr (.inl ⟨_, _, rfl, sqT_same t1.sub h, tR.now q1 t1 _ (walkd_tup h x)⟩)
  | str z => exact .inr (.inr ⟨z, rfl, tR.now q1 t1 _ walkd_str⟩)
  | _ => exact (tR.no q1).elim⟩
/-- xs[::-1] -/
def fRev (b : Bool) (x : D) : Mx D := fun S => match lstD S x with
  | some ds => allocL b ds.reverse S
  | none => none
theorem eh_rev (b : Bool) {k : Nat} {p1 p2 p3 pos : Pos} (he : EH X W e de) : EH X W (.Subscript e (.Slice none none (some (.UnaryOp .USub (.Constant (.int 1) k p1) p2)) p3) pos) (d1 (fRev b) de) :=
  peI (pe_revL he) fun σ H Q ⟨G, as, ρ, S, t, eo, q⟩ => ⟨G, as, ρ, S, t, eo, tF.bind q fun v d G1 as1 S1 H1 t1 l1 r1 q1 => by
    have q0 : ∃ ds, lstD S1 d = some ds ∧ tF X.K W σ G1 as1 S1 H1 (allocL b ds.reverse) Q := by
      obtain ⟨r0, S', e, h⟩ := q1
      unfold fRev at e
      split at e
      · rename_i ds e1
        exact ⟨ds, e1, r0, S', e, h⟩
      · cases e
    obtain ⟨ds, e1, q4⟩ := q0
    obtain ⟨p, xs, rfl, hx, rx⟩ := t1.lst r1 e1
    exact ⟨p, xs, rfl, .inl (.inl hx), (allocL_ok q4 t1 rx.reverse).2⟩⟩
/-- tuple(xs), xs a list -/
def fTupOf : List D → Mx D := on1 fun d S => match lstD S d with
  | some ds => allocT ds S
  | none => none
theorem prTupOf {K : PySem.W.Frag} : PrimN K W (fun xs H Q => ∃ p ys, xs = [.ref p] ∧ ((SqL K H p ys ∧ ∀ l, H l = none → Q (.ref l) (upd H l (.tup ys))) ∨ (SqT K H p ys ∧ Q (.ref p) H))) fTupOf := fun σ G as S H xs ds Q t r q => by
  obtain ⟨v, d, rfl, rfl, r1, q⟩ := one1 r q
  have q0 : ∃ es, lstD S d = some es ∧ tF K W σ G as S H (allocT es) Q := by
    obtain ⟨r0, S', e, h⟩ := q
    dsimp only at e
    split at e
    · rename_i es e1
      exact ⟨es, e1, r0, S', e, h⟩
    · cases e
  obtain ⟨es, e1, q1⟩ := q0
  obtain ⟨a, ys, rfl, e3, r3⟩ := t.lst r1 e1
  exact ⟨a, ys, rfl, .inl ⟨.inl (.inl e3), (allocT_ok q1 t r3).2⟩⟩
/-- xs.index(y) of data -/
def ixOf (p : PyData) : List PyData → Nat → Option Nat
  | [], _ => none
  | z :: zs, n => if PyData.eqv z p = true then some n else ixOf p zs (n + 1)
theorem ixOf_ok {p : PyData} : ∀ {zs : List PyData} {n j : Nat}, ixOf p zs n = some j → ∃ i z, j = n + i ∧ zs[i]? = some z ∧ PyData.eqv z p = true ∧ ∀ m z', m < i → zs[m]? = some z' → PyData.eqv z' p = false
  | z :: zs, n, j, e => by
    unfold ixOf at e
    split at e
    · rename_i h
      cases e
      exact ⟨0, z, rfl, rfl, h, fun m z' h => absurd h (Nat.not_lt_zero _)⟩
    · rename_i h
      obtain ⟨i, z1, h1, h2, h3, h4⟩ := ixOf_ok e
      refine ⟨i + 1, z1, by omega, h2, h3, fun m z' hm hz => ?_⟩
      cases m with
      | zero =>
        cases hz
        exact Bool.eq_false_iff.mpr h
      | succ m => exact h4 m z' (by omega) hz
def fIndex (x : D) : List D → Mx D := on1 fun y => mOf fun S => match pd S x, pd S y with
  | some (.list zs), some p => if SeqAt.shaped (.list zs) = true ∧ SeqAt.shaped p = true then (ixOf p zs 0).map fun (j : Nat) => D.int (j : Int) else none
  | _, _ => none
def dIndex (do_ : Den) (dd : AD) : Den := fun ρ => mbind (do_ ρ) fun x => mbind (mOf fun S => lstD S x) fun _ => mbind (dd ρ) fun ds => fIndex x ds
theorem eh_index {apos cpos : Pos} (hu : X.A.units + 65 < cLine) (ho : EH X W o do_) (ha : AH X W [e] dd)
    (hbase : attributeBase o "index" X.env (eval o X.env) = eval o X.env := by rfl)
    (hfew : ((backTo cpos (starEach [e] X.env)).all (fun x => !x.1) && (backToKw cpos (keywordEach [] X.env)).all (fun x => x.1.isSome)
      && decide ([e].length + ([] : List Keyword).length + (if ([] : List Keyword).isEmpty then 0 else 1) < 30)) = true := by rfl)
    (hline : (apos.endLine == cpos.line) = true := by rfl) (hs : starEach [e] X.env = (false, eval e X.env) :: starEach [] X.env := by rfl) (hplain : (backTo cpos (starEach [] X.env)).any (·.1) = false := by rfl) :
    EH X W (.Call (.Attribute o "index" apos) [e] [] cpos) (dIndex do_ dd) :=
  peI (pe_bm PySem.F.plainAttrs_list PySem.F.slot_list_index PySem.F.type_list_index (mt_indexD hu) ho ha hbase hfew hline hs hplain) fun σ H Q ⟨G, as, ρ, S, t, eo, q⟩ => ⟨G, as, ρ, S, t, eo, tF.bind q fun v d G1 as1 S1 H1 t1 l1 r1 q1 => by
    obtain ⟨ds1, e1, q1⟩ := tR.ofK q1
    obtain ⟨a, xs, rfl, hx, rx⟩ := t1.lst r1 e1
    refine ⟨.inl ⟨rfl, xs, .inl (.inl hx)⟩, G1, as1, ρ, S1, t1, eo.le l1, tL.bind q1 fun vs ds G2 as2 S2 H2 t2 l2 r2 q2 => ?_⟩
    obtain ⟨w, y, rfl, rfl, ry, q3⟩ := one1 r2 q2
    obtain ⟨z, e2, q4⟩ := q3.of t2
    split at e2
    · rename_i zs p e3 e4
      split at e2
      · rename_i hc
        obtain ⟨j, e5, rfl⟩ := Option.map_eq_some_iff.mp e2
        obtain ⟨i, z1, h1, h2, h3, h4⟩ := ixOf_ok e5
        rw [Nat.zero_add] at h1
        subst h1
        exact ⟨a, w, p, zs, j, z1, rfl, rfl, pd_ok t2 (r1.le l2) e3, pd_ok t2 ry e4, hc.1, hc.2, h2, h3, h4, q4 _ (.int _)⟩
      · cases e2
    · cases e2⟩
/-- x.bit_length() -/
def fBits : D → Mx D
  | .int i => mret (.int (Builtin.Int.intBits i : Nat))
  | _ => mnone
theorem eh_bits {apos pos : Pos} (ho : EH X W o do_) (hbase : attributeBase o "bit_length" X.env (eval o X.env) = eval o X.env := by rfl) (hline : (apos.endLine == pos.line) = true := by rfl) : EH X W (.Call (.Attribute o "bit_length" apos) [] [] pos) (d1 fBits do_) :=
  peI (pe_bits ho hbase hline) fun σ H Q ⟨G, as, ρ, S, t, eo, q⟩ => ⟨G, as, ρ, S, t, eo, tF.bind q fun v d G1 as1 S1 H1 t1 l1 r1 q1 => by
    cases r1 with
    | int i => exact ⟨i, rfl, tF.now q1 t1 (.int _)⟩
    | _ => exact (tR.no q1).elim⟩
/-- a power, of any size that is not too great -/
def fPowW : D → D → Mx D := fIIc (fun i j => decide (0 ≤ j ∧ (Builtin.Int.intBits i : Int) * j ≤ 134217728)) fun i j => .int (i ^ j.toNat)
theorem op_powW : OpR X (binaryOp .Pow) (rI (fun i j => 0 ≤ j ∧ (Builtin.Int.intBits i : Int) * j ≤ 134217728) fun i j => .int (i ^ j.toNat)) := opI fun _ _ _ _ _ _ _ hc q => PyProof.Rows.pow_int hc.1 (by have := hc.2; omega) q
theorem eh_powW {a b : Expr} {da db : Den} {pos : Pos} (ha : EH X W a da) (hb : EH X W b db) : EH X W (.BinOp a .Pow b pos) (d2 fPowW da db) := eh_2 op_powW (prIIc (fun i j h => by have := of_decide_eq_true h; exact this) fun _ _ _ _ _ => .int _) ha hb
/-- an empty dict -/
def dDct (b : Bool) : Den := fun _ S => if b = true then some (.ok (.h S.length), S ++ [some (.cd [])]) else some (.ok (.dct []), S)
theorem eh_dct (b : Bool) {pos : Pos} : EH X W (.Dict [] [] pos) (dDct b) :=
  peI pe_dnewK fun σ H Q ⟨G, as, ρ, S, t, eo, q⟩ p hp => by
    obtain ⟨r0, S', e, h⟩ := q
    unfold dDct at e
    cases b with
    | false =>
      cases e
      obtain ⟨t1, l1⟩ := t.settle hp (.dK [])
      exact h _ _ _ t1 l1 _ (.dct upd_same .nil)
    | true =>
      cases e
      obtain ⟨t1, l1⟩ := t.alloc hp (o := .dK []) (c := .cd []) fun H' e' => ⟨[], e', .nil⟩
      refine h _ _ _ t1 l1 _ (.h _ ?_)
      rw [← t.len, List.getElem?_append_right (Nat.le_refl _), Nat.sub_self]
      rfl
/-- x = e -/
theorem sh_set {i : Nat} {x : Str} {pos pos' : Pos} (hN : X.N.Nodup) (hi : X.N[i]? = some x) (hx : Loc X.env.scope x) (he : EH X W e de) (hs : swapsWith e (some (.Name x pos')) pos.line X.env = pure false := by rfl) (hf : X.fn x = true ∨ X.env.scope.names.lookup x = some .local := by first | exact .inl rfl | exact .inr rfl | assumption) :
    SH X W (.Assign [.Name x pos'] e pos) (sAsg (bN i) de) :=
  psI (ps_set hN hi hx he hs hf) fun D σ H ⟨G, as, ρ, S, t, eo, q⟩ => ⟨G, as, ρ, S, t, eo, q.liftV eo fun v d G1 as1 S1 H1 t1 l1 r1 q1 => tS.now q1 t1 _ (by rw [List.length_set]) ((eo.le l1).set r1 i)⟩
theorem pe_callX0 {k : Nat} {f : Addr} {fd : FuncData} {ps : List Str} {sp : Sp} {dvs : List V} {ds : List Value} {x : Str} {p pos : Pos} (F : FnX X.prog X.w X.K X.mg X.base k f fd ps sp) (q : Xv.Quiet k X.A) (tk : Takes X W) (hg : Gl X x) (hm : X.mg x = some (.ref f)) (hk : PySem.W.keepIn X.K (.ref f) = true) (hb : Binds X.K fd ps ds) (hd : Vals dvs ds)
    (hdb : (x == ("__debug__" : Str)) = false := by decide) : PE X (.Call (.Name x p) [] [] pos) (tCallX sp dvs W tNil) := by
  refine ⟨fun pins s σ H Q I h => ?_⟩
  refine wpAny_Call_Name_kw (ld_glob I hg hm ?_ hdb)
  exact PySem.W.callWith_K0 I.kIn hk (run_x (us := []) F q tk hb hd I .nil h)
theorem eh_call0K {k j n : Nat} {x : Str} {p pos : Pos} {F : List D → Mx D} {dds : List D} (C : Cal X.prog X.w X.K X.mg X.base x j n dds F) (q : Xv.Quiet k X.A) (hj : j ≤ k) (tk : Takes X W) (hg : Gl X x) (hdb : (x == ("__debug__" : Str)) = false := by decide) :
    EH X W (.Call (.Name x p) [] [] pos) (dCall (n + dds.length) F dds aNil) := by
  obtain ⟨f, fd, ps, dvs, ds, h1, h2, h3, h4, h5, h6, h7⟩ := C.ex
  rw [← h7]
  refine peI (pe_callX0 h1 (q.mono hj) tk hg h2 h3 h4 h5 hdb) fun σ H Q ⟨G, as, ρ, S, t, eo, q⟩ => ?_
  have q1 : tR X.K W σ G as S H (if ([] : List D).length + dds.length = ps.length then F ([] ++ dds) else mnone) fun d G' as' _ H' => ∀ v, RV X.K G' as' v d → Q v H' := q
  split at q1
  · rename_i hl
    exact ⟨by rw [List.nil_append, (h6 G as).len]; simpa using hl, G, as, S, dds, t, h6 G as, q1⟩
  · exact (tR.no q1).elim
end
end L2.Hy
end
section
/-! Loops over lists that may still be changed; calls that hand new cells back. -/
namespace L2.Hy
open PySem PySem.Spec PyProof.Rows
/-- the cell n is read at each turn -/
def loopC (n : Nat) (bd : Bd) (body : SDen) : Nat → Nat → SDen
  | 0, _, _ => sNo
  | k + 1, i, ρ => fun S => match S[n]? with
    | some (some (.cl ds)) => match ds[i]? with
      | none => some (.nx ρ, S)
      | some d => match bd.go d ρ with
        | none => none
        | some ρ1 => match body ρ1 S with
          | some (.nx ρ2, S2) => loopC n bd body k (i + 1) ρ2 S2
          | some (.ct ρ2, S2) => loopC n bd body k (i + 1) ρ2 S2
          | some (.bk ρ2, S2) => some (.nx ρ2, S2)
          | r => r
    | _ => none
/-- for, over a list (settled or a cell), a tuple, a text; at most 10,000 turns over a cell -/
def sForA (dl : Den) (bd : Bd) (body : SDen) : SDen := fun ρ => lift ρ (dl ρ) fun d => match d with
  | .h n => loopC n bd body 10000 0 ρ
  | .lst ds => loopX bd body ds ρ
  | .tup ds => loopX bd body ds ρ
  | .str z => loopX bd body (sgD z) ρ
  | _ => sNo
section
variable {X : Cx} {W : WX} {it tg : Expr} {body : List Stmt} {dl : Den} {bd : Bd} {db : SDen} {pos : Pos}
theorem forX_ok {K : PySem.W.Frag} {D : Ends} {n : Nat} {ρ : Env} {σ : L2.St} {G1 H1 : Hp} {as1 : List Addr} {S1 : Store} {ds : List Hy.D} {J : It} (t1 : Ht K G1 as1 S1 H1) (eo : EnvOk K G1 as1 σ ρ) (wk : WalkD K J G1 as1 ds) (q1 : tS K W D σ.length G1 as1 S1 H1 (loopX bd db ds ρ)) :
    ∃ Wv : Nat → Nat → L2.St → Hp → Prop, (∃ m, Wv 0 m σ H1) ∧ ∀ i m σ H, Wv i m σ H →
      (J.stop i H ∧ D.nx σ H) ∨ (J.go i H ∧ ∃ N : L2.St → Hp → Prop, (∀ σ' H', N σ' H' → ∃ m', m' < m ∧ Wv (i + 1) m' σ' H') ∧ ∀ x H', J.yld i H x H' → gH K bd x σ H' fun σ2 H2 => tHs K W db { D with nx := N, ct := N, bk := D.nx } σ2 H2) := by
  refine for_it wk (fun i σ' H' => ∃ G' as' S' ρ', Ht K G' as' S' H' ∧ Le G1 as1 H1 G' as' H' ∧ σ'.length = σ.length ∧ EnvOk K G' as' σ' ρ' ∧ tS K W D σ.length G' as' S' H' (loopX bd db (ds.drop i) ρ')) ?_ ?_ ?_ ?_
  · exact ⟨G1, as1, S1, ρ, t1, Le.refl, rfl, eo, q1⟩
  · rintro i σ' H' _ ⟨G', as', S', ρ', t', l', _, _, _⟩
    exact l'.g.trans t'.sub
  · rintro i x σ' H' H2 hi ⟨G', as', S', ρ', t', l', sl, eo', q'⟩ y
    have hd : ds[i]? = some ds[i] := List.getElem?_eq_getElem hi
    obtain ⟨G2, t2, l2, r2⟩ := y G' as' S' ds[i] t' l'.g l'.ad hd
    rw [drop_cons hi] at q'
    have q2 : tS K W D σ.length G2 as' S' H2 (loopX bd db (ds[i] :: ds.drop (i + 1)) ρ') := q'.on t2 l2 rfl
    obtain ⟨ρ1, e1, q3⟩ := loop_step (N := fun σ' H' => ∃ G' as' S' ρ', Ht K G' as' S' H' ∧ Le G1 as1 H1 G' as' H' ∧ σ'.length = σ.length ∧ EnvOk K G' as' σ' ρ' ∧ tS K W D σ.length G' as' S' H' (loopX bd db (ds.drop (i + 1)) ρ')) q2
      fun ρ2 G3 as3 S3 H3 σ3 t3 l3 sl3 o3 q3 => ⟨G3, as3, S3, ρ2, t3, (l'.trans l2).trans l3, sl3, o3, q3⟩
    exact ⟨G2, as', S', ρ', ds[i], ρ1, t2, eo'.le l2, r2, e1, fun σ1 c1 o1 => ⟨G2, as', ρ1, S', t2, o1, by rw [c1.1, sl]; exact q3⟩⟩
  · rintro σ' H' ⟨G', as', S', ρ', t', l', sl, eo', q'⟩
    rw [List.drop_length] at q'
    exact tS.now q' t' σ' sl eo'
theorem forC_ok {K : PySem.W.Frag} {D : Ends} {n k0 : Nat} {a : Addr} {ρ : Env} {σ : L2.St} {G1 H1 : Hp} {as1 : List Addr} {S1 : Store} (t1 : Ht K G1 as1 S1 H1) (eo : EnvOk K G1 as1 σ ρ) (ea : as1[n]? = some a) (q1 : tS K W D σ.length G1 as1 S1 H1 (loopC n bd db k0 0 ρ)) :
    ∃ Wv : Nat → Nat → L2.St → Hp → Prop, (∃ m, Wv 0 m σ H1) ∧ ∀ i m σ H, Wv i m σ H →
      ((Itl K a).stop i H ∧ D.nx σ H) ∨ ((Itl K a).go i H ∧ ∃ N : L2.St → Hp → Prop, (∀ σ' H', N σ' H' → ∃ m', m' < m ∧ Wv (i + 1) m' σ' H') ∧ ∀ x H', (Itl K a).yld i H x H' → gH K bd x σ H' fun σ2 H2 => tHs K W db { D with nx := N, ct := N, bk := D.nx } σ2 H2) := by
  refine ⟨fun i m σ' H' => ∃ G' as' S' ρ', Ht K G' as' S' H' ∧ as'[n]? = some a ∧ σ'.length = σ.length ∧ EnvOk K G' as' σ' ρ' ∧ tS K W D σ.length G' as' S' H' (loopC n bd db m i ρ'), ⟨k0, G1, as1, S1, ρ, t1, ea, rfl, eo, q1⟩, ?_⟩
  rintro i m σ' H' ⟨G', as', S', ρ', t', ea', sl, eo', o, S2, e, h⟩
  cases m with
  | zero => cases e
  | succ k =>
    unfold loopC at e
    split at e
    · rename_i ds q
      obtain ⟨xs, hx, rx⟩ := tyL t' ea' q
      cases hd : ds[i]? with
      | none =>
        rw [hd] at e
        cases e
        refine .inl ⟨⟨xs, .inl (.inl hx), ?_⟩, h G' as' H' t' Le.refl σ' sl eo'⟩
        rw [rx.len]
        exact List.getElem?_eq_none_iff.mp hd
      | some d =>
        rw [hd] at e
        dsimp only at e
        obtain ⟨v, hv, rv⟩ := rx.at hd
        cases hb : bd.go d ρ' with
        | none =>
          rw [hb] at e
          cases e
        | some ρ1 =>
          rw [hb] at e
          dsimp only at e
          refine .inr ⟨⟨xs, v, .inl (.inl hx), hv⟩, fun σ3 H3 => ∃ G3 as3 S3 ρ3, Ht K G3 as3 S3 H3 ∧ as3[n]? = some a ∧ σ3.length = σ.length ∧ EnvOk K G3 as3 σ3 ρ3 ∧ tS K W D σ.length G3 as3 S3 H3 (loopC n bd db k (i + 1) ρ3), fun σ3 H3 z => ⟨k, Nat.lt_succ_self k, z⟩, fun x H2 y => ?_⟩
          obtain ⟨rfl, y⟩ := y
          have ex : x = v := by
            have := y xs (.inl (.inl hx))
            rw [hv] at this
            exact (Option.some.inj this).symm
          subst ex
          refine ⟨G', as', S', ρ', d, ρ1, t', eo', rv, hb, fun σ1 c1 o1 => ⟨G', as', ρ1, S', t', o1, ?_⟩⟩
          rw [c1.1, sl]
          cases hm : db ρ1 S' with
          | none =>
            rw [hm] at e
            cases e
          | some p =>
            obtain ⟨o0, S3⟩ := p
            rw [hm] at e
            have go : ∀ ρ2, loopC n bd db k (i + 1) ρ2 S3 = some (o, S2) → ∀ G3 as3 H3, Ht K G3 as3 S3 H3 → Le G' as' H2 G3 as3 H3 → ∀ σ3, σ3.length = σ.length → EnvOk K G3 as3 σ3 ρ2 →
                ∃ G3 as3 S3 ρ3, Ht K G3 as3 S3 H3 ∧ as3[n]? = some a ∧ σ3.length = σ.length ∧ EnvOk K G3 as3 σ3 ρ3 ∧ tS K W D σ.length G3 as3 S3 H3 (loopC n bd db k (i + 1) ρ3) := fun ρ2 e' G3 as3 H3 t3 l3 σ3 sl3 eo3 =>
              ⟨G3, as3, S3, ρ2, t3, l3.ad _ _ ea', sl3, eo3, o, S2, e', fun G4 as4 H4 t4 l4 => (h G4 as4 H4 t4 (l3.trans l4)).on fun dd q => Le.was t3 l3 q⟩
            cases o0 with
            | nx ρ2 => exact ⟨_, _, hm, go ρ2 e⟩
            | ct ρ2 => exact ⟨_, _, hm, go ρ2 e⟩
            | bk ρ2 =>
              cases e
              exact ⟨_, _, hm, h⟩
            | rt d =>
              cases e
              exact ⟨_, _, hm, h⟩
            | xc ρ c f d =>
              cases e
              exact ⟨_, _, hm, h⟩
    · cases e
theorem sh_forA (hp : PassesOwn (model X.prog X.w) X.A X.env X.xe) (hc : X.calm = true) (hi : EH X W it dl) (hg : GH X tg bd) (hb : SsH X W body db)
    (hs : ∀ x, foldedSetIterable it X.env x = pure x := by intro _; rfl) : SH X W (.For tg it body [] pos) (sForA dl bd db) := by
  refine psI (ps_for hp hc (pi_any hi) hg hb hs) fun D σ H ⟨G, as, ρ, S, t, eo, q⟩ => ?_
  refine ⟨G, as, ρ, S, t, eo, q.liftV eo fun v d G1 as1 S1 H1 t1 l1 r1 q1 => ?_⟩
  cases r1 with
  | lst h x => exact .inl ⟨_, _, rfl, .inl (.inl (t1.sub _ _ h)), forX_ok (n := 0) t1 (eo.le l1) (walkd_list h x) q1⟩
  | tup h x => exact .inr (.inl ⟨_, _, rfl, sqT_same t1.sub h, forX_ok (n := 0) t1 (eo.le l1) (walkd_tup h x) q1⟩)
  | str z => exact .inr (.inr ⟨z, rfl, forX_ok (n := 0) t1 (eo.le l1) walkd_str q1⟩)
  | h n ea =>
    have hc : ∃ ds, S1[n]? = some (some (.cl ds)) := by
      obtain ⟨o, S2, e, _⟩ := q1
      change loopC n bd db (9999 + 1) 0 ρ S1 = _ at e
      unfold loopC at e
      split at e
      · rename_i ds q
        exact ⟨ds, q⟩
      · cases e
    obtain ⟨ds, hq⟩ := hc
    obtain ⟨xs, hx, rx⟩ := tyL t1 ea hq
    exact .inl ⟨_, xs, rfl, .inl (.inl hx), forC_ok t1 (eo.le l1) ea q1⟩
  | _ => exact (tS.no q1).elim
end
/-! ### a call that hands new cells back -/
section
variable {P : Program} {w : World} {K : PySem.W.Frag} {mg : Str → Option Value} {base : Heap} {f : Addr} {fd : FuncData} {ps N : List Str} {k : Nat} {x qual : Str} {params : Arguments} {body : List Stmt} {scope : Scope} {dvs : List V} {kws : List (Str × V)} {den : SDen}
theorem fnR (Fd : FunD K x qual params body scope dvs kws f fd) (S : FnScope N ps scope) (hb : BodyH P w K mg base N k f qual scope body den) : FnX P w K mg base (k + 1) f fd ps (spH K ps.length (runB N.length den)) :=
  fnB Fd S hb fun E G H as St vs ds Q t r h => ⟨as, St, t, r, h⟩
end
/-! ### comprehensions over a list that may still be changed -/
def lcC (n : Nat) (bd : Bd) (td : TD) (de : Den) (ρ : Env) : Nat → Nat → Mx (List D)
  | 0, _ => mnone
  | k + 1, i => fun S => match S[n]? with
    | some (some (.cl ds)) => match ds[i]? with
      | none => some (.ok [], S)
      | some d => match bd.go d ρ with
        | none => none
        | some ρ1 => mbind (mNox (td ρ1)) (fun c => if c = true then mbind (mNox (de ρ1)) fun x => mbind (lcC n bd td de ρ k (i + 1)) fun xs => mret (x :: xs) else lcC n bd td de ρ k (i + 1)) S
    | _ => none
def itX (bd : Bd) (td : TD) (de : Den) (ρ : Env) : D → Mx (List D)
  | .h n => lcC n bd td de ρ 10000 0
  | .lst ds => lcX bd td de ρ ds
  | .tup ds => lcX bd td de ρ ds
  | .str z => lcX bd td de ρ (sgD z)
  | _ => mnone
def dLcA (b : Bool) (vs : List Nat) (dl : Den) (bd : Bd) (td : TD) (de : Den) : Den := fun ρ => mbind (dl ρ) fun d => mbind (itX bd td de (wipeE ρ vs) d) (allocL b)
theorem lcC_ok {n : Nat} {bd : Bd} {td : TD} {de : Den} {ρ : Env} : ∀ {k i : Nat} {S S' : Store} {r : Rz (List D)}, lcC n bd td de ρ k i S = some (r, S') → ∃ xs, r = .ok xs
  | 0, i, S, S', r, e => by cases e
  | k + 1, i, S, S', r, e => by
    unfold lcC at e
    split at e
    · rename_i ds q
      cases hd : ds[i]? with
      | none =>
        rw [hd] at e
        cases e
        exact ⟨_, rfl⟩
      | some d =>
        rw [hd] at e
        dsimp only at e
        cases hb : bd.go d ρ with
        | none =>
          rw [hb] at e
          cases e
        | some ρ1 =>
          rw [hb] at e
          dsimp only at e
          rcases mb e with ⟨c, S1, e1, e2⟩ | ⟨c, f, d', e1, _⟩
          · cases c with
            | false => exact lcC_ok (k := k) e2
            | true =>
              rw [if_pos rfl] at e2
              rcases mb e2 with ⟨x, S2, e3, e4⟩ | ⟨c, f, d', e3, _⟩
              · rcases mb e4 with ⟨xs, S3, e5, e6⟩ | ⟨c, f, d', e5, _⟩
                · cases e6
                  exact ⟨_, rfl⟩
                · obtain ⟨_, z⟩ := lcC_ok (k := k) e5
                  cases z
              · unfold mNox at e3
                split at e3 <;> cases e3
          · unfold mNox at e1
            split at e1 <;> cases e1
    · cases e
section
variable {K : PySem.W.Frag} {W : WX} {σ : L2.St} {G H : Hp} {as : List Addr} {S : Store}
theorem lcC_len {n : Nat} {bd : Bd} {td : TD} {de : Den} {ρ : Env} {k i : Nat} {acc : List D} {b : Bool} {C : D → Hp → List Addr → Store → Hp → Prop} (h : tR K W σ G as S H (mbind (lcC n bd td de ρ k i) fun r => allocL b (acc ++ r)) C) : acc.length ≤ 16777216 := by
  obtain ⟨r, S', e, _⟩ := h
  rcases mb e with ⟨xs, S3, e5, e6⟩ | ⟨c, f, d', e5, _⟩
  · unfold allocL at e6
    split at e6
    · rename_i hz
      rw [List.length_append] at hz
      omega
    · cases e6
  · obtain ⟨_, z⟩ := lcC_ok e5
    cases z
/-- one turn of a comprehension's body, from the base (Gb, asb, Hb) -/
theorem lc_turn {td : TD} {de : Den} {ρ1 : Env} {R : Mx (List D)} {b : Bool} {acc : List D} {xs : List V} {Q : VK} {D0 : Addr} {Gb Hb : Hp} {asb : List Addr} {σ1 : L2.St} {Nx : Hp → Prop}
    (t : Ht K G as S H) (lb : Le Gb asb Hb G as H) (dn : D0 ∉ as) (dg : G D0 = none) (dh : H D0 = some (.lst xs)) (hb0 : Hb D0 = none) (rx : RVs K G as xs acc) (o1 : EnvOk K G as σ1 ρ1)
    (q : tF K W σ Gb asb S Hb (mbind (mbind (mNox (td ρ1)) fun c => if c = true then mbind (mNox (de ρ1)) fun x => mbind R fun ys => mret (x :: ys) else R) fun r => allocL b (acc ++ r)) Q)
    (hlen : ∀ {G as S H acc}, tF K W σ G as S H (mbind R fun r => allocL b (acc ++ r)) Q → acc.length ≤ 16777216)
    (hN : ∀ (G' : Hp) (as' : List Addr) (S' : Store) (H' : Hp) (xs' : List V) (acc' : List D), Ht K G' as' S' H' → Le Gb asb Hb G' as' H' → (∀ (m : Nat) (a : Addr), as[m]? = some a → as'[m]? = some a) → D0 ∉ as' → G' D0 = none → H' D0 = some (.lst xs') → RVs K G' as' xs' acc' → tF K W σ Gb asb S' Hb (mbind R fun r => allocL b (acc' ++ r)) Q → Nx H') :
    tHb K W0 td σ1 H fun c H3 => if c = true then tH K W0 de σ1 H3 fun y H4 => ∃ ac, H4 D0 = some (.lst ac) ∧ ac.length < sizeLine ∧ Nx (upd H4 D0 (.lst (ac ++ [y]))) else Nx H3 := by
  rw [mbind_assoc] at q
  have dn' : ∀ {G3 as3 H3 Ga asa Ha}, Le Ga asa Ha G3 as3 H3 → Ha D0 = some (.lst xs) → D0 ∉ asa → Ga D0 = none → D0 ∉ as3 ∧ G3 D0 = none ∧ H3 D0 = some (.lst xs) := fun {G3 as3 H3 Ga asa Ha} l e1 e2 e3 =>
    ⟨fun z => (l.new D0 z).elim e2 (fun q => by rw [e1] at q; cases q), l.free D0 e3 (by rw [e1]; simp) e2, l.h D0 _ e1 e2⟩
  refine ⟨G, as, ρ1, S, t, o1, tR.nox q fun c G3 as3 S3 H3 t3 l3 q3 => ?_⟩
  obtain ⟨dn3, dg3, dh3⟩ := dn' l3 dh dn dg
  cases c with
  | false => exact hN G3 as3 S3 H3 xs acc t3 (lb.trans l3) l3.ad dn3 dg3 dh3 (rx.le l3) q3
  | true =>
    rw [if_pos rfl]
    rw [if_pos rfl, mbind_assoc] at q3
    refine ⟨G3, as3, ρ1, S3, t3, o1.le l3, tR.nox q3 fun x G4 as4 S4 H4 t4 l4 q4 v rv => ?_⟩
    obtain ⟨dn4, dg4, dh4⟩ := dn' l4 dh3 dn3 dg3
    rw [mbind_assoc] at q4
    have q5 : tF K W σ Gb asb S4 Hb (mbind R fun r => allocL b ((acc ++ [x]) ++ r)) Q := by
      have : (fun a => mbind (mret (x :: a)) fun r => allocL b (acc ++ r)) = fun r => allocL b ((acc ++ [x]) ++ r) := by
        funext a
        show allocL b (acc ++ x :: a) = _
        rw [List.append_assoc]
        rfl
      rw [← this]
      exact q4
    have ra := (rx.le l3).le l4
    have hz := hlen q5
    rw [List.length_append, List.length_singleton] at hz
    exact ⟨xs, dh4, by rw [sizeLine_eq, ra.len]; omega, hN G4 as4 S4 _ (xs ++ [v]) (acc ++ [x]) (t4.aside dn4 dg4) (((lb.trans l3).trans l4).aside hb0) (fun m a e => l4.ad m a (l3.ad m a e)) dn4 dg4 upd_same (ra.append (.cons rv .nil)) q5⟩
end
section
variable {X : Cx} {W : WX} {elt tg iter : Expr} {ifs : List Expr} {scope : Scope} {own : List (Str × Nat)} {pos : Pos} {dl : Den} {bd : Bd} {td : TD} {de : Den}
theorem lcC_q {K : PySem.W.Frag} {b : Bool} {vs : List Nat} {n k0 : Nat} {a : Addr} {ρ : Env} (hw : ∀ i ∈ bd.vs, i ∈ vs) {σ : L2.St} {G1 H1 : Hp} {as1 : List Addr} {S1 : Store} {Q : VK} {D : Addr} (t1 : Ht K G1 as1 S1 H1) (e1 : EnvOk K G1 as1 σ ρ) (ea : as1[n]? = some a) (hD : H1 D = none)
    (q1 : tF K W σ G1 as1 S1 H1 (mbind (lcC n bd td de (wipeE ρ vs) k0 0) (allocL b)) Q) :
    ∃ Wv : Nat → Nat → Hp → Prop, (∃ m, Wv 0 m (upd H1 D (.lst []))) ∧ ∀ i m H, Wv i m H →
      ((Itl K a).stop i H ∧ Q (.ref D) H) ∨ ((Itl K a).go i H ∧ ∃ Nx : Hp → Prop, (∀ H', Nx H' → ∃ m', m' < m ∧ Wv (i + 1) m' H') ∧ ∀ x H', (Itl K a).yld i H x H' → gH K bd x (L2.wipe σ vs) H' fun σ2 H2 => L2.wipe σ2 vs = L2.wipe σ vs ∧ tHb K W0 td σ2 H2 fun c H3 =>
        if c = true then tH K W0 de σ2 H3 fun y H4 => ∃ ac, H4 D = some (.lst ac) ∧ ac.length < sizeLine ∧ Nx (upd H4 D (.lst (ac ++ [y]))) else Nx H3) := by
  refine ⟨fun i m H' => ∃ G' as' S' xs acc, Ht K G' as' S' H' ∧ Le G1 as1 H1 G' as' H' ∧ as'[n]? = some a ∧ D ∉ as' ∧ G' D = none ∧ H' D = some (.lst xs) ∧ RVs K G' as' xs acc ∧
    tF K W σ G1 as1 S' H1 (mbind (lcC n bd td de (wipeE ρ vs) m i) fun r => allocL b (acc ++ r)) Q, ⟨k0, G1, as1, S1, [], [], t1.aside (t1.notin hD) (t1.gfree hD), Le.refl.aside hD, ea, t1.notin hD, t1.gfree hD, upd_same, .nil, q1⟩, ?_⟩
  rintro i m H' ⟨G', as', S', xs, acc, t', l', ea', dn, dg, dh, rx, q'⟩
  cases m with
  | zero => exact (tR.no q').elim
  | succ k =>
    obtain ⟨r0, S2, e, h⟩ := q'
    have hcell : ∃ ds, S'[n]? = some (some (.cl ds)) := by
      rcases mb e with ⟨c, S3, e2, _⟩ | ⟨c, f, d', e2, _⟩
      · unfold lcC at e2
        split at e2
        · exact ⟨_, by assumption⟩
        · cases e2
      · unfold lcC at e2
        split at e2
        · exact ⟨_, by assumption⟩
        · cases e2
    obtain ⟨ds, hq⟩ := hcell
    obtain ⟨ys, hy, ry⟩ := tyL t' ea' hq
    cases hd : ds[i]? with
    | none =>
      have eL : lcC n bd td de (wipeE ρ vs) (k + 1) i S' = some (.ok [], S') := by
        unfold lcC
        rw [hq]
        dsimp only
        rw [hd]
      have q2 : tF K W σ G1 as1 S' H1 (allocL b acc) Q := by
        refine ⟨r0, S2, ?_, h⟩
        unfold mbind at e
        rw [eL] at e
        dsimp only at e
        rw [List.append_nil] at e
        exact e
      exact .inl ⟨⟨ys, .inl (.inl hy), by rw [ry.len]; exact List.getElem?_eq_none_iff.mp hd⟩, lc_end q2 t' l' rx hD dn dg dh⟩
    | some d =>
      obtain ⟨v, hv, rv⟩ := ry.at hd
      cases hb : bd.go d (wipeE ρ vs) with
      | none =>
        exfalso
        have eL : lcC n bd td de (wipeE ρ vs) (k + 1) i S' = none := by
          unfold lcC
          rw [hq]
          dsimp only
          rw [hd]
          dsimp only
          rw [hb]
        unfold mbind at e
        rw [eL] at e
        cases e
      | some ρ1 =>
        have q2 : tF K W σ G1 as1 S' H1 (mbind (mbind (mNox (td ρ1)) fun c => if c = true then mbind (mNox (de ρ1)) fun x => mbind (lcC n bd td de (wipeE ρ vs) k (i + 1)) fun ys => mret (x :: ys) else lcC n bd td de (wipeE ρ vs) k (i + 1)) fun r => allocL b (acc ++ r)) Q := by
          refine ⟨r0, S2, ?_, h⟩
          have eL : lcC n bd td de (wipeE ρ vs) (k + 1) i S' = (mbind (mNox (td ρ1)) fun c => if c = true then mbind (mNox (de ρ1)) fun x => mbind (lcC n bd td de (wipeE ρ vs) k (i + 1)) fun ys => mret (x :: ys) else lcC n bd td de (wipeE ρ vs) k (i + 1)) S' := by
            conv => lhs; unfold lcC
            rw [hq]
            dsimp only
            rw [hd]
            dsimp only
            rw [hb]
          rw [← e]
          unfold mbind
          unfold mbind at eL
          rw [eL]
        refine .inr ⟨⟨ys, v, .inl (.inl hy), hv⟩, fun H3 => ∃ G3 as3 S3 xs3 acc3, Ht K G3 as3 S3 H3 ∧ Le G1 as1 H1 G3 as3 H3 ∧ as3[n]? = some a ∧ D ∉ as3 ∧ G3 D = none ∧ H3 D = some (.lst xs3) ∧ RVs K G3 as3 xs3 acc3 ∧
          tF K W σ G1 as1 S3 H1 (mbind (lcC n bd td de (wipeE ρ vs) k (i + 1)) fun r => allocL b (acc3 ++ r)) Q, fun H3 z => ⟨k, Nat.lt_succ_self k, z⟩, fun x H2 y => ?_⟩
        obtain ⟨rfl, y⟩ := y
        have ex : x = v := by
          have := y ys (.inl (.inl hy))
          rw [hv] at this
          exact (Option.some.inj this).symm
        subst ex
        refine ⟨G', as', S', wipeE ρ vs, d, ρ1, t', (e1.wipe vs).le l', rv, hb, fun σ1 c1 o1 => ⟨chg_wipe c1 hw, ?_⟩⟩
        exact lc_turn t' l' dn dg dh hD rx o1 q2 (fun z => lcC_len z) fun G3 as3 S3 H3 xs3 acc3 t3 l3 ad3 z1 z2 z3 z4 z5 => ⟨G3, as3, S3, xs3, acc3, t3, l3, ad3 _ _ ea', z1, z2, z3, z4, z5⟩
/-- the settled kinds, as in eh_lc -/
theorem lcX_q {b : Bool} {vs : List Nat} {ds : List D} {J : It} {ρ : Env} (hw : ∀ i ∈ bd.vs, i ∈ vs) {σ : L2.St} {G1 H1 : Hp} {as1 : List Addr} {S1 : Store} {Q : VK} {D0 : Addr} (t1 : Ht X.K G1 as1 S1 H1) (e1 : EnvOk X.K G1 as1 σ ρ) (wk : WalkD X.K J G1 as1 ds) (hD : H1 D0 = none)
    (q1 : tF X.K W σ G1 as1 S1 H1 (mbind (lcX bd td de (wipeE ρ vs) ds) (allocL b)) Q) :
    ∃ Wv : Nat → Nat → Hp → Prop, (∃ m, Wv 0 m (upd H1 D0 (.lst []))) ∧ ∀ i m H, Wv i m H →
      (J.stop i H ∧ Q (.ref D0) H) ∨ (J.go i H ∧ ∃ Nx : Hp → Prop, (∀ H', Nx H' → ∃ m', m' < m ∧ Wv (i + 1) m' H') ∧ ∀ x H', J.yld i H x H' → gH X.K bd x (L2.wipe σ vs) H' fun σ2 H2 => L2.wipe σ2 vs = L2.wipe σ vs ∧ tHb X.K W0 td σ2 H2 fun c H3 =>
        if c = true then tH X.K W0 de σ2 H3 fun y H4 => ∃ ac, H4 D0 = some (.lst ac) ∧ ac.length < sizeLine ∧ Nx (upd H4 D0 (.lst (ac ++ [y]))) else Nx H3) := by
  refine lc_it wk (fun i H' => ∃ G' as' S' xs acc, Ht X.K G' as' S' H' ∧ Le G1 as1 H1 G' as' H' ∧ D0 ∉ as' ∧ G' D0 = none ∧ H' D0 = some (.lst xs) ∧ RVs X.K G' as' xs acc ∧
    tF X.K W σ G1 as1 S' H1 (mbind (lcX bd td de (wipeE ρ vs) (ds.drop i)) fun r => allocL b (acc ++ r)) Q) ?_ ?_ ?_ ?_
  · exact ⟨G1, as1, S1, [], [], t1.aside (t1.notin hD) (t1.gfree hD), Le.refl.aside hD, t1.notin hD, t1.gfree hD, upd_same, .nil, q1⟩
  · rintro i H' _ ⟨G', as', S', xs, acc, t', l', _⟩
    exact l'.g.trans t'.sub
  · rintro i x H' H2 hi ⟨G', as', S', xs, acc, t', l', dn, dg, dh, rx, q'⟩ y
    have hd : ds[i]? = some ds[i] := List.getElem?_eq_getElem hi
    obtain ⟨G2, t2, l2, r2⟩ := y G' as' S' ds[i] t' l'.g l'.ad hd
    rw [drop_cons hi] at q'
    unfold lcX at q'
    cases hb : bd.go ds[i] (wipeE ρ vs) with
    | none =>
      rw [hb] at q'
      exact (tR.no q').elim
    | some ρ1 =>
      rw [hb] at q'
      dsimp only at q'
      have dn2 : D0 ∉ as' := dn
      have dg2 : G2 D0 = none := l2.free D0 dg (by rw [dh]; simp) dn
      have dh2 : H2 D0 = some (.lst xs) := l2.h D0 _ dh dn
      refine ⟨G2, as', S', wipeE ρ vs, ds[i], ρ1, t2, ((e1.wipe vs).le l').le l2, r2, hb, fun σ1 c1 o1 => ⟨chg_wipe c1 hw, ?_⟩⟩
      exact lc_turn t2 (l'.trans l2) dn2 dg2 dh2 hD (rx.le l2) o1 q' (fun z => lc_len z) fun G3 as3 S3 H3 xs3 acc3 t3 l3 ad3 z1 z2 z3 z4 z5 => ⟨G3, as3, S3, xs3, acc3, t3, l3, z1, z2, z3, z4, z5⟩
  · rintro H' ⟨G', as', S', xs, acc, t', l', dn, dg, dh, rx, q'⟩
    rw [List.drop_length] at q'
    unfold lcX at q'
    rw [mbind_ret, List.append_nil] at q'
    exact lc_end q' t' l' rx hD dn dg dh
theorem lcAQ {b : Bool} {vs : List Nat} (hw : ∀ i ∈ bd.vs, i ∈ vs) {σ : L2.St} {H : Hp} {Q : VK} (h : tH X.K W (dLcA b vs dl bd td de) σ H Q) : tLc (iAny X.K (tH X.K W dl)) (gH X.K bd) (tHb X.K W0 td) (tH X.K W0 de) vs σ H Q := by
  obtain ⟨G, as, ρ, S, t, eo, q⟩ := h
  refine ⟨G, as, ρ, S, t, eo, tF.bind q fun v d G1 as1 S1 H1 t1 l1 r1 q1 => ?_⟩
  have e1 := eo.le l1
  cases r1 with
  | lst h x => exact .inl ⟨_, _, rfl, .inl (.inl (t1.sub _ _ h)), fun D hD => lcX_q hw t1 e1 (walkd_list h x) hD q1⟩
  | tup h x => exact .inr (.inl ⟨_, _, rfl, sqT_same t1.sub h, fun D hD => lcX_q hw t1 e1 (walkd_tup h x) hD q1⟩)
  | str z => exact .inr (.inr ⟨z, rfl, fun D hD => lcX_q hw t1 e1 walkd_str hD q1⟩)
  | h n ea =>
    have hc : ∃ ds, S1[n]? = some (some (.cl ds)) := by
      obtain ⟨r0, S2, e, _⟩ := q1
      rcases mb e with ⟨c, S3, e2, _⟩ | ⟨c, f, d', e2, _⟩
      · change lcC n bd td de (wipeE ρ vs) (9999 + 1) 0 S1 = _ at e2
        unfold lcC at e2
        split at e2
        · exact ⟨_, by assumption⟩
        · cases e2
      · change lcC n bd td de (wipeE ρ vs) (9999 + 1) 0 S1 = _ at e2
        unfold lcC at e2
        split at e2
        · exact ⟨_, by assumption⟩
        · cases e2
    obtain ⟨ds, hq⟩ := hc
    obtain ⟨xs, hx, rx⟩ := tyL t1 ea hq
    exact .inl ⟨_, xs, rfl, .inl (.inl hx), fun D hD => lcC_q hw t1 e1 ea hD q1⟩
  | _ => exact (tR.no q1).elim
theorem eh_lcA (b : Bool) (hc : X.calm = true) (hN : X.N.Nodup) (hi : EH X W iter dl) (ok : BlkOk X.N X.env.scope scope own) (hw : ∀ i ∈ bd.vs, i ∈ own.map (·.2))
    (hg : ∀ (s : Shared) (H : Hp) (C : Addr) (cl : List (Str × Addr)) (fp : List Addr), GH (X.blk s H scope (compEnvC scope cl C X.env) fp) tg bd)
    (ht : ∀ (s : Shared) (H : Hp) (C : Addr) (cl : List (Str × Addr)) (fp : List Addr), TsH (X.blk s H scope (compEnvC scope cl C X.env) fp) W0 ifs td)
    (he : ∀ (s : Shared) (H : Hp) (C : Addr) (cl : List (Str × Addr)) (fp : List Addr), EH (X.blk s H scope (compEnvC scope cl C X.env) fp) W0 elt de) (hs : ∀ x, foldedSetIterable iter X.env x = pure x := by intro _; rfl) :
    EH X W (.ListComp elt [⟨tg, iter, ifs, 0⟩] scope pos) (dLcA b (own.map (·.2)) dl bd td de) :=
  peI (pe_lc (g := gH X.K bd) (tt := tHb X.K W0 td) (te := tH X.K W0 de) hc hN (pi_any hi) ok hg ht he hs) fun σ H Q h => lcAQ hw h
/-- x = [..] on one line -/
theorem sh_setLcA (b : Bool) {i : Nat} {y : Str} {py spos : Pos} (hc : X.calm = true) (hN : X.N.Nodup) (hy : X.N[i]? = some y) (hyl : X.env.scope.names.lookup y = some .local) (hk : X.env.scope.kind = .function) (hl : (py.line == pos.line) = true)
    (hna : (scope.names.any fun (n, k) => n == y && (k == .local || k == .cell)) = false) (hi : EH X W iter dl) (ok : BlkOk X.N X.env.scope scope own) (hw : ∀ i ∈ bd.vs, i ∈ own.map (·.2))
    (hg : ∀ (s : Shared) (H : Hp) (C : Addr) (cl : List (Str × Addr)) (fp : List Addr), GH (X.blk s H scope (compEnvC scope cl C X.env) fp) tg bd)
    (ht : ∀ (s : Shared) (H : Hp) (C : Addr) (cl : List (Str × Addr)) (fp : List Addr), TsH (X.blk s H scope (compEnvC scope cl C X.env) fp) W0 ifs td)
    (he : ∀ (s : Shared) (H : Hp) (C : Addr) (cl : List (Str × Addr)) (fp : List Addr), EH (X.blk s H scope (compEnvC scope cl C X.env) fp) W0 elt de) (hs : ∀ x, foldedSetIterable iter X.env x = pure x := by intro _; rfl) :
    SH X W (.Assign [.Name y py] (.ListComp elt [⟨tg, iter, ifs, 0⟩] scope pos) spos) (sAsg (bN i) (dLcA b (own.map (·.2)) dl bd td de)) :=
  psI (ps_setLc (g := gH X.K bd) (tt := tHb X.K W0 td) (te := tH X.K W0 de) hc hN hy hyl (sw_true hk hyl hl hna) (pi_any hi) ok hg ht he hs) fun D σ H ⟨G, as, ρ, S, t, eo, q⟩ =>
    lcAQ (Q := fun x H1 => D.nx (σ.set i (some x)) H1) hw ⟨G, as, ρ, S, t, eo, q.liftV eo fun v d G1 as1 S1 H1 t1 l1 r1 q1 => tS.now q1 t1 _ (by rw [List.length_set]) ((eo.le l1).set r1 i)⟩
end
end L2.Hy
end
section
/-! == and != of objects with an own __eq__. -/
namespace L2.Hy
open PySem PySem.Spec PyProof.Rows
def isC (S : Store) (c : Str) (d : D) : Bool := match objD S d with
  | some (c', _) => c' == c
  | none => false
/-- a built-in type -/
def tyD (S : Store) : D → Option String
  | .non => some "NoneType"
  | .bl _ => some "bool"
  | .int _ => some "int"
  | .str _ => some "str"
  | .tup _ => some "tuple"
  | .lst _ => some "list"
  | .dct _ => some "dict"
  | .h n => match S[n]? with
    | some (some (.cl _)) => some "list"
    | some (some (.cd _)) => some "dict"
    | _ => none
  | _ => none
def fBoolN (ng : Bool) : D → Mx D
  | .bl b => mret (.bl (if ng = true then !b else b))
  | _ => mnone
def fEqO (ng : Bool) (c : Str) (F : List D → Mx D) (x y : D) : Mx D := fun S =>
  if isC S c x = true then (if (tyD S y).isSome = true ∨ isC S c y = true then mbind (mNox (F [x, y])) (fBoolN ng) S else none)
  else if isC S c y = true then (if (tyD S x).isSome = true ∧ ng = false then mbind (mNox (F [y, x])) (fBoolN false) S else none)
  else fEq ng x y S
theorem tyD_in {S : Store} {d : D} {T : String} (e : tyD S d = some T) : T ∈ (["NoneType", "bool", "int", "str", "tuple", "list", "dict"] : List String) := by
  unfold tyD at e
  split at e <;> first | (cases e; decide) | (split at e <;> first | (cases e; decide) | cases e) | cases e
section
variable {X : Cx} {K : PySem.W.Frag} {G H : Hp} {as : List Addr} {S : Store} {v : V} {d : D} {pins : List (Addr × Obj)} {σ : L2.St} {s : Shared} {u : Value}
theorem tyx_of (t : Ht K G as S H) (r : RV K G as v d) {T : String} (e : tyD S d = some T) : TyX K H v (.type T) := by
  cases r with
  | non => cases e; exact .base .non
  | bl x => cases e; exact .base (.bl x)
  | int x => cases e; exact .base (.int x)
  | str x => cases e; exact .base (.str x)
  | tup h x =>
    cases e
    rcases sqT_same t.sub h with (h | ⟨o, h⟩) | ⟨o, its, n, h, hcl, _⟩
    · exact .base (.tup h)
    · exact .fTuple h
    · exact .kTuple h hcl
  | lst h x => cases e; exact .base (.lst (t.sub _ _ h))
  | dct h x => cases e; exact .base (.dK (t.sub _ _ h))
  | h n ea =>
    unfold tyD at e
    dsimp only at e
    split at e
    · rename_i q1
      cases e
      obtain ⟨a, f1, _, xs, f2, f3⟩ := t.cell _ _ q1
      rw [ea] at f1
      cases f1
      exact .base (.lst f2)
    · rename_i q1
      cases e
      obtain ⟨a, f1, _, xs, f2, f3⟩ := t.cell _ _ q1
      rw [ea] at f1
      cases f1
      exact .base (.dK f2)
    · cases e
  | _ => cases e
theorem typeIs_of (I : Inv X pins σ H s) (rx : RelV v u) {T : String} (ty : TyX X.K H v (.type T)) : s.TypeIs u T := by
  cases ty with
  | base b =>
    cases b with
    | non => cases (show u = Value.none from rx); exact rfl
    | bl y => cases (show u = Value.bool y from rx); exact rfl
    | int i => obtain ⟨t, q⟩ := (show ∃ t, u = Value.int i t from rx); cases q; exact rfl
    | str y => obtain ⟨t, q⟩ := (show ∃ t, u = Value.str y t from rx); cases q; exact rfl
    | flt y => obtain ⟨t, q⟩ := (show ∃ t, u = Value.float y t from rx); cases q; exact rfl
    | @lst a xs ea =>
      cases (show u = Value.ref a from rx)
      obtain ⟨_, _, n, _, h1⟩ := (show ObjOk X.prog X.w H s.heap a (.lst xs) from I.hok a _ ea)
      exact ⟨_, h1, rfl⟩
    | @frz a ob xs ea =>
      cases (show u = Value.ref a from rx)
      obtain ⟨_, _, _, n, _, h1⟩ := (show ObjOk X.prog X.w H s.heap a (.frz ob (.lst xs)) from I.hok a _ ea)
      exact ⟨_, h1, rfl⟩
    | @tup a xs ea =>
      cases (show u = Value.ref a from rx)
      obtain ⟨_, _, _, o, h1, h2, _⟩ := (show ObjOk X.prog X.w H s.heap a (.tup xs) from I.hok a _ ea)
      exact ⟨o, h1, h2⟩
    | @dK a kvs ea =>
      cases (show u = Value.ref a from rx)
      obtain ⟨_, _, vs, _, o, es, ep, h1, h2, _⟩ := (show ObjOk X.prog X.w H s.heap a (.dK kvs) from I.hok a _ ea)
      exact ⟨o, h1, h2.1⟩
    | @dT a kvs ea =>
      cases (show u = Value.ref a from rx)
      obtain ⟨_, _, xs, _, o, es, ep, h1, h2, _⟩ := (show ObjOk X.prog X.w H s.heap a (.dT kvs) from I.hok a _ ea)
      exact ⟨o, h1, h2.1⟩
  | byt y => obtain ⟨t, q⟩ := (show ∃ t, u = Value.bytes y t from rx); cases q; exact rfl
  | @set a S n ea =>
    cases (show u = Value.ref a from rx)
    obtain ⟨o, _, _, _, e, ex, _⟩ := I.hok a _ ea
    exact ⟨o, e, ex.1⟩
  | @kList a o e c =>
    cases (show u = Value.ref a from rx)
    exact ⟨o, I.kIn a o e, c⟩
  | @kTuple a o e c =>
    cases (show u = Value.ref a from rx)
    exact ⟨o, I.kIn a o e, c⟩
  | @kDict a o e c =>
    cases (show u = Value.ref a from rx)
    exact ⟨o, I.kIn a o e, c⟩
  | @fTuple a ob xs ea =>
    cases (show u = Value.ref a from rx)
    obtain ⟨_, _, _, _, o, h1, h2, _⟩ := (show ObjOk X.prog X.w H s.heap a (.frz ob (.tup xs)) from I.hok a _ ea)
    exact ⟨o, h1, h2⟩
  | @fDict a ob kvs ea =>
    cases (show u = Value.ref a from rx)
    obtain ⟨_, _, _, vs, _, o, es, ep, h1, h2, _⟩ := (show ObjOk X.prog X.w H s.heap a (.frz ob (.dK kvs)) from I.hok a _ ea)
    exact ⟨o, h1, h2.1⟩
theorem typeIs_keep {s' : Shared} {T : String} (h : s.TypeIs u T) (k : ∀ b o, s.heap.get? b = some o → s'.heap.get? b = some o) : s'.TypeIs u T := by
  cases u with
  | ref a =>
    obtain ⟨o, h1, h2⟩ := h
    exact ⟨o, k _ _ h1, h2⟩
  | _ => exact h
theorem looks_ty {M : Model} {T : String} (h : s.TypeIs u T) : PySem.W.Looks M s.heap (typeOf u) (.type T) := fun A Q E s' k q => wpAny_typeOf (typeIs_keep (s := s) h k) q
/-- a built-in value answers NotImplemented to an instance -/
theorem declines_of {C f y dx : Addr} {T : String} (t : Ht X.K G as S H) (r : RV X.K G as v d) (e : tyD S d = some T) (I : Inv X pins σ H s) (rx : RelV v u) (O : OwnK X.K C f) (hy : s.heap.get? y = some (PySem.W.instObj C dx)) : Declines X.prog X.w s u T y := by
  have hT := typeIs_of I rx (tyx_of t r e)
  refine ⟨hT, ?_⟩
  have X' := I.kIn
  have sub : ∀ T, T ∈ (["NoneType", "bool", "int", "str", "tuple", "list", "dict"] : List String) → PySem.W.subIn X.K (.ref C) (.type T) = some false := O.nt
  have lst : ∀ l : Addr, T = "list" → u = .ref l → ∃ id, Slot T "__eq__" id ∧ ∀ (A : Around) (E R : Value → Shared → Prop), R .notImplemented s → wpAny (model X.prog X.w) A (call (.builtin id) [u, .ref y]) R E s := by
    rintro l rfl rfl
    exact ⟨_, PySem.F.slot_list_eq, fun A E R h => call_decl PySem.F.slot_list_eq hT PySem.F.entry_list_eq (PySem.F.args_list_eq_2 _ _) (list_decl X' hy rfl (sub _ (by decide))) h⟩
  have dct : ∀ l : Addr, T = "dict" → u = .ref l → ∃ id, Slot T "__eq__" id ∧ ∀ (A : Around) (E R : Value → Shared → Prop), R .notImplemented s → wpAny (model X.prog X.w) A (call (.builtin id) [u, .ref y]) R E s := by
    rintro l rfl rfl
    exact ⟨_, PySem.F.slot_dict_eq, fun A E R h => call_decl PySem.F.slot_dict_eq hT PySem.F.entry_dict_eq (PySem.F.args_dict_eq_2 _ _) (dict_decl X' hy rfl (sub _ (by decide)) hT) h⟩
  cases r with
  | non =>
    cases e
    cases (show u = Value.none from rx)
    exact ⟨_, PySem.F.slot_NoneType_eq, fun A E R h => call_decl PySem.F.slot_NoneType_eq hT PySem.F.entry_NoneType_eq (PySem.F.args_NoneType_eq_2 _ _) non_decl h⟩
  | bl b =>
    cases e
    cases (show u = Value.bool b from rx)
    exact ⟨_, PySem.F.slot_bool_eq, fun A E R h => call_decl PySem.F.slot_bool_eq hT PySem.F.entry_int_eq (PySem.F.args_int_eq_2 _ _) (bool_decl hy) h⟩
  | int i =>
    cases e
    obtain ⟨tk, q⟩ := (show ∃ t, u = Value.int i t from rx)
    subst q
    exact ⟨_, PySem.F.slot_int_eq, fun A E R h => call_decl PySem.F.slot_int_eq hT PySem.F.entry_int_eq (PySem.F.args_int_eq_2 _ _) (int_decl hy) h⟩
  | str x =>
    cases e
    obtain ⟨tk, q⟩ := (show ∃ t, u = Value.str x t from rx)
    subst q
    exact ⟨_, PySem.F.slot_str_eq, fun A E R h => call_decl PySem.F.slot_str_eq hT PySem.F.entry_str_eq (PySem.F.args_str_eq_2 _ _) (str_decl hy) h⟩
  | @tup a xs ds h x =>
    cases e
    cases (show u = Value.ref a from rx)
    exact ⟨_, PySem.F.slot_tuple_eq, fun A E R h => call_decl PySem.F.slot_tuple_eq hT PySem.F.entry_tuple_eq (PySem.F.args_tuple_eq_2 _ _) (tup_decl X' hy rfl (sub _ (by decide))) h⟩
  | @lst a xs ds h x =>
    cases e
    exact lst a rfl rx
  | @dct a kvs ds h x =>
    cases e
    exact dct a rfl rx
  | @h a n ea =>
    unfold tyD at e
    dsimp only at e
    split at e
    · cases e
      exact lst a rfl rx
    · cases e
      exact dct a rfl rx
    · cases e
  | _ => cases e
end
/-- the result of an own __eq__ -/
def rEqO (K : PySem.W.Frag) (ng : Bool) (c : Str) (F : List D → Mx D) : R2 := fun v w H Q => ∃ G as S x y, Ht K G as S H ∧ RV K G as v x ∧ RV K G as w y ∧ tF K W0 [] G as S H (fEqO ng c F x y) Q
theorem prEqO {K : PySem.W.Frag} {W : WX} {ng : Bool} {c : Str} {F : List D → Mx D} : Prim2 K W (rEqO K ng c F) (fEqO ng c F) := fun σ G as S H x y v w Q t rx ry q => by
  refine ⟨G, as, S, x, y, t, rx, ry, ?_⟩
  obtain ⟨r, S', e, h⟩ := q
  cases r with
  | ok a => exact ⟨_, _, e, h⟩
  | ex c' f d =>
    exfalso
    have nox : ∀ (m : Mx D) (ng : Bool) (S : Store) (c' f : Str) (d : D) (S' : Store), mbind (mNox m) (fBoolN ng) S ≠ some (.ex c' f d, S') := by
      intro m ng S c' f d S' z
      unfold mbind mNox at z
      cases hm : m S with
      | none => rw [hm] at z; cases z
      | some p =>
        obtain ⟨r0, S1⟩ := p
        rw [hm] at z
        cases r0 with
        | ok a => cases a <;> cases z
        | ex c f d => cases z
    unfold fEqO at e
    split at e
    · split at e
      · exact nox _ _ _ _ _ _ _ e
      · cases e
    · split at e
      · split at e
        · exact nox _ _ _ _ _ _ _ e
        · cases e
      · unfold fEq mOf at e
        obtain ⟨z, e1, e2⟩ := Option.map_eq_some_iff.mp e
        cases e2
section
variable {X : Cx} {ng : Bool} {c : Str} {F : List D → Mx D} {k : Nat} {f : Addr} {fd : FuncData} {ps : List Str}
/-- where the class c with an own == stands -/
structure OwnEqK (P : Program) (w : World) (K : PySem.W.Frag) (mg : Str → Option Value) (base : Heap) (c : Str) (k : Nat) (F : List D → Mx D) : Prop where
  cl : Cls K (He.ga K c)
  ex : ∃ (f : Addr) (fd : FuncData) (ps : List Str), FnX P w K mg base k f fd ps (spH K ps.length F) ∧ OwnK K (He.ga K c) f ∧ Binds K fd ps [] ∧ ps.length = 2
theorem Quiet.in1 {k : Nat} {A : Around} (q : Xv.Quiet (k + 1) A) : Xv.Quiet k A.in1 := ⟨q.1.in1, q.2⟩
theorem isC_of {K : PySem.W.Frag} {G H : Hp} {as : List Addr} {S : Store} {v : V} {d : D} (t : Ht K G as S H) (r : RV K G as v d) (e : isC S c d = true) : ∃ a dx xs, v = .ref a ∧ H a = some (.ins (He.ga K c) dx xs) := by
  unfold isC at e
  split at e
  · rename_i c' fs e2
    obtain rfl : c' = c := by simpa using e
    obtain ⟨a, dx, xs, e1, e2, _⟩ := t.obj r e2
    exact ⟨a, dx, xs, e1, e2⟩
  · cases e
theorem call_own {A : Around} {pins : List (Addr × Obj)} {σ : L2.St} {H : Hp} {s : Shared} {u1 u2 : Value} {v1 v2 : V} {Q : VK} {R : Value → Shared → Prop} (Fx : FnX X.prog X.w X.K X.mg X.base k f fd ps (spH X.K ps.length F)) (hb : Binds X.K fd ps []) (hl : ps.length = 2) (q : Xv.Quiet k A) (hA : A.frames = X.A.frames) (I : Inv X pins σ H s) (r1 : RelV v1 u1) (r2 : RelV v2 u2)
    (h : spH X.K ps.length F [v1, v2] H Q fun _ _ _ => False) (hR : ∀ u s', EP X pins σ Q u s' → R u s') : wpAny (model X.prog X.w) A (call (.ref f) [u1, u2]) R X.xe s := by
  have rr : Vals [v1, v2] [u1, u2] := .cons r1 (.cons r2 .nil)
  have e0 : Env0 X.prog X.w X.K X.mg X.base A X.stack s H := by
    have e := I.env0
    exact ⟨by rw [hA]; exact e.frames, e.mod, e.bs, e.bsz, e.funs, e.frf, e.hok, e.bare⟩
  refine wpAny_call (codeAny_mono (Fx.go q e0 (by have := hb s [u1, u2] I.kIn (by simp [hl]); simpa using this) rr h) ?_)
  rintro (er | fl) s' z
  · obtain ⟨a, B, H', cls, d, _, _, _, _, _, _, _, hE⟩ := z
    exact hE.elim
  · cases fl with
    | ret u => exact hR _ _ (I.after z)
    | _ => exact False.elim z
/-- what fEqO tells at a call of the own __eq__ -/
theorem own_run {K : PySem.W.Frag} {G H : Hp} {as : List Addr} {S : Store} {n : Nat} {v1 v2 : V} {x y : D} {Q : VK} (t : Ht K G as S H) (r1 : RV K G as v1 x) (r2 : RV K G as v2 y) (hn : n = 2) (q : tF K W0 [] G as S H (mbind (mNox (F [x, y])) (fBoolN ng)) Q) :
    spH K n F [v1, v2] H (fun v H' => ∃ b, v = .bl b ∧ Q (.bl (if ng = true then !b else b)) H') fun _ _ _ => False := by
  refine ⟨hn.symm, G, as, S, [x, y], t, .cons r1 (.cons r2 .nil), ?_⟩
  obtain ⟨r, S', e, h⟩ := q
  unfold mbind mNox at e
  cases hm : F [x, y] S with
  | none => rw [hm] at e; cases e
  | some p =>
    obtain ⟨r0, S1⟩ := p
    rw [hm] at e
    cases r0 with
    | ex c f d => cases e
    | ok a =>
      refine ⟨.ok a, S1, hm, fun G' as' H' t' l' v rv => ?_⟩
      cases a with
      | bl b =>
        cases e
        cases rv
        exact ⟨b, rfl, h G' as' H' t' l' _ (.bl _)⟩
      | _ => cases e
theorem op_eqO (O : OwnEqK X.prog X.w X.K X.mg X.base c k F) (q : Xv.Quiet k X.A) (hu : X.A.units + 64 < cLine) : OpR X (compareOp .Eq) (rEqO X.K false c F) := by
  intro pins s σ H v w u1 u2 Q I rv rw_ ⟨G, as, S, x, y, t, rx, ry, h⟩
  obtain ⟨f, fd, ps, Fx, ok, hb, hl⟩ := O.ex
  show wpAny (model X.prog X.w) X.A (richCompare .Eq u1 u2) (EP X pins σ Q) X.xe s
  obtain ⟨r, S', e, hh⟩ := h
  unfold fEqO at e
  split at e
  · rename_i hx
    split at e
    · rename_i hy
      obtain ⟨a, dx, xs, rfl, ha⟩ := isC_of t rx hx
      obtain rfl : u1 = Value.ref a := rv
      obtain ⟨mA, J, _⟩ := ins_get I.hok ha
      obtain ⟨od, J, _⟩ := J.look
      have tb : ∃ tb, PySem.W.Looks (model X.prog X.w) s.heap (typeOf u2) tb ∧ PySem.W.notFirst X.K (He.ga X.K c) tb = true := by
        by_cases hy2 : isC S c y = true
        · obtain ⟨b, dy, ys, rfl, hb'⟩ := isC_of t ry hy2
          obtain rfl : u2 = Value.ref b := rw_
          obtain ⟨mB, J', _⟩ := ins_get I.hok hb'
          obtain ⟨od', J', _⟩ := J'.look
          exact ⟨_, J'.type, by simp [PySem.W.notFirst]⟩
        · obtain ⟨T, e1⟩ := Option.isSome_iff_exists.mp (hy.resolve_right hy2)
          have hT := typeIs_of I rw_ (tyx_of t ry e1)
          exact ⟨_, looks_ty hT, by simp [PySem.W.notFirst, ok.nf T (tyD_in e1)]⟩
      obtain ⟨tb, lk, nf⟩ := tb
      refine PySem.W.cmp_K (op := .Eq) (tb := tb) (by omega) (I.fr).choose_spec I.ok.mod.kin J lk nf ok.eq ok.fn ?_
      refine call_own Fx hb hl q rfl I (v1 := .ref a) rfl rw_ (own_run (ng := false) t rx ry hl ⟨r, S', e, hh⟩) fun u s' z => ?_
      obtain ⟨v', H', I', rv', b, rfl, z⟩ := z
      cases rv'
      exact ⟨.bl _, H', I', rfl, z⟩
    · cases e
  · split at e
    · rename_i hy
      split at e
      · rename_i hx
        obtain ⟨b, dy, ys, rfl, hb'⟩ := isC_of t ry hy
        obtain rfl : u2 = Value.ref b := rw_
        obtain ⟨mB, J, _⟩ := ins_get I.hok hb'
        have hyo := J.1
        obtain ⟨od, J, _⟩ := J.look
        obtain ⟨T, e1⟩ := Option.isSome_iff_exists.mp hx.1
        refine rc_ownR I.kIn ok (tyD_in e1) J (declines_of t rx e1 I rv ok hyo) (by omega) ?_
        refine call_own Fx hb hl q rfl I (v1 := .ref b) rfl rv (own_run (ng := false) t ry rx hl ⟨r, S', e, hh⟩) fun u s' z => ?_
        obtain ⟨v', H', I', rv', b, rfl, z⟩ := z
        cases rv'
        exact ⟨.bl _, H', I', rfl, z⟩
      · cases e
    · have h2 : tF X.K W0 [] G as S H (fEq false x y) Q := ⟨r, S', e, hh⟩
      exact op_eqD hu pins s σ H v w u1 u2 Q I rv rw_ (prEq (W := W0) [] G as S H x y v w Q t rx ry h2)
theorem op_neO (O : OwnEqK X.prog X.w X.K X.mg X.base c k F) (q : Xv.Quiet (k + 1) X.A) (hu : X.A.units + 64 < cLine) : OpR X (compareOp .NotEq) (rEqO X.K true c F) := by
  intro pins s σ H v w u1 u2 Q I rv rw_ ⟨G, as, S, x, y, t, rx, ry, h⟩
  obtain ⟨f, fd, ps, Fx, ok, hb, hl⟩ := O.ex
  show wpAny (model X.prog X.w) X.A (richCompare .NotEq u1 u2) (EP X pins σ Q) X.xe s
  obtain ⟨r, S', e, hh⟩ := h
  unfold fEqO at e
  split at e
  · rename_i hx
    split at e
    · rename_i hy
      obtain ⟨a, dx, xs, rfl, ha⟩ := isC_of t rx hx
      obtain rfl : u1 = Value.ref a := rv
      obtain ⟨mA, J, _⟩ := ins_get I.hok ha
      obtain ⟨od, J, _⟩ := J.look
      have tb : ∃ tb, PySem.W.Looks (model X.prog X.w) s.heap (typeOf u2) tb ∧ PySem.W.notFirst X.K (He.ga X.K c) tb = true := by
        by_cases hy2 : isC S c y = true
        · obtain ⟨b, dy, ys, rfl, hb'⟩ := isC_of t ry hy2
          obtain rfl : u2 = Value.ref b := rw_
          obtain ⟨mB, J', _⟩ := ins_get I.hok hb'
          obtain ⟨od', J', _⟩ := J'.look
          exact ⟨_, J'.type, by simp [PySem.W.notFirst]⟩
        · obtain ⟨T, e1⟩ := Option.isSome_iff_exists.mp (hy.resolve_right hy2)
          have hT := typeIs_of I rw_ (tyx_of t ry e1)
          exact ⟨_, looks_ty hT, by simp [PySem.W.notFirst, ok.nf T (tyD_in e1)]⟩
      obtain ⟨tb, lk, nf⟩ := tb
      refine rc_neL I.kIn ok J lk nf (by omega) ?_
      refine call_own (A := X.A.in1) Fx hb hl (Quiet.in1 q) rfl I (v1 := .ref a) rfl rw_ (own_run (ng := true) t rx ry hl ⟨r, S', e, hh⟩) fun u s' z => ?_
      obtain ⟨v', H', I', rv', b, rfl, z⟩ := z
      cases rv'
      exact ⟨b, rfl, .bl _, H', I', rfl, z⟩
    · cases e
  · split at e
    · split at e
      · rename_i hx
        exact absurd hx.2 (by simp)
      · cases e
    · have h2 : tF X.K W0 [] G as S H (fEq true x y) Q := ⟨r, S', e, hh⟩
      exact op_neD hu pins s σ H v w u1 u2 Q I rv rw_ (prNe (W := W0) [] G as S H x y v w Q t rx ry h2)
variable {W : WX} {a b : Expr} {da db : Den} {pos : Pos} {j : Nat}
theorem eh_eqO (hu : X.A.units + 64 < cLine) (O : OwnEqK X.prog X.w X.K X.mg X.base c j F) (q : Xv.Quiet k X.A) (hj : j ≤ k) (ha : EH X W a da) (hb : EH X W b db) (hm : behindInMarks .Eq b = false := by rfl) : EH X W (.Compare a [.Eq] [b] pos) (d2 (fEqO false c F) da db) := eh_cmp (op_eqO O (q.mono hj) hu) prEqO ha hb hm
theorem eh_neO (hu : X.A.units + 64 < cLine) (O : OwnEqK X.prog X.w X.K X.mg X.base c j F) (q : Xv.Quiet k X.A) (hj : j + 1 ≤ k) (ha : EH X W a da) (hb : EH X W b db) (hm : behindInMarks .NotEq b = false := by rfl) : EH X W (.Compare a [.NotEq] [b] pos) (d2 (fEqO true c F) da db) := eh_cmp (op_neO O (q.mono hj) hu) prEqO ha hb hm
theorem th_eqO (hu : X.A.units + 64 < cLine) (O : OwnEqK X.prog X.w X.K X.mg X.base c j F) (q : Xv.Quiet k X.A) (hj : j ≤ k) (ha : EH X W a da) (hb : EH X W b db) (hm : behindInMarks .Eq b = false := by rfl) : TH X W (.Compare a [.Eq] [b] pos) (dBool (d2 (fEqO false c F) da db)) := th_cmp (op_eqO O (q.mono hj) hu) prEqO ha hb hm
theorem th_neO (hu : X.A.units + 64 < cLine) (O : OwnEqK X.prog X.w X.K X.mg X.base c j F) (q : Xv.Quiet k X.A) (hj : j + 1 ≤ k) (ha : EH X W a da) (hb : EH X W b db) (hm : behindInMarks .NotEq b = false := by rfl) : TH X W (.Compare a [.NotEq] [b] pos) (dBool (d2 (fEqO true c F) da db)) := th_cmp (op_neO O (q.mono hj) hu) prEqO ha hb hm
end
end L2.Hy
end
section
/-! From the head of a program to what its texts lean on. -/
namespace L2.Hy
open PySem PySem.Spec PyProof.Rows L2.Xv He
/-! ### checks of what is written -/
def clsChk (K : PySem.W.Frag) (C : Addr) : Bool := PySem.W.plainGet K C Str.empty && (PySem.W.hasDictIn K C && (PySem.W.plainOver K C && (ooB (PySem.W.findIn K (.ref C) "__setattr__") "object.__setattr__" && (ooB (PySem.W.findIn K (.ref C) "__class__") "object.__class__" && isO (PySem.W.mroIn K C (.type "object")) (some true)))))
theorem clsChk_ok {K : PySem.W.Frag} {C : Addr} (h : clsChk K C = true) : Cls K C ∧ PySem.W.findIn K (.ref C) "__class__" = some (some (.builtin "object.__class__")) ∧ PySem.W.mroIn K C (.type "object") = some true := by
  obtain ⟨h1, h⟩ := ba h
  obtain ⟨h2, h⟩ := ba h
  obtain ⟨h3, h⟩ := ba h
  obtain ⟨h4, h⟩ := ba h
  obtain ⟨h5, h6⟩ := ba h
  exact ⟨⟨h1, h2, h3, ooB_ok h4⟩, ooB_ok h5, isO_ok h6⟩
def mkChk (K : PySem.W.Frag) (C : Addr) : Bool := PySem.W.makesIn K C && (ooR (PySem.W.findIn K (.ref C) "__init__") (ma K C "__init__") && (PySem.W.isFn K (.ref (ma K C "__init__")) && PySem.W.keepIn K (.ref C)))
theorem mkChk_ok {K : PySem.W.Frag} {C : Addr} (h : mkChk K C = true) : Mk K C (ma K C "__init__") := by
  obtain ⟨h1, h⟩ := ba h
  obtain ⟨h2, h⟩ := ba h
  obtain ⟨h3, h4⟩ := ba h
  exact ⟨h1, ooR_ok h2, h3, h4⟩
def methChk (K : PySem.W.Frag) (C : Addr) (m : Str) : Bool := ooR (PySem.W.findIn K (.ref C) m) (ma K C m) && (PySem.W.isFn K (.ref (ma K C m)) && PySem.W.keepIn K (.ref (ma K C m)))
theorem methChk_ok {K : PySem.W.Frag} {C : Addr} {m : Str} (h : methChk K C m = true) : Meth K C m (ma K C m) := by
  obtain ⟨h1, h⟩ := ba h
  obtain ⟨h2, h3⟩ := ba h
  exact ⟨ooR_ok h1, h2, h3⟩
def kinds7 : List String := ["NoneType", "bool", "int", "str", "tuple", "list", "dict"]
def ownChk (K : PySem.W.Frag) (C : Addr) : Bool := methChk K C "__eq__" && (ooB (PySem.W.findIn K (.ref C) "__ne__") "object.__ne__" && ((kinds7.all fun T => isO (PySem.W.subIn K (.type T) (.ref C)) (some false)) && ((kinds7.all fun T => isO (PySem.W.subIn K (.ref C) (.type T)) (some false)) && isO (PySem.W.subIn K (.ref C) (.type "object")) (some true))))
theorem ownChk_ok {K : PySem.W.Frag} {C : Addr} (h : ownChk K C = true) : OwnK K C (ma K C "__eq__") := by
  obtain ⟨h1, h⟩ := ba h
  obtain ⟨h2, h⟩ := ba h
  obtain ⟨h3, h⟩ := ba h
  obtain ⟨h4, h5⟩ := ba h
  have m := methChk_ok h1
  exact ⟨m.at_, m.fn, ooB_ok h2, fun T hT => isO_ok (List.all_eq_true.mp h3 T hT), fun T hT => isO_ok (List.all_eq_true.mp h4 T hT), isO_ok h5⟩
def noChk (K : PySem.W.Frag) (C : Addr) (f : Str) : Bool := ooN (PySem.W.findIn K (.ref C) f)
theorem noChk_ok {K : PySem.W.Frag} {C : Addr} {f : Str} (h : noChk K C f = true) : NoAttr K C f := ooN_ok h
/-- a constant of the module that is no object -/
def conChk (K : PySem.W.Frag) (x : Str) (v : V) : Bool := match PySem.W.nsIn K mainGlobals x with
  | some (some u) => relB v u
  | _ => false
theorem conChk_ok {K : PySem.W.Frag} {h : Heap} {mg : Str → Option Value} (X : K.In h) (G : h.Ns mainGlobals mg) {x : Str} {v : V} (c : conChk K x v = true) : ∃ u, mg x = some u ∧ RelV v u := by
  unfold conChk at c
  split at c
  · rename_i u e
    exact ⟨u, PySem.W.mg_of X G e, relB_ok c⟩
  · cases c
/-- an error class raised by c(e), its field f -/
def raiseChk (K : PySem.W.Frag) (c : Str) : Bool := gloB K c && (xclsB K (ga K c) && (initB K (ga K c) && isO (PySem.W.subIn K (.ref (ga K c)) (.type "BaseException")) (some true)))
theorem raiseChk_ok {P : Program} {w : World} {K : PySem.W.Frag} {h base : Heap} {mg : Str → Option Value} (X : K.In h) (G : h.Ns mainGlobals mg) {c f : Str} (k : raiseChk K c = true) (i : ∃ fd, Ini P w K mg base (ga K c) f (ma K (ga K c) "__init__") fd) : RaiseK P w K mg base c f := by
  obtain ⟨h1, k⟩ := ba k
  obtain ⟨h2, k⟩ := ba k
  obtain ⟨h3, h4⟩ := ba k
  obtain ⟨fd, i⟩ := i
  have xc := xclsB_ok h2
  exact ⟨xc.ox, gloB_ok X G h1, ⟨isO_ok h4, xc.ox.tyC⟩, _, fd, ooR_ok (ba h3).1, isV_ok (ba h3).2, i⟩
section
variable {P : Program} {w : World} {K : PySem.W.Frag} {mg : Str → Option Value} {base : Heap} {f : Addr} {fd : FuncData} {ps : List Str} {sp : Sp} {k n : Nat} {x qual c m : Str} {params : Arguments} {body : List Stmt} {scope : Scope} {F : List D → Mx D} {kws : List (Str × V)}
abbrev BindsN (x qual : Str) (params : Arguments) (body : List Stmt) (scope : Scope) (ps : List Str) : Prop := ∀ (kV doc pm : Value) (an : Option Addr) (cdv ct : Value) (us : List Value), us.length = ps.length → bindArgs (PySem.W.fnOf x qual params body scope .none kV doc pm an cdv ct) ⟨us, []⟩ = pure (ps.zip us)
theorem binds_n (Fd : FunD K x qual params body scope [] kws f fd) (h : BindsN x qual params body scope ps) : Binds K fd ps [] := fun s us _ hl => by
  rw [List.append_nil] at hl ⊢
  exact Fd.bindsA h s us hl
theorem cal_mk (Fd : FunD K x qual params body scope [] kws (ga K x) fd) (hg : mg x = some (.ref (ga K x))) (Fx : FnX P w K mg base k (ga K x) fd ps (spH K ps.length F)) (h : BindsN x qual params body scope ps) (hn : ps.length = n) : Cal P w K mg base x k n [] F :=
  ⟨_, fd, ps, [], [], Fx, hg, Fd.kp, binds_n Fd h, .nil, fun _ _ => .nil, hn⟩
theorem mal_mk (cl : Cls K (ga K c)) (hm : Meth K (ga K c) m (ma K (ga K c) m)) (Fd : FunD K x qual params body scope [] kws (ma K (ga K c) m) fd) (Fx : FnX P w K mg base k (ma K (ga K c) m) fd ps (spH K ps.length F)) (h : BindsN x qual params body scope ps) (hn : ps.length = n) : Mal P w K mg base c m k n [] F :=
  ⟨cl, _, fd, ps, [], [], Fx, hm, binds_n Fd h, .nil, fun _ _ => .nil, hn⟩
theorem kal_mk (hg : mg c = some (.ref (ga K c))) (hm : Mk K (ga K c) (ma K (ga K c) "__init__")) (Fd : FunD K x qual params body scope [] kws (ma K (ga K c) "__init__") fd) (Fx : FnX P w K mg base k (ma K (ga K c) "__init__") fd ps (spH K ps.length F)) (h : BindsN x qual params body scope ps) (hn : ps.length = n) : Kal P w K mg base c k n [] F :=
  ⟨hg, _, fd, ps, [], [], Fx, hm, binds_n Fd h, .nil, fun _ _ => .nil, hn⟩
theorem own_mk (cl : Cls K (ga K c)) (hm : OwnK K (ga K c) (ma K (ga K c) "__eq__")) (Fd : FunD K x qual params body scope [] kws (ma K (ga K c) "__eq__") fd) (Fx : FnX P w K mg base k (ma K (ga K c) "__eq__") fd ps (spH K ps.length F)) (h : BindsN x qual params body scope ps) (hn : ps.length = 2) : OwnEqK P w K mg base c k F :=
  ⟨cl, _, fd, ps, Fx, hm, binds_n Fd h, hn⟩
theorem FnX.toQ (Fx : FnX P w K mg base k f fd ps sp) : Xv.FnQ P w K mg base k f fd ps (fun vs H Q _ => sp vs H Q fun _ _ _ => False) := by
  refine ⟨fun vs H Q E h => Fx.num _ _ _ _ h, ?_⟩
  intro A outer s H args us vs Q E q e b v h
  refine codeAny_mono (Fx.go q e b v h) fun r s' z => ?_
  cases r with
  | error er =>
    obtain ⟨a, B, H', cls, d, _, _, _, _, _, _, _, hE⟩ := z
    exact hE.elim
  | ok fl => cases fl <;> exact z
/-- what the law's def is asked -/
theorem law_sp {K : PySem.W.Frag} {F : List D → Mx D} {H : Hp} {a : Addr} {ns : List Int} (hS : SqL K H a (ns.map V.int)) (h : ∃ S', F [.scr ns] [] = some (.ok (.bl true), S')) : spH K 1 F [.ref a] H (fun v _ => v = .bl true) fun _ _ _ => False := by
  obtain ⟨S', e⟩ := h
  refine ⟨rfl, H, [], [], [.scr ns], ⟨Same.refl H, rfl, List.nodup_nil, fun _ h => absurd h List.not_mem_nil, fun n c e => by simp at e⟩, .cons (.scr hS) .nil, _, _, e, fun G' as' H' t l v r => ?_⟩
  cases r
  rfl
end
/-- what isinstance tells: a table -/
abbrev KTab := List (Tg × Tg × Bool)
def tgB : Tg → Tg → Bool
  | .b a, .b b => a == b
  | .c a, .c b => a == b
  | _, _ => false
theorem tgB_ok {a b : Tg} (h : tgB a b = true) : a = b := by
  cases a <;> cases b <;> first | cases h | (congr 1; exact eq_of_beq h)
def kqOf (l : KTab) (t u : Tg) : Option Bool := (l.find? fun p => tgB p.1 t && tgB p.2.1 u).map (·.2.2)
def kqChk (K : PySem.W.Frag) (l : KTab) : Bool := l.all fun p => isO (PySem.W.kitOne K (tgV K p.1) (tgV K p.2.1)) (some p.2.2)
theorem kqChk_ok {K : PySem.W.Frag} {l : KTab} (h : kqChk K l = true) (t u : Tg) (b : Bool) (e : kqOf l t u = some b) : PySem.W.kitOne K (tgV K t) (tgV K u) = some b := by
  obtain ⟨p, e1, e2⟩ := Option.map_eq_some_iff.mp e
  have hp := List.find?_some e1
  obtain ⟨h1, h2⟩ := ba hp
  have hm := List.mem_of_find?_eq_some e1
  have := isO_ok (List.all_eq_true.mp h p hm)
  rw [tgB_ok h1, tgB_ok h2, e2] at this
  exact this
end L2.Hy
end
section
/-! A call that only looks: it runs on what the cells hold now. -/
namespace L2.Hy
open PySem PySem.Spec PyProof.Rows
mutual
def snG (r : Nat → Option D) : D → Option D
  | .non => some .non
  | .bl b => some (.bl b)
  | .int i => some (.int i)
  | .str x => some (.str x)
  | .ty n => some (.ty n)
  | .cls x => some (.cls x)
  | .nfn x => some (.nfn x)
  | .scr is => some (.scr is)
  | .tup ds => (snsG r ds).map .tup
  | .lst ds => (snsG r ds).map .lst
  | .dct ds => (snkG r ds).map .dct
  | .obj c ds => (snfG r ds).map (.obj c)
  | .exc _ _ _ => none
  | .h n => r n
def snsG (r : Nat → Option D) : List D → Option (List D)
  | [] => some []
  | d :: ds => match snG r d, snsG r ds with
    | some p, some ps => some (p :: ps)
    | _, _ => none
def snkG (r : Nat → Option D) : List (Key × D) → Option (List (Key × D))
  | [] => some []
  | (k, d) :: ds => match snG r d, snkG r ds with
    | some p, some ps => some ((k, p) :: ps)
    | _, _ => none
def snfG (r : Nat → Option D) : List (Str × D) → Option (List (Str × D))
  | [] => some []
  | (k, d) :: ds => match snG r d, snfG r ds with
    | some p, some ps => some ((k, p) :: ps)
    | _, _ => none
end
def rSn (S : Store) : Nat → Nat → Option D
  | 0, _ => none
  | n + 1, k => match S[k]? with
    | some (some (.cl ds)) => (snsG (rSn S n) ds).map .lst
    | some (some (.cd ds)) => (snkG (rSn S n) ds).map .dct
    | some (some (.ci c ds)) => (snfG (rSn S n) ds).map (.obj c)
    | _ => none
def snap (S : Store) (d : D) : Option D := if D.lo 0 d = true then some d else snG (rSn S 8) d
def snaps (S : Store) : List D → Option (List D)
  | [] => some []
  | d :: ds => match snap S d, snaps S ds with
    | some p, some ps => some (p :: ps)
    | _, _ => none
section
variable {K : PySem.W.Frag} {G H : Hp} {as : List Addr} {S : Store}
mutual
theorem snG_ok {r : Nat → Option D} (s : Same G H) (hr : ∀ k d a, r k = some d → as[k]? = some a → RV K H [] (.ref a) d) {v : V} {d d' : D} : RV K G as v d → snG r d = some d' → RV K H [] v d'
  | .non, e => by cases e; exact .non
  | .bl b, e => by cases e; exact .bl b
  | .int i, e => by cases e; exact .int i
  | .str x, e => by cases e; exact .str x
  | .ty n, e => by cases e; exact .ty n
  | .cls x, e => by cases e; exact .cls x
  | .nfn x, e => by cases e; exact .nfn x
  | .scr h, e => by cases e; exact .scr (s.seq h)
  | .tup h t, e => by
    obtain ⟨ps, e1, rfl⟩ := Option.map_eq_some_iff.mp e
    exact .tup (sqT_same s h) (snsG_ok s hr t e1)
  | .lst h t, e => by
    obtain ⟨ps, e1, rfl⟩ := Option.map_eq_some_iff.mp e
    exact .lst (s _ _ h) (snsG_ok s hr t e1)
  | .dct h t, e => by
    obtain ⟨ps, e1, rfl⟩ := Option.map_eq_some_iff.mp e
    exact .dct (s _ _ h) (snkG_ok s hr t e1)
  | .obj h t, e => by
    obtain ⟨ps, e1, rfl⟩ := Option.map_eq_some_iff.mp e
    exact .obj (s _ _ h) (snfG_ok s hr t e1)
  | .exc _ _, e => by cases e
  | .h n ea, e => hr _ _ _ e ea
theorem snsG_ok {r : Nat → Option D} (s : Same G H) (hr : ∀ k d a, r k = some d → as[k]? = some a → RV K H [] (.ref a) d) {v : List V} {d d' : List D} : RVs K G as v d → snsG r d = some d' → RVs K H [] v d'
  | .nil, e => by cases e; exact .nil
  | .cons h t, e => by
    unfold snsG at e
    split at e
    · rename_i p1 p2 e1 e2
      cases e
      exact .cons (snG_ok s hr h e1) (snsG_ok s hr t e2)
    · cases e
theorem snkG_ok {r : Nat → Option D} (s : Same G H) (hr : ∀ k d a, r k = some d → as[k]? = some a → RV K H [] (.ref a) d) {v : List (Key × V)} {d d' : List (Key × D)} : RVk K G as v d → snkG r d = some d' → RVk K H [] v d'
  | .nil, e => by cases e; exact .nil
  | .cons h t, e => by
    unfold snkG at e
    split at e
    · rename_i p1 p2 e1 e2
      cases e
      exact .cons (snG_ok s hr h e1) (snkG_ok s hr t e2)
    · cases e
theorem snfG_ok {r : Nat → Option D} (s : Same G H) (hr : ∀ k d a, r k = some d → as[k]? = some a → RV K H [] (.ref a) d) {v : List (Str × V)} {d d' : List (Str × D)} : RVf K G as v d → snfG r d = some d' → RVf K H [] v d'
  | .nil, e => by cases e; exact .nil
  | .cons h t, e => by
    unfold snfG at e
    split at e
    · rename_i p1 p2 e1 e2
      cases e
      exact .cons (snG_ok s hr h e1) (snfG_ok s hr t e2)
    · cases e
end
theorem rSn_ok (t : Ht K G as S H) : ∀ (n k : Nat) (d : D) (a : Addr), rSn S n k = some d → as[k]? = some a → RV K H [] (.ref a) d
  | 0, _, _, _, e, _ => by cases e
  | n + 1, k, d, a, e, ea => by
    unfold rSn at e
    split at e
    · rename_i ds q
      obtain ⟨ps, e1, rfl⟩ := Option.map_eq_some_iff.mp e
      obtain ⟨a', e2, _, xs, e3, e4⟩ := t.cell _ _ q
      rw [ea] at e2
      cases e2
      exact .lst e3 (snsG_ok t.sub (rSn_ok t n) e4 e1)
    · rename_i ds q
      obtain ⟨ps, e1, rfl⟩ := Option.map_eq_some_iff.mp e
      obtain ⟨a', e2, _, xs, e3, e4⟩ := t.cell _ _ q
      rw [ea] at e2
      cases e2
      exact .dct e3 (snkG_ok t.sub (rSn_ok t n) e4 e1)
    · rename_i c ds q
      obtain ⟨ps, e1, rfl⟩ := Option.map_eq_some_iff.mp e
      obtain ⟨a', e2, _, dx, xs, e3, e4⟩ := t.cell _ _ q
      rw [ea] at e2
      cases e2
      exact .obj e3 (snfG_ok t.sub (rSn_ok t n) e4 e1)
    · cases e
theorem snap_ok (t : Ht K G as S H) {v : V} {d d' : D} (r : RV K G as v d) (e : snap S d = some d') : RV K H [] v d' := by
  unfold snap at e
  split at e
  · rename_i h
    cases e
    exact (r.any h).up t.sub fun _ _ e => e
  · exact snG_ok t.sub (rSn_ok t 8) r e
theorem snaps_ok (t : Ht K G as S H) : ∀ {v : List V} {d d' : List D}, RVs K G as v d → snaps S d = some d' → RVs K H [] v d'
  | _, _, _, .nil, e => by cases e; exact .nil
  | _, _, _, .cons h r, e => by
    unfold snaps at e
    split at e
    · rename_i p1 p2 e1 e2
      cases e
      exact .cons (snap_ok t h e1) (snaps_ok t r e2)
    · cases e
end
/-- no object -/
def flatD : D → Bool
  | .non => true
  | .bl _ => true
  | .int _ => true
  | .str _ => true
  | _ => false
theorem flatD_rv {K : PySem.W.Frag} {G G' : Hp} {as as' : List Addr} {v : V} {d : D} (h : flatD d = true) (r : RV K G as v d) : RV K G' as' v d := by
  cases r <;> first | exact .non | exact .bl _ | exact .int _ | exact .str _ | cases h
/-- F runs on what the cells hold; it tells no object -/
def runP (F : List D → Mx D) (ds : List D) : Mx D := fun S => match snaps S ds with
  | some ds' => match F ds' [] with
    | some (.ok d, _) => if flatD d = true then some (.ok d, S) else none
    | _ => none
  | none => none
theorem spP {K : PySem.W.Frag} {n : Nat} {F : List D → Mx D} {vs : List V} {H : Hp} {Q : VK} {E : XK} (h : spH K n (runP F) vs H Q E) : spH K n F vs H Q E := by
  obtain ⟨hl, G, as, S, ds, t, r, rz, S', e, h⟩ := h
  unfold runP at e
  split at e
  · rename_i ds' e1
    split at e
    · rename_i d S1 e2
      split at e
      · rename_i hf
        cases e
        refine ⟨hl, H, [], [], ds', ⟨Same.refl H, rfl, List.nodup_nil, fun _ h => absurd h List.not_mem_nil, fun n c e => by simp at e⟩, snaps_ok t r e1, .ok d, S1, e2, fun G1 as1 H1 t1 l1 v rv => ?_⟩
        have keep : ∀ b o, H b = some o → H1 b = some o := fun b o e => l1.h b o e List.not_mem_nil
        refine h G as H1 ⟨fun b o e => keep b o (t.sub b o e), t.len, t.nd, fun a ha => ?_, fun n c e => ?_⟩ ⟨Same.refl G, fun _ _ e => e, fun b o e _ => keep b o e, fun _ e _ _ => e, fun _ e => .inl e⟩ v (flatD_rv hf rv)
        · obtain ⟨o, e⟩ := Option.ne_none_iff_exists'.mp (t.there a ha)
          rw [keep a o e]
          simp
        · obtain ⟨a, e1, e2, e3⟩ := t.cell n c e
          refine ⟨a, e1, e2, ?_⟩
          obtain ⟨o, e4⟩ := Option.ne_none_iff_exists'.mp (t.there a (List.mem_of_getElem? e1))
          exact e3.up (Same.refl G) (fun _ _ e => e) ((keep a o e4).trans e4.symm)
      · cases e
    · cases e
  · cases e
theorem FnX.peek {P : Program} {w : World} {K : PySem.W.Frag} {mg : Str → Option Value} {base : Heap} {k n : Nat} {f : Addr} {fd : FuncData} {ps : List Str} {F : List D → Mx D} (Fx : FnX P w K mg base k f fd ps (spH K n F)) : FnX P w K mg base k f fd ps (spH K n (runP F)) := Fx.imp fun _ _ _ _ => spP
end L2.Hy
end
section
/-! More operators. -/
namespace L2.Hy
open PySem PySem.Spec PyProof.Rows
/-! ### a text, a list, times a number -/
def repS (x : Str) (n : Int) : Str := if n < 1 then Str.empty else if (n == 1 || x.length == 0) = true then x else ⟨(List.replicate n.toNat x.cps).foldl (· ++ ·) #[]⟩
def fRepS : D → D → Mx D
  | .str x, .int n => if ((0 ≤ n ∧ n ≤ 1000) ∧ x.length ≤ 1000) ∧ (repS x n).length ≤ 16777216 then mret (.str (repS x n)) else mnone
  | _, _ => mnone
def rRepS : R2 := fun x y H Q => ∃ z n, x = .str z ∧ y = .int n ∧ (((0 ≤ n ∧ n ≤ 1000) ∧ z.length ≤ 1000) ∧ (repS z n).length ≤ 16777216) ∧ Q (.str (repS z n)) H
section
variable {X : Cx} {W : WX} {a b e o : Expr} {es : List Expr} {da db de do_ : Den} {dd : AD} {pos apos cpos : Pos}
theorem op_repS : OpR X (binaryOp .Mult) rRepS := by
  intro pins s σ H x y v u Q I rx ry h
  obtain ⟨z, n, rfl, rfl, ⟨⟨⟨h0, h1⟩, h2⟩, hL⟩, q⟩ := h
  obtain ⟨t, rfl⟩ := rx
  obtain ⟨t', rfl⟩ := ry
  have fin : ∀ t', EP X pins σ Q (.str (repS z n) t') { s with toks := s.toks + 1 } := fun t' => ⟨.str _, H, I.tok _, ⟨_, rfl⟩, q⟩
  have fin0 : ∀ t', EP X pins σ Q (.str (repS z n) t') s := fun t' => ⟨.str _, H, I, ⟨_, rfl⟩, q⟩
  refine PySem.P.mul_str ?_ (fun h3 _ => ?_) (fun h3 _ => ?_) ?_
  · rw [decide_eq_false (by omega), decide_eq_false (by omega)]
    rfl
  · have h5 : (1000 : Int) ≤ (2 ^ 63 - 1) / n := by
      rw [Int.le_ediv_iff_mul_le (by omega)]
      have : (1000 : Int) * n ≤ 1000 * 1000 := Int.mul_le_mul_of_nonneg_left h1 (by decide)
      omega
    omega
  · have h5 : z.length * n.toNat ≤ 1000 * 1000 := Nat.mul_le_mul h2 (by omega)
    unfold Builtin.Str.tooLong
    rw [decide_eq_false]
    rw [sizeLine_eq]
    omega
  · unfold repS at fin fin0
    split
    · rename_i h3
      rw [if_pos h3] at fin
      exact ⟨by decide, fin _⟩
    · rename_i h3
      rw [if_neg h3] at fin fin0
      split
      · rename_i h4
        rw [if_pos h4] at fin0
        exact fin0 _
      · rename_i h4
        rw [if_neg h4] at fin
        refine ⟨?_, fin _⟩
        unfold repS at hL
        rw [if_neg h3, if_neg h4] at hL
        rw [sizeLine_eq]
        exact hL
theorem prRepS {K : PySem.W.Frag} : Prim2 K W rRepS fRepS := fun σ G as S H x y v w Q t rx ry q => by
  cases rx with
  | str z =>
    cases ry with
    | int n =>
      unfold fRepS at q
      dsimp only at q
      split at q
      · rename_i h
        exact ⟨z, n, rfl, rfl, h, tF.now q t (.str _)⟩
      · exact (tR.no q).elim
    | _ => exact (tR.no q).elim
  | _ => cases ry <;> exact (tR.no q).elim
theorem eh_repS (ha : EH X W a da) (hb : EH X W b db) : EH X W (.BinOp a .Mult b pos) (d2 fRepS da db) := eh_2 op_repS prRepS ha hb
/-! ### a list times a number -/
def fRepL (b : Bool) (x y : D) : Mx D := fun S => match lstD S x, y with
  | some ds, .int n => if (0 ≤ n ∧ n ≤ 4294967296) ∧ ds.length * n.toNat ≤ 16777216 then allocL b (List.replicate n.toNat ds).flatten S else none
  | _, _ => none
theorem prRepL {K : PySem.W.Frag} {b : Bool} : Prim2 K W rRep (fRepL b) := fun σ G as S H x y v w Q t rx ry q => by
  obtain ⟨r0, S', e, h⟩ := q
  unfold fRepL at e
  split at e
  · rename_i ds n e1
    cases ry
    obtain ⟨a, xs, rfl, ha, rs⟩ := t.lst rx e1
    split at e
    · rename_i hc
      have rr : RVs K G as (List.replicate n.toNat xs).flatten (List.replicate n.toNat ds).flatten := by
        generalize n.toNat = m
        induction m with
        | zero => exact .nil
        | succ m ih =>
          rw [List.replicate_succ, List.replicate_succ, List.flatten_cons, List.flatten_cons]
          exact rs.append ih
      refine ⟨a, n, xs, rfl, rfl, ha, by omega, by omega, ?_, ?_⟩
      · rw [rs.len, sizeLine_eq]
        exact hc.2
      · exact (allocL_ok (b := b) (Q := Q) (σ := σ) (W := W) ⟨r0, S', e, h⟩ t rr).2
    · cases e
  · cases e
theorem eh_repL (b : Bool) {a c : Expr} {da dc : Den} (ha : EH X W a da) (hb : EH X W c dc) : EH X W (.BinOp a .Mult c pos) (d2 (fRepL b) da dc) := eh_2 op_rep prRepL ha hb
/-! ### tuples put together -/
def tupD : D → Option (List D)
  | .tup ds => some ds
  | _ => none
def fCatT (x y : D) : Mx D := fun S => match tupD x, tupD y with
  | some ds, some es => if (!ds.isEmpty && !es.isEmpty) = true then allocT (ds ++ es) S else none
  | _, _ => none
theorem prCatT {K : PySem.W.Frag} : Prim2 K W (rCatT K) fCatT := fun σ G as S H x y v w Q t rx ry q => by
  obtain ⟨r0, S', e, h⟩ := q
  unfold fCatT at e
  split at e
  · rename_i ds es e1 e2
    cases rx with
    | @tup a xs _ h1 r1 =>
      cases ry with
      | @tup b ys _ h2 r2 =>
        cases e1
        cases e2
        split at e
        · rename_i hc
          rw [Bool.and_eq_true] at hc
          have n1 : xs ≠ [] := by
            rintro rfl
            cases r1
            simp at hc
          have n2 : ys ≠ [] := by
            rintro rfl
            cases r2
            simp at hc
          obtain ⟨z1, z2⟩ := allocT_ok (Q := Q) (σ := σ) (W := W) ⟨r0, S', e, h⟩ t (r1.append r2)
          rw [List.length_append] at z1
          exact ⟨a, b, xs, ys, rfl, rfl, sqT_same t.sub h1, sqT_same t.sub h2, n1, z1, fun z => absurd z n2, fun _ => z2⟩
        · cases e
      | _ => cases e2
    | _ => cases e1
  · cases e
theorem eh_catT (ha : EH X W a da) (hb : EH X W b db) : EH X W (.BinOp a .Add b pos) (d2 fCatT da db) := eh_2 op_catT prCatT ha hb
end
end L2.Hy
end
section
/-! gcd, lcm; o[i] op= e; while; a = b = e; calls by names; is True. -/
namespace L2.Hy
open PySem PySem.Spec PyProof.Rows
/-! ### functions of math -/
def fGcd : List D → Mx D := on2 fun d e => match d, e with
  | .int i, .int j => mret (.int ((Nat.gcd i.natAbs j.natAbs : Nat) : Int))
  | _, _ => mnone
def rLcm : List V → Hp → VK → Prop := fun vs H Q => ∃ a b : Int, vs = [.int a, .int b] ∧ (a.natAbs < 2 ^ 64 ∧ b.natAbs < 2 ^ 64) ∧ Q (.int ((Nat.lcm a.natAbs b.natAbs : Nat) : Int)) H
def fLcm : List D → Mx D := on2 fun d e => match d, e with
  | .int i, .int j => if i.natAbs < 2 ^ 64 ∧ j.natAbs < 2 ^ 64 then mret (.int ((Nat.lcm i.natAbs j.natAbs : Nat) : Int)) else mnone
  | _, _ => mnone
section
variable {X : Cx} {W : WX}
theorem cr_lcm : CallR X (.builtin "math.lcm") rLcm := by
  intro pins s σ H vs us Q I r h
  obtain ⟨a, b, rfl, ⟨h1, h2⟩, q⟩ := h
  obtain ⟨t, u, rfl⟩ := Vals.int2 r
  exact PySem.W.mc_lcm h1 h2 fun _ => ⟨.int _, H, I.tok _, ⟨_, rfl⟩, q⟩
theorem prGcd {K : PySem.W.Frag} : PrimN K W rGcd fGcd := fun σ G as S H xs ds Q t r q => by
  obtain ⟨v, w, d, e, rfl, rfl, r1, r2, q⟩ := one2 r q
  split at q
  · cases r1
    cases r2
    exact ⟨_, _, rfl, tF.now q t (.int _)⟩
  · exact (tR.no q).elim
theorem prLcm {K : PySem.W.Frag} : PrimN K W rLcm fLcm := fun σ G as S H xs ds Q t r q => by
  obtain ⟨v, w, d, e, rfl, rfl, r1, r2, q⟩ := one2 r q
  split at q
  · cases r1
    cases r2
    split at q
    · rename_i h
      exact ⟨_, _, rfl, h, tF.now q t (.int _)⟩
    · exact (tR.no q).elim
  · exact (tR.no q).elim
variable {e : Expr} {es : List Expr} {dd : AD} {x : Str} {id : String} {p pos : Pos} {r : List V → Hp → VK → Prop} {f : List D → Mx D}
theorem eh_callF (pr : PrimN X.K W r f) (hc : CallR X (.builtin id) r) (hg : Gl X x) (hm : X.mg x = some (.builtin id)) (ha : AH X W (e :: es) dd) (hdb : (x == ("__debug__" : Str)) = false := by decide)
    (he : starEach (e :: es) X.env = (false, eval e X.env) :: starEach es X.env := by rfl) (hpl : (backTo pos (starEach es X.env)).any (·.1) = false := by rfl) : EH X W (.Call (.Name x p) (e :: es) [] pos) (dCB f dd) :=
  peI (pe_callBfun hc hg hm ha hdb he hpl) fun σ H Q ⟨G, as, ρ, S, t, eo, q⟩ => ⟨G, as, ρ, S, t, eo, tL.bind q fun vs ds G1 as1 S1 H1 t1 l1 r1 q1 => pr σ G1 as1 S1 H1 vs ds Q t1 r1 q1⟩
end
/-- a name of the module that is a function of a library -/
def biChk (K : PySem.W.Frag) (x : Str) (id : String) : Bool := match PySem.W.nsIn K mainGlobals x with
  | some (some (.builtin i)) => i == id
  | _ => false
theorem biChk_ok {K : PySem.W.Frag} {h : Heap} {mg : Str → Option Value} (X : K.In h) (G : h.Ns mainGlobals mg) {x : Str} {id : String} (c : biChk K x id = true) : mg x = some (.builtin id) := by
  unfold biChk at c
  split at c
  · rename_i i e
    rw [← eq_of_beq c]
    exact PySem.W.mg_of X G e
  · cases c
/-! ### is, is not of truths -/
def fIsB (ng : Bool) : D → D → Mx D
  | .bl a, .bl b => mret (.bl (if ng = true then !decide (a = b) else decide (a = b)))
  | _, _ => mnone
section
variable {K : PySem.W.Frag} {W : WX}
theorem prIsB : Prim2 K W rIsB (fIsB false) := fun σ G as S H x y v w Q t rx ry q => by
  cases rx <;> cases ry <;> first | exact (tR.no q).elim | exact ⟨_, _, rfl, rfl, tF.now q t (.bl _)⟩
theorem prNotB : Prim2 K W rNotB (fIsB true) := fun σ G as S H x y v w Q t rx ry q => by
  cases rx <;> cases ry <;> first | exact (tR.no q).elim | exact ⟨_, _, rfl, rfl, tF.now q t (.bl _)⟩
end
section
variable {X : Cx} {W : WX} {a b : Expr} {da db : Den} {pos : Pos}
theorem eh_isB (ha : EH X W a da) (hb : EH X W b db) (hm : behindInMarks .Is b = false := by rfl) : EH X W (.Compare a [.Is] [b] pos) (d2 (fIsB false) da db) := eh_cmp op_isBl prIsB ha hb hm
theorem eh_notB (ha : EH X W a da) (hb : EH X W b db) (hm : behindInMarks .IsNot b = false := by rfl) : EH X W (.Compare a [.IsNot] [b] pos) (d2 (fIsB true) da db) := eh_cmp op_notBl prNotB ha hb hm
end
/-! ### o[i] op= e, o a list, whole numbers -/
def opI (f : Int → Int → Int) : D → D → Mx D
  | .int a, .int b => mret (.int (f a b))
  | _, _ => mnone
/-- o[i], o a list -/
def fIxL (o i : D) : Mx D := mOf fun S => (lstD S o).bind fun ds => match i with
  | .int k => atI ds k
  | _ => none
def sAugS (f : Int → Int → Int) (do_ di de : Den) : SDen := fun ρ => lift ρ (mbind (do_ ρ) fun o => mbind (di ρ) fun i => mbind (fIxL o i) fun x => mbind (de ρ) fun y => mbind (opI f x y) fun z => fSet o i z) fun _ => sOu (.nx ρ)
section
variable {X : Cx} {W : WX} {o i e : Expr} {do_ di de : Den} {pos pos' : Pos}
theorem pget_list : PGet X (rIxL X.K) := fun pins s σ H o i ov iv Q I ro ri h => by
  obtain ⟨p, xs, i, z, rfl, rfl, hq, he, q⟩ := h
  cases ro
  obtain ⟨t, rfl⟩ := ri
  obtain ⟨its, r, pl, hz⟩ := I.list hq
  obtain ⟨j, h1, h2, h3, h4, h5⟩ := atI_get he
  obtain ⟨w, ew, rw'⟩ := r.get h2
  have hl := r.length
  have hn := line63
  have fin : EP X pins σ Q w s := ⟨z, H, I, rw', q⟩
  by_cases h0 : 0 ≤ i
  · have hj : i.toNat = j := by
      rw [seqIndex_of h0 h5] at h1
      exact Option.some.inj h1
    exact wpAny_getItem_list pl.isList h0 (by omega) (by rw [hj]; simpa using ew) fin
  · have hj : (i + (its.toArray.size : Int)).toNat = j := by
      rw [seqIndex_neg (by omega) h4] at h1
      rw [List.size_toArray, ← hl]
      exact Option.some.inj h1
    exact wpAny_getItem_list_neg pl.isList (by omega) (by rw [List.size_toArray] <;> omega) (by omega) (by rw [hj]; simpa using ew) fin
theorem sh_augS {f : Int → Int → Int} {op : Operator} (hp : PIp X op (ipI f)) (ho : EH X W o do_) (hi : EH X W i di) (he : EH X W e de)
    (ha : ∀ ov iv new, augStore i ov iv new = (do holding [new, ov, iv] (setItem ov iv new); release [new, ov, iv] []; pure .next) := by intros; rfl) : SH X W (.AugAssign (.Subscript o i pos') op e pos) (sAugS f do_ di de) :=
  psI (ps_augS ho hi pget_list he hp set_list ha) fun D σ H ⟨G, as, ρ, S, t, eo, q⟩ => by
    have q0 : tR X.K W σ G as S H (mbind (do_ ρ) fun o => mbind (di ρ) fun i => mbind (fIxL o i) fun x => mbind (de ρ) fun y => mbind (opI f x y) fun z => fSet o i z) fun _ G' as' S' H' => D.nx σ H' := q.lift eo fun a G1 as1 S1 H1 t1 l1 q1 => tS.now q1 t1 σ rfl (eo.le l1)
    refine ⟨G, as, ρ, S, t, eo, tF.bind q0 fun ov od G1 as1 S1 H1 t1 l1 r1 q1 => ⟨G1, as1, ρ, S1, t1, eo.le l1, tF.bind q1 fun iv id G2 as2 S2 H2 t2 l2 r2 q2 => ?_⟩⟩
    obtain ⟨a0, e0, q2⟩ := tR.ofK q2
    have q00 : ∃ ds k, lstD S2 od = some ds ∧ id = .int k ∧ atI ds k = some a0 := by
      obtain ⟨ds, e1, e2⟩ := Option.bind_eq_some_iff.mp e0
      cases id with
      | int k => exact ⟨ds, k, e1, rfl, e2⟩
      | _ => cases e2
    obtain ⟨ds, k, e1, rfl, e2⟩ := q00
    cases r2
    obtain ⟨a, xs, rfl, hx, rx⟩ := t2.lst (r1.le l2) e1
    obtain ⟨u, e4, r4⟩ := atI_ok rx e2
    refine ⟨a, xs, k, u, rfl, rfl, .inl (.inl hx), e4, G2, as2, ρ, S2, t2, (eo.le l1).le l2, tF.bind q2 fun yv yd G3 as3 S3 H3 t3 l3 r3 q3 => ?_⟩
    have q30 : ∃ x y : Int, a0 = .int x ∧ yd = .int y ∧ tR X.K W σ G3 as3 S3 H3 (fSet od (.int k) (.int (f x y))) fun _ G' as' S' H' => D.nx σ H' := by
      cases a0 <;> first | exact (tR.no (show tR X.K W σ G3 as3 S3 H3 mnone _ from q3)).elim | skip
      cases yd <;> first | exact (tR.no (show tR X.K W σ G3 as3 S3 H3 mnone _ from q3)).elim | skip
      exact ⟨_, _, rfl, rfl, q3⟩
    obtain ⟨x, y, rfl, rfl, q4⟩ := q30
    cases r4
    cases r3
    refine ⟨x, y, rfl, rfl, ?_⟩
    have ro := (r1.le l2).le l3
    obtain ⟨r0, S', e5, h⟩ := q4
    unfold fSet at e5
    cases ro with
    | h n ea =>
      dsimp only at e5
      split at e5
      · rename_i ds q5
        split at e5
        · rename_i j e6
          cases e5
          obtain ⟨xs, hx, rx⟩ := tyL t3 ea q5
          obtain ⟨t4, l4⟩ := t3.store q5 ea (c := .cl (ds.set j (.int (f x y)))) (o := .lst (xs.set j (.int (f x y)))) fun H' e' => ⟨_, e', rx.set j (.int _)⟩
          exact ⟨_, xs, k, j, rfl, rfl, hx, by rw [rx.len]; exact e6, h _ _ _ t4 l4⟩
        · cases e5
      · cases e5
    | _ => cases e5
end
/-! ### while -/
def loopW (td : TD) (body : SDen) : Nat → SDen
  | 0, _ => sNo
  | n + 1, ρ => lift ρ (td ρ) fun c => if c = true then (fun S => match body ρ S with
      | some (.nx ρ2, S2) => loopW td body n ρ2 S2
      | some (.ct ρ2, S2) => loopW td body n ρ2 S2
      | some (.bk ρ2, S2) => some (.nx ρ2, S2)
      | r => r) else sOu (.nx ρ)
def sWhile (td : TD) (body : SDen) : SDen := loopW td body 1000000
section
variable {K : PySem.W.Frag} {W : WX} {D : Ends} {k : Nat}
theorem wh_step {td : TD} {body : SDen} {n : Nat} {ρ : Env} {G H : Hp} {as : List Addr} {S : Store} {N : L2.St → Hp → Prop} (h : tS K W D k G as S H (fun S => match body ρ S with
      | some (.nx ρ2, S2) => loopW td body n ρ2 S2
      | some (.ct ρ2, S2) => loopW td body n ρ2 S2
      | some (.bk ρ2, S2) => some (.nx ρ2, S2)
      | r => r))
    (hN : ∀ ρ2 G2 as2 S2 H2 σ2, Ht K G2 as2 S2 H2 → Le G as H G2 as2 H2 → σ2.length = k → EnvOk K G2 as2 σ2 ρ2 → tS K W D k G2 as2 S2 H2 (loopW td body n ρ2) → N σ2 H2) :
    tS K W { D with nx := N, ct := N, bk := D.nx } k G as S H (body ρ) := by
  obtain ⟨o, S', e, h⟩ := h
  dsimp only at e
  cases hm : body ρ S with
  | none =>
    rw [hm] at e
    cases e
  | some p =>
    obtain ⟨o0, S1⟩ := p
    rw [hm] at e
    have go : ∀ ρ2, loopW td body n ρ2 S1 = some (o, S') → ∀ G' as' H', Ht K G' as' S1 H' → Le G as H G' as' H' → ∀ σ, σ.length = k → EnvOk K G' as' σ ρ2 → N σ H' := fun ρ2 e' G' as' H' t l σ sl eo =>
      hN ρ2 G' as' S1 H' σ t l sl eo ⟨o, S', e', fun G2 as2 H2 t2 l2 => (h G2 as2 H2 t2 (l.trans l2)).on fun dd q => Le.was t l q⟩
    cases o0 with
    | nx ρ2 => exact ⟨.nx ρ2, S1, hm, go ρ2 e⟩
    | ct ρ2 => exact ⟨.ct ρ2, S1, hm, go ρ2 e⟩
    | bk ρ2 =>
      cases e
      exact ⟨_, _, hm, h⟩
    | rt d =>
      cases e
      exact ⟨_, _, hm, h⟩
    | xc ρ c f d =>
      cases e
      exact ⟨_, _, hm, h⟩
end
section
variable {X : Cx} {W : WX} {e : Expr} {body : List Stmt} {td : TD} {db : SDen} {pos : Pos}
theorem sh_while (hp : PassesOwn (model X.prog X.w) X.A X.env X.xe) (hc : TH X W e td) (hb : SsH X W body db) : SH X W (.While e body [] pos) (sWhile td db) := by
  refine psI (ps_while hp hc hb) fun D σ H ⟨G, as, ρ, S, t, eo, q⟩ => ?_
  refine ⟨fun m σ' H' => ∃ G' as' S' ρ', Ht X.K G' as' S' H' ∧ σ'.length = σ.length ∧ EnvOk X.K G' as' σ' ρ' ∧ tS X.K W D σ.length G' as' S' H' (loopW td db m ρ'), ⟨1000000, G, as, S, ρ, t, rfl, eo, q⟩, ?_⟩
  rintro m σ' H' ⟨G', as', S', ρ', t', sl, eo', q'⟩
  cases m with
  | zero => exact (tS.no q').elim
  | succ m =>
    rw [← sl] at q'
    refine ⟨G', as', ρ', S', t', eo', (show tS X.K W D σ'.length G' as' S' H' (lift ρ' (td ρ') _) from q').lift eo' fun c G1 as1 S1 H1 t1 l1 q1 => ?_⟩
    cases c with
    | true =>
      rw [if_pos rfl] at q1 ⊢
      refine ⟨fun σ2 H2 => ∃ G' as' S' ρ', Ht X.K G' as' S' H2 ∧ σ2.length = σ.length ∧ EnvOk X.K G' as' σ2 ρ' ∧ tS X.K W D σ.length G' as' S' H2 (loopW td db m ρ'), fun σ2 H2 h => ⟨m, Nat.lt_succ_self m, h⟩, G1, as1, ρ', S1, t1, eo'.le l1, ?_⟩
      exact wh_step q1 fun ρ2 G2 as2 S2 H2 σ2 t2 l2 sl2 o2 q2 => ⟨G2, as2, S2, ρ2, t2, by rw [sl2, sl], o2, by rw [← sl]; exact q2⟩
    | false =>
      rw [if_neg Bool.false_ne_true] at q1 ⊢
      exact tS.now q1 t1 σ' rfl (eo'.le l1)
end
/-! ### a = b = e -/
def sAsg2 (b1 b2 : Bd) (den : Den) : SDen := fun ρ => lift ρ (den ρ) fun d => match (b1.go d ρ).bind (b2.go d) with
  | some ρ1 => sOu (.nx ρ1)
  | none => sNo
section
variable {X : Cx} {W : WX} {e tg1 tg2 : Expr} {den : Den} {b1 b2 : Bd} {pos : Pos}
theorem sh_asg2 (he : EH X W e den) (h1 : GH X tg1 b1) (h2 : GH X tg2 b2) (ha : (assignEach [tg1, tg2] X.env).map (·.2) = [assign tg1 X.env, assign tg2 X.env] := by rfl) (hw : swappedStores [tg1, tg2] e X.env = pure none := by rfl) :
    SH X W (.Assign [tg1, tg2] e pos) (sAsg2 b1 b2 den) :=
  psI (ps_asg2 he h1 h2 ha hw) fun D σ H ⟨G, as, ρ, S, t, eo, q⟩ => ⟨G, as, ρ, S, t, eo, q.liftV eo fun v d G1 as1 S1 H1 t1 l1 r1 q1 => by
    split at q1
    · rename_i ρ2 e0
      obtain ⟨ρ1, e1, e2⟩ := Option.bind_eq_some_iff.mp e0
      exact ⟨G1, as1, S1, ρ, d, ρ1, t1, eo.le l1, r1, e1, fun σ1 c1 o1 => ⟨G1, as1, S1, ρ1, d, ρ2, t1, o1, r1, e2, fun σ2 c2 o2 => tS.now q1 t1 σ2 (by rw [c2.1, c1.1]) o2⟩⟩
    · exact (tS.no q1).elim⟩
end
end L2.Hy
end
section
/-! Calls in which each argument is handed by its name. -/
namespace L2.Hy
open PySem PySem.Spec PyProof.Rows
/-- what is handed by name, in the order of the parameters -/
def permL {α : Type} (is : List Nat) (ws : List α) : List α := is.filterMap fun i => ws[i]?
theorem permL_rvs {K : PySem.W.Frag} {G : Hp} {as : List Addr} {vs : List V} {ds : List D} (r : RVs K G as vs ds) : ∀ is : List Nat, RVs K G as (permL is vs) (permL is ds)
  | [] => .nil
  | i :: is => by
    unfold permL
    rw [List.filterMap_cons, List.filterMap_cons]
    cases e : ds[i]? with
    | none =>
      have : vs[i]? = none := by
        rw [List.getElem?_eq_none_iff] at e ⊢
        rw [r.len]
        exact e
      rw [this]
      exact permL_rvs r is
    | some d =>
      obtain ⟨v, e1, r1⟩ := r.at e
      rw [e1]
      exact .cons r1 (permL_rvs r is)
theorem permL_vals {vs : List V} {us : List Value} (r : Vals vs us) : ∀ is : List Nat, Vals (permL is vs) (permL is us)
  | [] => .nil
  | i :: is => by
    unfold permL
    rw [List.filterMap_cons, List.filterMap_cons]
    cases e : vs[i]? with
    | none =>
      have : us[i]? = none := by
        rw [List.getElem?_eq_none_iff] at e ⊢
        rw [← r.length]
        exact e
      rw [this]
      exact permL_vals r is
    | some d =>
      obtain ⟨v, e1, r1⟩ := r.get e
      rw [e1]
      exact .cons r1 (permL_vals r is)
/-- the values handed by name, from the left -/
abbrev KwH (X : Cx) (W : WX) (kws : List Keyword) (den : AD) : Prop := PK X kws (tHa X.K W den)
section
variable {X : Cx} {W : WX} {e : Expr} {kws : List Keyword} {da : Den} {dd : AD} {nm : Option Str} {kpos : Pos}
theorem pkI {t t' : TA} (h : PK X kws t) (i : ∀ σ H Q, t' σ H Q → t σ H Q) : PK X kws t' := ⟨fun pos pins s σ H Q I q => h.run pos pins s σ H Q I (i σ H Q q)⟩
theorem kh_nil : KwH X W [] aNil := pkI pk_nil fun σ H Q ⟨G, as, ρ, S, t, eo, q⟩ => tR.now q t _ .nil
theorem kh_cons (ha : EH X W e da) (hr : KwH X W kws dd) : KwH X W (⟨nm, e, kpos⟩ :: kws) (aCons da dd) :=
  pkI (pk_cons ha hr) fun σ H Q ⟨G, as, ρ, S, t, eo, q⟩ => ⟨G, as, ρ, S, t, eo, tF.bind q fun v d G1 as1 S1 H1 t1 l1 r1 q1 => ⟨G1, as1, ρ, S1, t1, eo.le l1, tR.bind q1 fun ds G2 as2 S2 H2 t2 l2 q2 vs rs => tR.now q2 t2 _ (.cons (r1.le l2) rs)⟩⟩
end
/-- how names bind -/
def BindsW (K : PySem.W.Frag) (fd : FuncData) (ps ks : List Str) (is : List Nat) : Prop := ∀ (s : Shared) (ws : List Value), K.In s.heap → ws.length = ks.length → BindsTo s fd ⟨[], ks.zip ws⟩ (ps.zip (permL is ws))
structure CalW (P : Program) (w : World) (K : PySem.W.Frag) (mg : Str → Option Value) (base : Heap) (x : Str) (k : Nat) (ks : List Str) (is : List Nat) (F : List D → Mx D) : Prop where
  ex : ∃ (f : Addr) (fd : FuncData) (ps : List Str), FnX P w K mg base k f fd ps (spH K ps.length F) ∧ mg x = some (.ref f) ∧ PySem.W.keepIn K (.ref f) = true ∧ BindsW K fd ps ks is ∧ ps.length = is.length
def dCallW (n m : Nat) (is : List Nat) (F : List D → Mx D) (dd : AD) : Den := fun ρ => mbind (dd ρ) fun zs => if zs.length = m ∧ (permL is zs).length = n then F (permL is zs) else mnone
section
variable {X : Cx} {W : WX} {k j : Nat} {f : Addr} {fd : FuncData} {ps ks : List Str} {is : List Nat} {sp : Sp} {x : Str} {p pos : Pos} {kws : List Keyword} {dd : AD} {F : List D → Mx D} {t : TA}
theorem run_xw {pins : List (Addr × Obj)} {σ : L2.St} {H : Hp} {s : Shared} {Q : VK} {ws : List Value} {zs : List V} (Fx : FnX X.prog X.w X.K X.mg X.base k f fd ps sp) (q : Xv.Quiet k X.A) (tk : Takes X W) (hb : BindsW X.K fd ps ks is)
    (I : Inv X pins σ H s) (r : Vals zs ws) (hl : zs.length = ks.length) (h : sp (permL is zs) H Q fun c d H' => W c d σ H') : wpAny (model X.prog X.w) X.A (call (.ref f) [] (ks.zip ws)) (EP X pins σ Q) X.xe s := by
  refine wpAny_call (codeAny_mono (Fx.go q I.env0 (hb s ws I.kIn (r.length.symm.trans hl)) (permL_vals r is) h) ?_)
  rintro (er | fl) s' z
  · exact tk _ _ (XE.of_call I (fun _ _ _ h => h) z)
  · cases fl with
    | ret u => exact I.after z
    | _ => exact False.elim z
theorem pe_callW (Fx : FnX X.prog X.w X.K X.mg X.base k f fd ps sp) (q : Xv.Quiet k X.A) (tk : Takes X W) (hg : Gl X x) (hm : X.mg x = some (.ref f)) (hk : PySem.W.keepIn X.K (.ref f) = true) (hb : BindsW X.K fd ps ks is)
    (hkw : PK X kws t) (hall : (backToKw pos (keywordEach kws X.env)).all (·.1.isSome) = true := by rfl) (hks : (backToKw pos (keywordEach kws X.env)).filterMap (·.1) = ks := by rfl)
    (hdb : (x == ("__debug__" : Str)) = false := by decide) (hpl : ((backTo pos (starEach [] X.env)).any (·.1) || (backToKw pos (keywordEach kws X.env)).any (·.1.isNone)) = false := by rfl) :
    PE X (.Call (.Name x p) [] kws pos) (fun σ H Q => t σ H fun zs H1 => zs.length = ks.length ∧ sp (permL is zs) H1 Q fun c d H' => W c d σ H') := by
  refine ⟨fun pins s σ H Q I h => ?_⟩
  refine wpAny_Call_Name_kw (ld_glob I hg hm ?_ hdb)
  refine PySem.W.callWith_KW0 (h₀ := X.base) I.ok.mod.kin hk hall (thn (hkw.run pos pins s σ H _ I h) fun ws s2 ⟨zs, H2, I2, rz, l2, q2⟩ => ⟨I2.kIn, ?_⟩) hpl
  rw [hks]
  exact run_xw Fx q tk hb I2 rz l2 q2
theorem eh_callW (C : CalW X.prog X.w X.K X.mg X.base x j ks is F) (q : Xv.Quiet k X.A) (hj : j ≤ k) (tk : Takes X W) (hg : Gl X x) (hkw : KwH X W kws dd)
    (hall : (backToKw pos (keywordEach kws X.env)).all (·.1.isSome) = true := by rfl) (hks : (backToKw pos (keywordEach kws X.env)).filterMap (·.1) = ks := by rfl)
    (hdb : (x == ("__debug__" : Str)) = false := by decide) (hpl : ((backTo pos (starEach [] X.env)).any (·.1) || (backToKw pos (keywordEach kws X.env)).any (·.1.isNone)) = false := by rfl) :
    EH X W (.Call (.Name x p) [] kws pos) (dCallW is.length ks.length is F dd) := by
  obtain ⟨f, fd, ps, h1, h2, h3, h4, h5⟩ := C.ex
  refine peI (pe_callW h1 (q.mono hj) tk hg h2 h3 h4 hkw hall hks hdb hpl) fun σ H Q ⟨G, as, ρ, S, t, eo, q⟩ => ⟨G, as, ρ, S, t, eo, tL.bind q fun vs ds G1 as1 S1 H1 t1 l1 r1 q1 => ?_⟩
  split at q1
  · rename_i hl
    have rp := permL_rvs r1 is
    exact ⟨r1.len.trans hl.1, by rw [rp.len, h5]; exact hl.2, G1, as1, S1, permL is ds, t1, rp, q1⟩
  · exact (tR.no q1).elim
end
/-- a class made so -/
structure KalW (P : Program) (w : World) (K : PySem.W.Frag) (mg : Str → Option Value) (base : Heap) (c : Str) (k : Nat) (ks : List Str) (is : List Nat) (F : List D → Mx D) : Prop where
  gl : mg c = some (.ref (He.ga K c))
  ex : ∃ (f : Addr) (fd : FuncData) (ps : List Str), FnX P w K mg base k f fd ps (spH K ps.length F) ∧ Mk K (He.ga K c) f ∧ (∀ (s : Shared) (v : Value) (ws : List Value), K.In s.heap → ws.length = ks.length → BindsTo s fd ⟨[v], ks.zip ws⟩ (ps.zip (v :: permL is ws))) ∧ ps.length = is.length + 1
def dMakeW (c : Str) (n m : Nat) (is : List Nat) (F : List D → Mx D) (dd : AD) : Den := fun ρ => mbind (dd ρ) fun zs S => if zs.length = m ∧ (permL is zs).length = n then
    mbind (F (.h S.length :: permL is zs)) (fun z => match z with
      | .non => mret (.h S.length)
      | _ => mnone) (S ++ [some (.ci c [])])
  else none
section
variable {X : Cx} {W : WX} {k j : Nat} {f C : Addr} {fd : FuncData} {ps ks : List Str} {is : List Nat} {sp : Sp} {x c : Str} {p pos : Pos} {kws : List Keyword} {dd : AD} {F : List D → Mx D} {t : TA}
theorem run_makeXw {pins : List (Addr × Obj)} {σ : L2.St} {H : Hp} {s : Shared} {Q : VK} {ws : List Value} {zs : List V} (M : Mk X.K C f) (Fx : FnX X.prog X.w X.K X.mg X.base k f fd ps sp) (q : Xv.Quiet (k + 1) X.A) (tk : Takes X W)
    (hb : ∀ (s : Shared) (v : Value) (ws : List Value), X.K.In s.heap → ws.length = ks.length → BindsTo s fd ⟨[v], ks.zip ws⟩ (ps.zip (v :: permL is ws)))
    (I : Inv X pins σ H s) (r : Vals zs ws) (l2 : zs.length = ks.length)
    (h : ∀ x dx, H x = none → H dx = none → dx ≠ x → sp (.ref x :: permL is zs) (upd (upd H dx (.own x)) x (.ins C dx [])) (fun v H2 => v = .non ∧ Q (.ref x) H2) fun c d H' => W c d σ H') :
    wpAny (model X.prog X.w) X.A (call (.ref C) [] (ks.zip ws)) (EP X pins σ Q) X.xe s := by
  have hq := h (s.heap.objs.size + 1) s.heap.objs.size (I.hok.fresh (Nat.le_succ _)) (I.hok.fresh (Nat.le_refl _)) (Nat.ne_of_lt (Nat.lt_succ_self _))
  have I2 := Inv.made (C := C) I
  have r2 : Vals (V.ref (s.heap.objs.size + 1) :: permL is zs) (Value.ref (s.heap.objs.size + 1) :: permL is ws) := .cons rfl (permL_vals r is)
  refine wpAny_call (make_map (f := f) I.kIn M.makes M.init (beq_iff_eq.mp M.fn) (codeAny_mono (Fx.go (Quiet.make q C [] (ks.zip ws))
    (I2.env0.make C [] (ks.zip ws)) (hb _ (Value.ref (s.heap.objs.size + 1)) ws I2.kIn (r.length.symm.trans l2)) r2 hq) fun r s' hq' => ?_))
  cases r with
  | error e => exact tk _ _ (XE.of_call I2 (fun _ _ _ h => h) hq')
  | ok fl =>
    cases fl with
    | ret u =>
      obtain ⟨v, H', I3, rv, ev, q3⟩ := I2.after hq'
      subst ev
      exact ⟨rv, ⟨V.ref (s.heap.objs.size + 1), H', I3, rfl, q3⟩⟩
    | _ => exact False.elim hq'
theorem pe_makeW (M : Mk X.K C f) (Fx : FnX X.prog X.w X.K X.mg X.base k f fd ps sp) (q : Xv.Quiet (k + 1) X.A) (tk : Takes X W) (hg : Gl X x) (hm : X.mg x = some (.ref C))
    (hb : ∀ (s : Shared) (v : Value) (ws : List Value), X.K.In s.heap → ws.length = ks.length → BindsTo s fd ⟨[v], ks.zip ws⟩ (ps.zip (v :: permL is ws)))
    (hkw : PK X kws t) (hall : (backToKw pos (keywordEach kws X.env)).all (·.1.isSome) = true := by rfl) (hks : (backToKw pos (keywordEach kws X.env)).filterMap (·.1) = ks := by rfl)
    (hdb : (x == ("__debug__" : Str)) = false := by decide) (hpl : ((backTo pos (starEach [] X.env)).any (·.1) || (backToKw pos (keywordEach kws X.env)).any (·.1.isNone)) = false := by rfl) :
    PE X (.Call (.Name x p) [] kws pos) (fun σ H Q => t σ H fun zs H1 => zs.length = ks.length ∧ ∀ x dx, H1 x = none → H1 dx = none → dx ≠ x → sp (.ref x :: permL is zs) (upd (upd H1 dx (.own x)) x (.ins C dx [])) (fun v H2 => v = .non ∧ Q (.ref x) H2) fun c d H' => W c d σ H') := by
  refine ⟨fun pins s σ H Q I h => ?_⟩
  refine wpAny_Call_Name_kw (ld_glob I hg hm ?_ hdb)
  refine PySem.W.callWith_KW0 (h₀ := X.base) I.ok.mod.kin M.kp hall (thn (hkw.run pos pins s σ H _ I h) fun ws s2 ⟨zs, H2, I2, rz, l2, q2⟩ => ⟨I2.kIn, ?_⟩) hpl
  rw [hks]
  exact run_makeXw M Fx q tk hb I2 rz l2 q2
theorem eh_makeW (Cw : KalW X.prog X.w X.K X.mg X.base c j ks is F) (q : Xv.Quiet k X.A) (hj : j + 1 ≤ k) (tk : Takes X W) (hg : Gl X c) (hkw : KwH X W kws dd)
    (hall : (backToKw pos (keywordEach kws X.env)).all (·.1.isSome) = true := by rfl) (hks : (backToKw pos (keywordEach kws X.env)).filterMap (·.1) = ks := by rfl)
    (hdb : (c == ("__debug__" : Str)) = false := by decide) (hpl : ((backTo pos (starEach [] X.env)).any (·.1) || (backToKw pos (keywordEach kws X.env)).any (·.1.isNone)) = false := by rfl) :
    EH X W (.Call (.Name c p) [] kws pos) (dMakeW c is.length ks.length is F dd) := by
  obtain ⟨f, fd, ps, h1, M, hb, h5⟩ := Cw.ex
  refine peI (pe_makeW M h1 (q.mono hj) tk hg Cw.gl hb hkw hall hks hdb hpl) fun σ H Q ⟨G, as, ρ, S, t, eo, q⟩ => ⟨G, as, ρ, S, t, eo, tL.bind q fun vs ds G1 as1 S1 H1 t1 l1 r1 q1 => ?_⟩
  obtain ⟨r0, S', e1, h⟩ := q1
  dsimp only at e1
  split at e1
  · rename_i hl
    refine ⟨r1.len.trans hl.1, fun a dx ha hdx ne => ?_⟩
    have rp := permL_rvs r1 is
    have hx2 : upd H1 dx (.own a) a = none := by rw [upd_ne (Ne.symm ne)]; exact ha
    obtain ⟨t2, l2⟩ := t1.settle hdx (.own a)
    obtain ⟨t3, l3⟩ := t2.alloc hx2 (o := .ins (He.ga X.K c) dx []) (c := .ci c []) fun H' e' => ⟨dx, [], e', .nil⟩
    have ln : (as1 ++ [a])[S1.length]? = some a := by
      rw [← t1.len, List.getElem?_append_right (Nat.le_refl _), Nat.sub_self]
      rfl
    refine ⟨?_, _, _, _, .h S1.length :: permL is ds, t3, .cons (.h _ ln) ((rp.le l2).le l3), ?_⟩
    · rw [List.length_cons, rp.len, h5, hl.2]
    · have q3 : tF X.K W σ (upd G1 dx (.own a)) (as1 ++ [a]) (S1 ++ [some (.ci c [])]) (upd (upd H1 dx (.own a)) a (.ins (He.ga X.K c) dx [])) (mbind (F (.h S1.length :: permL is ds)) fun z => match z with
          | .non => mret (.h S1.length)
          | _ => mnone) Q := by
        refine ⟨r0, S', e1, ?_⟩
        cases r0 with
        | ok d => exact fun G' as' H' t' l' => h G' as' H' t' ((l2.trans l3).trans l')
        | ex c f d => exact fun v dd G' as' H' t' l' r q1 q2 q3 q4 => h v dd G' as' H' t' ((l2.trans l3).trans l') r q1 q2 q3 (Le.was t3 (l2.trans l3) q4)
      exact tF.bind q3 fun v d G4 as4 S4 H4 t4 l4 r4 q4 => by
        cases r4 with
        | non => exact ⟨rfl, tF.now q4 t4 (.h _ (l4.ad _ _ ln))⟩
        | _ => exact (tR.no q4).elim
  · cases e1
end
/-! ### facts -/
section
variable {P : Program} {w : World} {K : PySem.W.Frag} {mg : Str → Option Value} {base : Heap} {fd : FuncData} {ps ks : List Str} {is : List Nat} {k : Nat} {x qual c : Str} {params : Arguments} {body : List Stmt} {scope : Scope} {F : List D → Mx D} {kws : List (Str × V)}
theorem FunD.bindsB (Fd : FunD K x qual params body scope [] kws f fd) {args : Args} {bs : List (Str × Value)}
    (h : ∀ (kV doc pm : Value) (an : Option Addr) (cdv ct : Value), bindArgs (PySem.W.fnOf x qual params body scope .none kV doc pm an cdv ct) args = pure bs) (s : Shared) : BindsTo s fd args bs := by
  obtain ⟨oc, od, dV, kV, doc, pm, an, cdv, ct, osl, rfl, lk, hcd, hD, hK⟩ := Fd.ex
  rcases hD with ⟨_, rfl⟩ | ⟨e, _⟩
  · exact .of_eq (h kV doc pm an cdv ct)
  · exact absurd rfl e
theorem calW_mk (Fd : FunD K x qual params body scope [] kws (He.ga K x) fd) (hg : mg x = some (.ref (He.ga K x))) (Fx : FnX P w K mg base k (He.ga K x) fd ps (spH K ps.length F))
    (h : ∀ (kV doc pm : Value) (an : Option Addr) (cdv ct : Value) (ws : List Value), ws.length = ks.length → bindArgs (PySem.W.fnOf x qual params body scope .none kV doc pm an cdv ct) ⟨[], ks.zip ws⟩ = pure (ps.zip (permL is ws))) (hn : ps.length = is.length) : CalW P w K mg base x k ks is F :=
  ⟨_, fd, ps, Fx, hg, Fd.kp, fun s ws _ hl => FunD.bindsB Fd (fun kV doc pm an cdv ct => h kV doc pm an cdv ct ws hl) s, hn⟩
theorem kalW_mk (hg : mg c = some (.ref (He.ga K c))) (hm : Mk K (He.ga K c) (He.ma K (He.ga K c) "__init__")) (Fd : FunD K x qual params body scope [] kws (He.ma K (He.ga K c) "__init__") fd) (Fx : FnX P w K mg base k (He.ma K (He.ga K c) "__init__") fd ps (spH K ps.length F))
    (h : ∀ (kV doc pm : Value) (an : Option Addr) (cdv ct : Value) (v : Value) (ws : List Value), ws.length = ks.length → bindArgs (PySem.W.fnOf x qual params body scope .none kV doc pm an cdv ct) ⟨[v], ks.zip ws⟩ = pure (ps.zip (v :: permL is ws))) (hn : ps.length = is.length + 1) : KalW P w K mg base c k ks is F :=
  ⟨hg, _, fd, ps, Fx, hm, fun s v ws _ hl => FunD.bindsB Fd (fun kV doc pm an cdv ct => h kV doc pm an cdv ct v ws hl) s, hn⟩
end
end L2.Hy
end
section
namespace K13
open PySem PySem.Spec PyProof.Rows L2 L2.Hy He
def kqT0 : KTab := [(.b "NoneType", .b "NoneType", true), (.b "NoneType", .b "bool", false), (.b "NoneType", .b "int", false), (.b "NoneType", .b "str", false), (.b "NoneType", .b "tuple", false), (.b "NoneType", .b "list", false), (.b "NoneType", .b "dict", false), (.b "NoneType", .c "Trip", false), (.b "NoneType", .c "Mill", false), (.b "NoneType", .c "Tables", false), (.b "NoneType", .c "MillError", false), (.b "NoneType", .c "InvalidList", false)]
def kqT1 : KTab := [(.b "NoneType", .c "InvalidItem", false), (.b "NoneType", .c "InvalidMill", false), (.b "NoneType", .c "InvalidHoldings", false), (.b "NoneType", .c "InvalidRow", false), (.b "bool", .b "NoneType", false), (.b "bool", .b "bool", true), (.b "bool", .b "int", true), (.b "bool", .b "str", false), (.b "bool", .b "tuple", false), (.b "bool", .b "list", false), (.b "bool", .b "dict", false), (.b "bool", .c "Trip", false)]
def kqT2 : KTab := [(.b "bool", .c "Mill", false), (.b "bool", .c "Tables", false), (.b "bool", .c "MillError", false), (.b "bool", .c "InvalidList", false), (.b "bool", .c "InvalidItem", false), (.b "bool", .c "InvalidMill", false), (.b "bool", .c "InvalidHoldings", false), (.b "bool", .c "InvalidRow", false), (.b "int", .b "NoneType", false), (.b "int", .b "bool", false), (.b "int", .b "int", true), (.b "int", .b "str", false)]
def kqT3 : KTab := [(.b "int", .b "tuple", false), (.b "int", .b "list", false), (.b "int", .b "dict", false), (.b "int", .c "Trip", false), (.b "int", .c "Mill", false), (.b "int", .c "Tables", false), (.b "int", .c "MillError", false), (.b "int", .c "InvalidList", false), (.b "int", .c "InvalidItem", false), (.b "int", .c "InvalidMill", false), (.b "int", .c "InvalidHoldings", false), (.b "int", .c "InvalidRow", false)]
def kqT4 : KTab := [(.b "str", .b "NoneType", false), (.b "str", .b "bool", false), (.b "str", .b "int", false), (.b "str", .b "str", true), (.b "str", .b "tuple", false), (.b "str", .b "list", false), (.b "str", .b "dict", false), (.b "str", .c "Trip", false), (.b "str", .c "Mill", false), (.b "str", .c "Tables", false), (.b "str", .c "MillError", false), (.b "str", .c "InvalidList", false)]
def kqT5 : KTab := [(.b "str", .c "InvalidItem", false), (.b "str", .c "InvalidMill", false), (.b "str", .c "InvalidHoldings", false), (.b "str", .c "InvalidRow", false), (.b "tuple", .b "NoneType", false), (.b "tuple", .b "bool", false), (.b "tuple", .b "int", false), (.b "tuple", .b "str", false), (.b "tuple", .b "tuple", true), (.b "tuple", .b "list", false), (.b "tuple", .b "dict", false), (.b "tuple", .c "Trip", false)]
def kqT6 : KTab := [(.b "tuple", .c "Mill", false), (.b "tuple", .c "Tables", false), (.b "tuple", .c "MillError", false), (.b "tuple", .c "InvalidList", false), (.b "tuple", .c "InvalidItem", false), (.b "tuple", .c "InvalidMill", false), (.b "tuple", .c "InvalidHoldings", false), (.b "tuple", .c "InvalidRow", false), (.b "list", .b "NoneType", false), (.b "list", .b "bool", false), (.b "list", .b "int", false), (.b "list", .b "str", false)]
def kqT7 : KTab := [(.b "list", .b "tuple", false), (.b "list", .b "list", true), (.b "list", .b "dict", false), (.b "list", .c "Trip", false), (.b "list", .c "Mill", false), (.b "list", .c "Tables", false), (.b "list", .c "MillError", false), (.b "list", .c "InvalidList", false), (.b "list", .c "InvalidItem", false), (.b "list", .c "InvalidMill", false), (.b "list", .c "InvalidHoldings", false), (.b "list", .c "InvalidRow", false)]
def kqT8 : KTab := [(.b "dict", .b "NoneType", false), (.b "dict", .b "bool", false), (.b "dict", .b "int", false), (.b "dict", .b "str", false), (.b "dict", .b "tuple", false), (.b "dict", .b "list", false), (.b "dict", .b "dict", true), (.b "dict", .c "Trip", false), (.b "dict", .c "Mill", false), (.b "dict", .c "Tables", false), (.b "dict", .c "MillError", false), (.b "dict", .c "InvalidList", false)]
def kqT9 : KTab := [(.b "dict", .c "InvalidItem", false), (.b "dict", .c "InvalidMill", false), (.b "dict", .c "InvalidHoldings", false), (.b "dict", .c "InvalidRow", false), (.c "Trip", .b "NoneType", false), (.c "Trip", .b "bool", false), (.c "Trip", .b "int", false), (.c "Trip", .b "str", false), (.c "Trip", .b "tuple", false), (.c "Trip", .b "list", false), (.c "Trip", .b "dict", false), (.c "Trip", .c "Trip", true)]
def kqT10 : KTab := [(.c "Trip", .c "Mill", false), (.c "Trip", .c "Tables", false), (.c "Trip", .c "MillError", false), (.c "Trip", .c "InvalidList", false), (.c "Trip", .c "InvalidItem", false), (.c "Trip", .c "InvalidMill", false), (.c "Trip", .c "InvalidHoldings", false), (.c "Trip", .c "InvalidRow", false), (.c "Mill", .b "NoneType", false), (.c "Mill", .b "bool", false), (.c "Mill", .b "int", false), (.c "Mill", .b "str", false)]
def kqT11 : KTab := [(.c "Mill", .b "tuple", false), (.c "Mill", .b "list", false), (.c "Mill", .b "dict", false), (.c "Mill", .c "Trip", false), (.c "Mill", .c "Mill", true), (.c "Mill", .c "Tables", false), (.c "Mill", .c "MillError", false), (.c "Mill", .c "InvalidList", false), (.c "Mill", .c "InvalidItem", false), (.c "Mill", .c "InvalidMill", false), (.c "Mill", .c "InvalidHoldings", false), (.c "Mill", .c "InvalidRow", false)]
def kqT12 : KTab := [(.c "Tables", .b "NoneType", false), (.c "Tables", .b "bool", false), (.c "Tables", .b "int", false), (.c "Tables", .b "str", false), (.c "Tables", .b "tuple", false), (.c "Tables", .b "list", false), (.c "Tables", .b "dict", false), (.c "Tables", .c "Trip", false), (.c "Tables", .c "Mill", false), (.c "Tables", .c "Tables", true), (.c "Tables", .c "MillError", false), (.c "Tables", .c "InvalidList", false)]
def kqT13 : KTab := [(.c "Tables", .c "InvalidItem", false), (.c "Tables", .c "InvalidMill", false), (.c "Tables", .c "InvalidHoldings", false), (.c "Tables", .c "InvalidRow", false), (.c "MillError", .b "NoneType", false), (.c "MillError", .b "bool", false), (.c "MillError", .b "int", false), (.c "MillError", .b "str", false), (.c "MillError", .b "tuple", false), (.c "MillError", .b "list", false), (.c "MillError", .b "dict", false), (.c "MillError", .c "Trip", false)]
def kqT14 : KTab := [(.c "MillError", .c "Mill", false), (.c "MillError", .c "Tables", false), (.c "MillError", .c "MillError", true), (.c "MillError", .c "InvalidList", false), (.c "MillError", .c "InvalidItem", false), (.c "MillError", .c "InvalidMill", false), (.c "MillError", .c "InvalidHoldings", false), (.c "MillError", .c "InvalidRow", false), (.c "InvalidList", .b "NoneType", false), (.c "InvalidList", .b "bool", false), (.c "InvalidList", .b "int", false), (.c "InvalidList", .b "str", false)]
def kqT15 : KTab := [(.c "InvalidList", .b "tuple", false), (.c "InvalidList", .b "list", false), (.c "InvalidList", .b "dict", false), (.c "InvalidList", .c "Trip", false), (.c "InvalidList", .c "Mill", false), (.c "InvalidList", .c "Tables", false), (.c "InvalidList", .c "MillError", true), (.c "InvalidList", .c "InvalidList", true), (.c "InvalidList", .c "InvalidItem", false), (.c "InvalidList", .c "InvalidMill", false), (.c "InvalidList", .c "InvalidHoldings", false), (.c "InvalidList", .c "InvalidRow", false)]
def kqT16 : KTab := [(.c "InvalidItem", .b "NoneType", false), (.c "InvalidItem", .b "bool", false), (.c "InvalidItem", .b "int", false), (.c "InvalidItem", .b "str", false), (.c "InvalidItem", .b "tuple", false), (.c "InvalidItem", .b "list", false), (.c "InvalidItem", .b "dict", false), (.c "InvalidItem", .c "Trip", false), (.c "InvalidItem", .c "Mill", false), (.c "InvalidItem", .c "Tables", false), (.c "InvalidItem", .c "MillError", true), (.c "InvalidItem", .c "InvalidList", false)]
def kqT17 : KTab := [(.c "InvalidItem", .c "InvalidItem", true), (.c "InvalidItem", .c "InvalidMill", false), (.c "InvalidItem", .c "InvalidHoldings", false), (.c "InvalidItem", .c "InvalidRow", false), (.c "InvalidMill", .b "NoneType", false), (.c "InvalidMill", .b "bool", false), (.c "InvalidMill", .b "int", false), (.c "InvalidMill", .b "str", false), (.c "InvalidMill", .b "tuple", false), (.c "InvalidMill", .b "list", false), (.c "InvalidMill", .b "dict", false), (.c "InvalidMill", .c "Trip", false)]
def kqT18 : KTab := [(.c "InvalidMill", .c "Mill", false), (.c "InvalidMill", .c "Tables", false), (.c "InvalidMill", .c "MillError", true), (.c "InvalidMill", .c "InvalidList", false), (.c "InvalidMill", .c "InvalidItem", false), (.c "InvalidMill", .c "InvalidMill", true), (.c "InvalidMill", .c "InvalidHoldings", false), (.c "InvalidMill", .c "InvalidRow", false), (.c "InvalidHoldings", .b "NoneType", false), (.c "InvalidHoldings", .b "bool", false), (.c "InvalidHoldings", .b "int", false), (.c "InvalidHoldings", .b "str", false)]
def kqT19 : KTab := [(.c "InvalidHoldings", .b "tuple", false), (.c "InvalidHoldings", .b "list", false), (.c "InvalidHoldings", .b "dict", false), (.c "InvalidHoldings", .c "Trip", false), (.c "InvalidHoldings", .c "Mill", false), (.c "InvalidHoldings", .c "Tables", false), (.c "InvalidHoldings", .c "MillError", true), (.c "InvalidHoldings", .c "InvalidList", false), (.c "InvalidHoldings", .c "InvalidItem", false), (.c "InvalidHoldings", .c "InvalidMill", false), (.c "InvalidHoldings", .c "InvalidHoldings", true), (.c "InvalidHoldings", .c "InvalidRow", false)]
def kqT20 : KTab := [(.c "InvalidRow", .b "NoneType", false), (.c "InvalidRow", .b "bool", false), (.c "InvalidRow", .b "int", false), (.c "InvalidRow", .b "str", false), (.c "InvalidRow", .b "tuple", false), (.c "InvalidRow", .b "list", false), (.c "InvalidRow", .b "dict", false), (.c "InvalidRow", .c "Trip", false), (.c "InvalidRow", .c "Mill", false), (.c "InvalidRow", .c "Tables", false), (.c "InvalidRow", .c "MillError", true), (.c "InvalidRow", .c "InvalidList", false)]
def kqT21 : KTab := [(.c "InvalidRow", .c "InvalidItem", false), (.c "InvalidRow", .c "InvalidMill", false), (.c "InvalidRow", .c "InvalidHoldings", false), (.c "InvalidRow", .c "InvalidRow", true)]
def kqTab : KTab := List.flatten [kqT0, kqT1, kqT2, kqT3, kqT4, kqT5, kqT6, kqT7, kqT8, kqT9, kqT10, kqT11, kqT12, kqT13, kqT14, kqT15, kqT16, kqT17, kqT18, kqT19, kqT20, kqT21]
/-- what isinstance tells here -/
def kq : Tg → Tg → Option Bool := kqOf kqTab
def oc (c : Str) : Bool := c == "Trip" || c == "Mill" || c == "Tables"
def oA__recipes (c : Str) : Bool := c == "Trip" || c == "Mill" || c == "Tables"
def oA__stuffs (c : Str) : Bool := c == "Trip" || c == "Mill" || c == "Tables"
def oA_gives (c : Str) : Bool := c == "Trip" || c == "Mill" || c == "Tables"
def oA_nets (c : Str) : Bool := c == "Trip" || c == "Mill" || c == "Tables"
def oA_now (c : Str) : Bool := c == "Trip" || c == "Mill" || c == "Tables"
def oA_recipe_names (c : Str) : Bool := c == "Trip" || c == "Mill" || c == "Tables"
def oA_rooms (c : Str) : Bool := c == "Trip" || c == "Mill" || c == "Tables"
def oA_seen (c : Str) : Bool := c == "Trip" || c == "Mill" || c == "Tables"
def oA_start (c : Str) : Bool := c == "Trip" || c == "Mill" || c == "Tables"
def oA_stuff_names (c : Str) : Bool := c == "Trip" || c == "Mill" || c == "Tables"
def oA_tables (c : Str) : Bool := c == "Trip" || c == "Mill" || c == "Tables"
def oA_takes (c : Str) : Bool := c == "Trip" || c == "Mill" || c == "Tables"
def oA_under (c : Str) : Bool := c == "Trip" || c == "Mill" || c == "Tables"
def xc (c : Str) : Bool := c == "InvalidList" || c == "InvalidItem" || c == "InvalidMill" || c == "InvalidHoldings" || c == "InvalidRow"
def mt_MillError (c : Str) : Option Bool := if xc c = true then some (c == "InvalidList" || c == "InvalidItem" || c == "InvalidMill" || c == "InvalidHoldings" || c == "InvalidRow") else none
theorem sc_law_cell : FnScope ["_law_script", "_law_index"] ["_law_script", "_law_index"] (defScope (top 71)) := ⟨rfl, rfl, rfl, by decide +kernel, rfl, by decide +kernel, by decide +kernel⟩
def d_law_cell : SDen :=
  (sSeq (sIf (dBool (dLt (dV 1) (dCB fLen (aCons (dV 0) aNil)))) (sRet (d2 fIx (dV 0) (dV 1))) sNil)
  (sRet (dC (.int 0))))
theorem b_law_cell {P : Program} {w : World} {K : PySem.W.Frag} {mg : Str → Option Value} {base : Heap} {f : Addr} (f_len : mg "len" = none) : BodyH P w K mg base ["_law_script", "_law_index"] 0 f "_law_cell" (defScope (top 71)) (defBody (top 71)) d_law_cell := fun cdv A outer s H E q tk pp => by
  have nd := sc_law_cell.nd
  have hu1 := hu64 q.1
  have hu2 := hu65 q.1
  exact (ss_cons (sh_if (th_cmp op_lt (prII fun _ _ _ _ _ => .bl _) (eh_v 1 (pv 1)) (eh_callB prLen call_len (by rfl) f_len PySem.boot_len (ah_cons (eh_v 0 (pv 0)) ah_nil)) (nomark _)) (ss_one (sh_ret (eh_ix (eh_v 0 (pv 0)) (eh_v 1 (pv 1)) (fun _ _ => rfl)))) ss_nil)
  (ss_one (sh_ret eh_int)))
theorem sc_law_generator : FnScope ["_law_script", "_law_index", "_law_seed"] ["_law_script", "_law_index"] (defScope (top 72)) := ⟨rfl, rfl, rfl, by decide +kernel, rfl, by decide +kernel, by decide +kernel⟩
def d_law_generator : SDen :=
  (sSeq (sAsg (bN 2) (dCall 2 (runF 2 d_law_cell) [] (aCons (dV 0) (aCons (dV 1) aNil))))
  (sRet (dLst true (aCons (d2 fMod (dCB fInt (aCons (dCB fMax2 (aCons (dSub (dV 2) (d2 fPowW (dC (.int 10)) (dC (.int 18)))) (aCons (dC (.int 0)) aNil))) aNil)) (d2 fPowW (d2 fPowW (dC (.int 10)) (dC (.int 60))) (dC (.int 10)))) (aCons (d2 fMod (dCB fInt (aCons (dV 2) aNil)) (dC (.int 2147483647))) (aCons (dMul (dC (.int 1000)) (dV 1)) aNil))))))
theorem b_law_generator {P : Program} {w : World} {K : PySem.W.Frag} {mg : Str → Option Value} {base : Heap} {f : Addr} (k_law_cell : Cal P w K mg base "_law_cell" 1 2 [] (runF 2 d_law_cell)) (f_int : mg "int" = none) (f_max : mg "max" = none) : BodyH P w K mg base ["_law_script", "_law_index", "_law_seed"] 1 f "_law_generator" (defScope (top 72)) (defBody (top 72)) d_law_generator := fun cdv A outer s H E q tk pp => by
  have nd := sc_law_generator.nd
  have hu1 := hu64 q.1
  have hu2 := hu65 q.1
  exact (ss_cons (sh_set (i := 2) nd rfl (by first | exact Or.inl rfl | exact Or.inr rfl) (eh_callK k_law_cell q (by decide) tk (by rfl) (ah_cons (eh_v 0 (pv 0)) (ah_cons (eh_v 1 (pv 1)) ah_nil))))
  (ss_one (sh_ret (eh_lst true (ah_cons (eh_mod (eh_callT prInt call_int1 (by rfl) f_int boot_int (ah_cons (eh_callB prMax2 (call_max2 (by rfl)) (by rfl) f_max boot_max (ah_cons (eh_sub (eh_v 2 (pv 2)) (eh_powW eh_int eh_int)) (ah_cons eh_int ah_nil))) ah_nil)) (eh_powW (eh_powW eh_int eh_int) eh_int)) (ah_cons (eh_mod (eh_callT prInt call_int1 (by rfl) f_int boot_int (ah_cons (eh_v 2 (pv 2)) ah_nil)) eh_int) (ah_cons (eh_mul eh_int (eh_v 1 (pv 1))) ah_nil)))))))
theorem sc_law_hash : FnScope ["_law_seed", "_law_index", "_law_mixed"] ["_law_seed", "_law_index"] (defScope (top 65)) := ⟨rfl, rfl, rfl, by decide +kernel, rfl, by decide +kernel, by decide +kernel⟩
def d_law_hash : SDen :=
  (sSeq (sAsg (bN 2) (d2 fMod (dCB fInt (aCons (dAdd (dAdd (dAdd (dMul (dV 0) (dC (.int 1299709))) (dMul (dMul (dC (.int 104729)) (dV 1)) (dV 1))) (dMul (dC (.int 31)) (dV 1))) (dC (.int 7))) aNil)) (dC (.int 2147483629))))
  (sSeq (sAsg (bN 2) (d2 fMod (dCB fInt (aCons (dAdd (dAdd (dMul (dV 2) (dV 2)) (dMul (dC (.int 48271)) (dV 1))) (dC (.int 15485863))) aNil)) (dC (.int 2147483587))))
  (sRet (d2 fMod (dCB fInt (aCons (dMul (dV 2) (dC (.int 69621))) aNil)) (dC (.int 2147483647))))))
theorem b_law_hash {P : Program} {w : World} {K : PySem.W.Frag} {mg : Str → Option Value} {base : Heap} {f : Addr} (f_int : mg "int" = none) : BodyH P w K mg base ["_law_seed", "_law_index", "_law_mixed"] 0 f "_law_hash" (defScope (top 65)) (defBody (top 65)) d_law_hash := fun cdv A outer s H E q tk pp => by
  have nd := sc_law_hash.nd
  have hu1 := hu64 q.1
  have hu2 := hu65 q.1
  exact (ss_cons (sh_set (i := 2) nd rfl (by first | exact Or.inl rfl | exact Or.inr rfl) (eh_mod (eh_callT prInt call_int1 (by rfl) f_int boot_int (ah_cons (eh_add (eh_add (eh_add (eh_mul (eh_v 0 (pv 0)) eh_int) (eh_mul (eh_mul eh_int (eh_v 1 (pv 1))) (eh_v 1 (pv 1)))) (eh_mul eh_int (eh_v 1 (pv 1)))) eh_int) ah_nil)) eh_int))
  (ss_cons (sh_set (i := 2) nd rfl (by first | exact Or.inl rfl | exact Or.inr rfl) (eh_mod (eh_callT prInt call_int1 (by rfl) f_int boot_int (ah_cons (eh_add (eh_add (eh_mul (eh_v 2 (pv 2)) (eh_v 2 (pv 2))) (eh_mul eh_int (eh_v 1 (pv 1)))) eh_int) ah_nil)) eh_int))
  (ss_one (sh_ret (eh_mod (eh_callT prInt call_int1 (by rfl) f_int boot_int (ah_cons (eh_mul (eh_v 2 (pv 2)) eh_int) ah_nil)) eh_int)))))
theorem sc_law_random : FnScope ["_law_generator_here", "_law_bound", "_law_drawn", "_law_turn"] ["_law_generator_here", "_law_bound"] (defScope (top 66)) := ⟨rfl, rfl, rfl, by decide +kernel, rfl, by decide +kernel, by decide +kernel⟩
def lb_law_random_1 : SDen :=
  (sSeq (sSub (dV 0) (dC (.int 2)) (dAdd (d2 fIx (dV 0) (dC (.int 2))) (dC (.int 1))))
  (sAsg (bN 2) (dAdd (dMul (dV 2) (dC (.int 2147483587))) (dCall 2 (runF 3 d_law_hash) [] (aCons (d2 fIx (dV 0) (dC (.int 1))) (aCons (d2 fIx (dV 0) (dC (.int 2))) aNil))))))
def d_law_random : SDen :=
  (sSeq (sIf (dBool (dGt (d2 fIx (dV 0) (dC (.int 0))) (dC (.int 0)))) (sSeq (sAsg (bN 2) (d2 fMod (dCB fInt (aCons (d2 fIx (dV 0) (dC (.int 0))) aNil)) (dV 1)))
  (sSeq (sSub (dV 0) (dC (.int 0)) (d2 fFdiv (d2 fIx (dV 0) (dC (.int 0))) (dV 1)))
  (sRet (dV 2)))) sNil)
  (sSeq (sAsg (bN 2) (dC (.int 0)))
  (sSeq (sFor (fun ρ => mbind ((aCons (dAdd (dC (.int 1)) (d2 fFdiv (d1 fBits (dV 1)) (dC (.int 30)))) aNil) ρ) itR1) (bN 3) lb_law_random_1)
  (sRet (d2 fMod (dCB fInt (aCons (dV 2) aNil)) (dV 1))))))
theorem b_law_random {P : Program} {w : World} {K : PySem.W.Frag} {mg : Str → Option Value} {base : Heap} {f : Addr} (f_int : mg "int" = none) (f_range : mg "range" = none) (k_law_hash : Cal P w K mg base "_law_hash" 1 2 [] (runF 3 d_law_hash)) : BodyH P w K mg base ["_law_generator_here", "_law_bound", "_law_drawn", "_law_turn"] 1 f "_law_random" (defScope (top 66)) (defBody (top 66)) d_law_random := fun cdv A outer s H E q tk pp => by
  have nd := sc_law_random.nd
  have hu1 := hu64 q.1
  have hu2 := hu65 q.1
  exact (ss_cons (sh_if (th_cmp op_gt (prII fun _ _ _ _ _ => .bl _) (eh_ix (eh_v 0 (pv 0)) eh_int (fun _ _ => rfl)) eh_int (nomark _)) (ss_cons (sh_set (i := 2) nd rfl (by first | exact Or.inl rfl | exact Or.inr rfl) (eh_mod (eh_callT prInt call_int1 (by rfl) f_int boot_int (ah_cons (eh_ix (eh_v 0 (pv 0)) eh_int (fun _ _ => rfl)) ah_nil)) (eh_v 1 (pv 1))))
  (ss_cons (sh_sub (eh_fdiv (eh_ix (eh_v 0 (pv 0)) eh_int (fun _ _ => rfl)) (eh_v 1 (pv 1))) (eh_v 0 (pv 0)) eh_int)
  (ss_one (sh_ret (eh_v 2 (pv 2)))))) ss_nil)
  (ss_cons (sh_set (i := 2) nd rfl (by first | exact Or.inl rfl | exact Or.inr rfl) eh_int)
  (ss_cons (sh_for pp (by rfl) (ih_range1 (by rfl) f_range (ah_cons (eh_add eh_int (eh_fdiv (eh_bits (eh_v 1 (pv 1))) eh_int)) ah_nil)) (gh_name 3 (pg_name nd rfl (by first | exact Or.inl rfl | exact Or.inr rfl))) (ss_cons (sh_sub (eh_add (eh_ix (eh_v 0 (pv 0)) eh_int (fun _ _ => rfl)) eh_int) (eh_v 0 (pv 0)) eh_int)
  (ss_one (sh_set (i := 2) nd rfl (by first | exact Or.inl rfl | exact Or.inr rfl) (eh_add (eh_mul (eh_v 2 (pv 2)) eh_int) (eh_callK k_law_hash q (by decide) tk (by rfl) (ah_cons (eh_ix (eh_v 0 (pv 0)) eh_int (fun _ _ => rfl)) (ah_cons (eh_ix (eh_v 0 (pv 0)) eh_int (fun _ _ => rfl)) ah_nil))))))))
  (ss_one (sh_ret (eh_mod (eh_callT prInt call_int1 (by rfl) f_int boot_int (ah_cons (eh_v 2 (pv 2)) ah_nil)) (eh_v 1 (pv 1))))))))
theorem sc_law_parts_drawn : FnScope ["_law_generator_here", "_law_tanks", "_law_most", "_law_found", "_law_name", "_law_number"] ["_law_generator_here", "_law_tanks", "_law_most"] (defScope (top 69)) := ⟨rfl, rfl, rfl, by decide +kernel, rfl, by decide +kernel, by decide +kernel⟩
def lb_law_parts_drawn_1 : SDen :=
  (sSeq (sAsg (bN 5) (d2 fIx (dLst false (aCons (dC (.int 0)) (aCons (dC (.int 0)) (aCons (dC (.int 1)) (aCons (dC (.int 1)) (aCons (dC (.int 2)) (aCons (dC (.int 3)) aNil))))))) (dCall 2 (runC 4 d_law_random) [] (aCons (dV 0) (aCons (dC (.int 6)) aNil)))))
  (sIf (tdAnd (dBool (dGt (dV 5) (dC (.int 0)))) (dBool (dLt (dCB fLen (aCons (dV 3) aNil)) (dV 2)))) (sExp (dApp (dV 3) (aCons (dTup (aCons (dV 4) (aCons (dV 5) aNil))) aNil))) sNil))
def d_law_parts_drawn : SDen :=
  (sSeq (sAsg (bN 3) (dLst true aNil))
  (sSeq (sForA (dV 1) (bN 4) lb_law_parts_drawn_1)
  (sRet (dFrz (dV 3)))))
theorem b_law_parts_drawn {P : Program} {w : World} {K : PySem.W.Frag} {mg : Str → Option Value} {base : Heap} {f : Addr} (k_law_randomC : Cal P w K mg base "_law_random" 2 2 [] (runC 4 d_law_random)) (f_len : mg "len" = none) : BodyH P w K mg base ["_law_generator_here", "_law_tanks", "_law_most", "_law_found", "_law_name", "_law_number"] 2 f "_law_parts_drawn" (defScope (top 69)) (defBody (top 69)) d_law_parts_drawn := fun cdv A outer s H E q tk pp => by
  have nd := sc_law_parts_drawn.nd
  have hu1 := hu64 q.1
  have hu2 := hu65 q.1
  exact (ss_cons (sh_set (i := 3) nd rfl (by first | exact Or.inl rfl | exact Or.inr rfl) (eh_lst true ah_nil))
  (ss_cons (sh_forA pp (by rfl) (eh_v 1 (pv 1)) (gh_name 4 (pg_name nd rfl (by first | exact Or.inl rfl | exact Or.inr rfl))) (ss_cons (sh_set (i := 5) nd rfl (by first | exact Or.inl rfl | exact Or.inr rfl) (eh_ix (eh_lst false (ah_cons eh_int (ah_cons eh_int (ah_cons eh_int (ah_cons eh_int (ah_cons eh_int (ah_cons eh_int ah_nil))))))) (eh_callK k_law_randomC q (by decide) tk (by rfl) (ah_cons (eh_v 0 (pv 0)) (ah_cons eh_int ah_nil))) (fun _ _ => rfl)))
  (ss_one (sh_if (th_bop (wh_and (th_cmp op_gt (prII fun _ _ _ _ _ => .bl _) (eh_v 5 (pv 5)) eh_int (nomark _)) (wh_and1 (th_cmp op_lt (prII fun _ _ _ _ _ => .bl _) (eh_callB prLen call_len (by rfl) f_len PySem.boot_len (ah_cons (eh_v 3 (pv 3)) ah_nil)) (eh_v 2 (pv 2)) (nomark _))))) (ss_one (sh_expr (eh_app (eh_v 3 (pv 3)) (ah_cons (eh_tup (ah_cons (eh_v 4 (pv 4)) (ah_cons (eh_v 5 (pv 5)) ah_nil))) ah_nil)))) ss_nil))))
  (ss_one (sh_ret (eh_frz (eh_v 3 (pv 3)))))))
theorem sc_law_mill_drawn : FnScope ["_law_generator_here", "_law_wide", "_law_many", "_law_rooms", "_law_at", "_law_tanks", "_law_names", "_law_deeds", "_law_name", "_law_room", "_law_takes", "_law_gives"] ["_law_generator_here", "_law_wide", "_law_many"] (defScope (top 70)) := ⟨rfl, rfl, rfl, by decide +kernel, rfl, by decide +kernel, by decide +kernel⟩
def ce_law_mill_drawn_1 : Den :=
  (d2 fIx (dLst false (aCons (dC .non) (aCons (dC .non) (aCons (dC (.int 1)) (aCons (dC (.int 2)) (aCons (dC (.int 3)) (aCons (dC (.int 0)) aNil))))))) (dCall 2 (runC 4 d_law_random) [] (aCons (dV 0) (aCons (dC (.int 6)) aNil))))
def ce_law_mill_drawn_2 : Den :=
  (dTup (aCons (d2 fIx (dC (.str "abcd")) (dV 4)) (aCons (d2 fIx (dV 3) (dV 4)) aNil)))
def lb_law_mill_drawn_3 : SDen :=
  (sSeq (sPar 10 11 (aCons (dCall 3 (runC 6 d_law_parts_drawn) [] (aCons (dV 0) (aCons (dV 6) (aCons (dC (.int 2)) aNil)))) (aCons (dCall 3 (runC 6 d_law_parts_drawn) [] (aCons (dV 0) (aCons (dV 6) (aCons (dC (.int 2)) aNil)))) aNil)))
  (sExp (dApp (dV 7) (aCons (dTup (aCons (d2 fIx (dC (.str "rstu")) (dV 4)) (aCons (dV 10) (aCons (dV 11) aNil)))) aNil))))
def d_law_mill_drawn : SDen :=
  (sSeq (sAsg (bN 3) (dLc false [4] (fun ρ => mbind ((aCons (dV 1) aNil) ρ) itR1) (bN 4) tdYes ce_law_mill_drawn_1))
  (sSeq (sAsg (bN 5) (dLc false [4] (fun ρ => mbind ((aCons (dV 1) aNil) ρ) itR1) (bN 4) tdYes ce_law_mill_drawn_2))
  (sSeq (sPar 6 7 (aCons (dLcA false [8, 9] (dV 5) (bTup 2 (bCons (bN 8) (bCons (bN 9) bNil))) tdYes (dV 8)) (aCons (dLst true aNil) aNil)))
  (sSeq (sFor (fun ρ => mbind ((aCons (dV 2) aNil) ρ) itR1) (bN 4) lb_law_mill_drawn_3)
  (sRet (dFrz (dTup (aCons (dV 5) (aCons (dV 7) aNil)))))))))
theorem b_law_mill_drawn {P : Program} {w : World} {K : PySem.W.Frag} {mg : Str → Option Value} {base : Heap} {f : Addr} (f_range : mg "range" = none) (k_law_randomC : Cal P w K mg base "_law_random" 2 2 [] (runC 4 d_law_random)) (k_law_parts_drawnC : Cal P w K mg base "_law_parts_drawn" 3 3 [] (runC 6 d_law_parts_drawn)) : BodyH P w K mg base ["_law_generator_here", "_law_wide", "_law_many", "_law_rooms", "_law_at", "_law_tanks", "_law_names", "_law_deeds", "_law_name", "_law_room", "_law_takes", "_law_gives"] 3 f "_law_mill_drawn" (defScope (top 70)) (defBody (top 70)) d_law_mill_drawn := fun cdv A outer s H E q tk pp => by
  have nd := sc_law_mill_drawn.nd
  have hu1 := hu64 q.1
  have hu2 := hu65 q.1
  exact (ss_cons (by first | exact (sh_setLc (i := 3) (own := [("_law_at", 4)]) false (by rfl) nd rfl rfl rfl (by decide) (by decide +kernel) (ih_range1 (by rfl) f_range (ah_cons (eh_v 1 (pv 1)) ah_nil)) (blkOk_by (N := ["_law_generator_here", "_law_wide", "_law_many", "_law_rooms", "_law_at", "_law_tanks", "_law_names", "_law_deeds", "_law_name", "_law_room", "_law_takes", "_law_gives"]) (sc := defScope (top 70)) (by decide +kernel)) (by decide) (fun _ _ _ _ _ => (gh_name 4 (pg_name nd rfl (by first | exact Or.inl rfl | exact Or.inr rfl)))) (fun _ _ _ _ _ => ts_nil) (fun _ _ _ _ _ => (eh_ix (eh_lst false (ah_cons eh_non (ah_cons eh_non (ah_cons eh_int (ah_cons eh_int (ah_cons eh_int (ah_cons eh_int ah_nil))))))) (eh_callK k_law_randomC q (by decide) takes0 (by rfl) (ah_cons (eh_v 0 (pv 0)) (ah_cons eh_int ah_nil))) (fun _ _ => rfl)))) | exact (sh_set (i := 3) nd rfl (by first | exact Or.inl rfl | exact Or.inr rfl) (eh_lc (own := [("_law_at", 4)]) false (by rfl) nd (ih_range1 (by rfl) f_range (ah_cons (eh_v 1 (pv 1)) ah_nil)) (blkOk_by (N := ["_law_generator_here", "_law_wide", "_law_many", "_law_rooms", "_law_at", "_law_tanks", "_law_names", "_law_deeds", "_law_name", "_law_room", "_law_takes", "_law_gives"]) (sc := defScope (top 70)) (by decide +kernel)) (by decide) (fun _ _ _ _ _ => (gh_name 4 (pg_name nd rfl (by first | exact Or.inl rfl | exact Or.inr rfl)))) (fun _ _ _ _ _ => ts_nil) (fun _ _ _ _ _ => (eh_ix (eh_lst false (ah_cons eh_non (ah_cons eh_non (ah_cons eh_int (ah_cons eh_int (ah_cons eh_int (ah_cons eh_int ah_nil))))))) (eh_callK k_law_randomC q (by decide) takes0 (by rfl) (ah_cons (eh_v 0 (pv 0)) (ah_cons eh_int ah_nil))) (fun _ _ => rfl))))))
  (ss_cons (by first | exact (sh_setLc (i := 5) (own := [("_law_at", 4)]) false (by rfl) nd rfl rfl rfl (by decide) (by decide +kernel) (ih_range1 (by rfl) f_range (ah_cons (eh_v 1 (pv 1)) ah_nil)) (blkOk_by (N := ["_law_generator_here", "_law_wide", "_law_many", "_law_rooms", "_law_at", "_law_tanks", "_law_names", "_law_deeds", "_law_name", "_law_room", "_law_takes", "_law_gives"]) (sc := defScope (top 70)) (by decide +kernel)) (by decide) (fun _ _ _ _ _ => (gh_name 4 (pg_name nd rfl (by first | exact Or.inl rfl | exact Or.inr rfl)))) (fun _ _ _ _ _ => ts_nil) (fun _ _ _ _ _ => (eh_tup (ah_cons (eh_ix eh_str (eh_v 4 (pv 4)) (fun _ _ => rfl)) (ah_cons (eh_ix (eh_v 3 (pv 3)) (eh_v 4 (pv 4)) (fun _ _ => rfl)) ah_nil))))) | exact (sh_set (i := 5) nd rfl (by first | exact Or.inl rfl | exact Or.inr rfl) (eh_lc (own := [("_law_at", 4)]) false (by rfl) nd (ih_range1 (by rfl) f_range (ah_cons (eh_v 1 (pv 1)) ah_nil)) (blkOk_by (N := ["_law_generator_here", "_law_wide", "_law_many", "_law_rooms", "_law_at", "_law_tanks", "_law_names", "_law_deeds", "_law_name", "_law_room", "_law_takes", "_law_gives"]) (sc := defScope (top 70)) (by decide +kernel)) (by decide) (fun _ _ _ _ _ => (gh_name 4 (pg_name nd rfl (by first | exact Or.inl rfl | exact Or.inr rfl)))) (fun _ _ _ _ _ => ts_nil) (fun _ _ _ _ _ => (eh_tup (ah_cons (eh_ix eh_str (eh_v 4 (pv 4)) (fun _ _ => rfl)) (ah_cons (eh_ix (eh_v 3 (pv 3)) (eh_v 4 (pv 4)) (fun _ _ => rfl)) ah_nil)))))))
  (ss_cons (sh_par (i := 6) (j := 7) (by rfl) nd rfl rfl (by decide) rfl rfl (ah_cons (eh_lcA (own := [("_law_name", 8), ("_law_room", 9)]) false (by rfl) nd (eh_v 5 (pv 5)) (blkOk_by (N := ["_law_generator_here", "_law_wide", "_law_many", "_law_rooms", "_law_at", "_law_tanks", "_law_names", "_law_deeds", "_law_name", "_law_room", "_law_takes", "_law_gives"]) (sc := defScope (top 70)) (by decide +kernel)) (by decide) (fun _ _ _ _ _ => (gh_tup (by rfl) (gh_cons (gh_name 8 (pg_name nd rfl (by first | exact Or.inl rfl | exact Or.inr rfl))) (gh_cons (gh_name 9 (pg_name nd rfl (by first | exact Or.inl rfl | exact Or.inr rfl))) gh_nil)))) (fun _ _ _ _ _ => ts_nil) (fun _ _ _ _ _ => (eh_v 8 (pv 8)))) (ah_cons (eh_lst true ah_nil) ah_nil)) (by rfl))
  (ss_cons (sh_for pp (by rfl) (ih_range1 (by rfl) f_range (ah_cons (eh_v 2 (pv 2)) ah_nil)) (gh_name 4 (pg_name nd rfl (by first | exact Or.inl rfl | exact Or.inr rfl))) (ss_cons (sh_par (i := 10) (j := 11) (by rfl) nd rfl rfl (by decide) rfl rfl (ah_cons (eh_callK k_law_parts_drawnC q (by decide) tk (by rfl) (ah_cons (eh_v 0 (pv 0)) (ah_cons (eh_v 6 (pv 6)) (ah_cons eh_int ah_nil)))) (ah_cons (eh_callK k_law_parts_drawnC q (by decide) tk (by rfl) (ah_cons (eh_v 0 (pv 0)) (ah_cons (eh_v 6 (pv 6)) (ah_cons eh_int ah_nil)))) ah_nil)) (by rfl))
  (ss_one (sh_expr (eh_app (eh_v 7 (pv 7)) (ah_cons (eh_tup (ah_cons (eh_ix eh_str (eh_v 4 (pv 4)) (fun _ _ => rfl)) (ah_cons (eh_v 10 (pv 10)) (ah_cons (eh_v 11 (pv 11)) ah_nil)))) ah_nil))))))
  (ss_one (sh_ret (eh_frz (eh_tup (ah_cons (eh_v 5 (pv 5)) (ah_cons (eh_v 7 (pv 7)) ah_nil))))))))))
theorem sc_law_common : FnScope ["_law_one", "_law_other"] ["_law_one", "_law_other"] (defScope (top 63)) := ⟨rfl, rfl, rfl, by decide +kernel, rfl, by decide +kernel, by decide +kernel⟩
def lw_law_common_1 : SDen :=
  (sPar 0 1 (aCons (dV 1) (aCons (d2 fMod (dV 0) (dV 1)) aNil)))
def d_law_common : SDen :=
  (sSeq (sWhile (dBool (d2 (fEq true) (dV 1) (dC (.int 0)))) lw_law_common_1)
  (sRet (dV 0)))
theorem b_law_common {P : Program} {w : World} {K : PySem.W.Frag} {mg : Str → Option Value} {base : Heap} {f : Addr}  : BodyH P w K mg base ["_law_one", "_law_other"] 0 f "_law_common" (defScope (top 63)) (defBody (top 63)) d_law_common := fun cdv A outer s H E q tk pp => by
  have nd := sc_law_common.nd
  have hu1 := hu64 q.1
  have hu2 := hu65 q.1
  exact (ss_cons (sh_while pp (th_cmp (op_neD hu1) prNe (eh_v 1 (pv 1)) eh_int (by rfl)) (ss_one (sh_par (i := 0) (j := 1) (by rfl) nd rfl rfl (by decide) rfl rfl (ah_cons (eh_v 1 (pv 1)) (ah_cons (eh_mod (eh_v 0 (pv 0)) (eh_v 1 (pv 1))) ah_nil)) (by rfl))))
  (ss_one (sh_ret (eh_v 0 (pv 0)))))
theorem sc_law_part : FnScope ["_law_over", "_law_under", "_law_common_here"] ["_law_over", "_law_under"] (defScope (top 64)) := ⟨rfl, rfl, rfl, by decide +kernel, rfl, by decide +kernel, by decide +kernel⟩
def d_law_part : SDen :=
  (sSeq (sAsg (bN 2) (dCall 2 (runF 2 d_law_common) [] (aCons (dCB fAbs (aCons (dV 0) aNil)) (aCons (dV 1) aNil))))
  (sRet (dTup (aCons (d2 fFdiv (dV 0) (dV 2)) (aCons (d2 fFdiv (dV 1) (dV 2)) aNil)))))
theorem b_law_part {P : Program} {w : World} {K : PySem.W.Frag} {mg : Str → Option Value} {base : Heap} {f : Addr} (f_abs : mg "abs" = none) (k_law_common : Cal P w K mg base "_law_common" 1 2 [] (runF 2 d_law_common)) : BodyH P w K mg base ["_law_over", "_law_under", "_law_common_here"] 1 f "_law_part" (defScope (top 64)) (defBody (top 64)) d_law_part := fun cdv A outer s H E q tk pp => by
  have nd := sc_law_part.nd
  have hu1 := hu64 q.1
  have hu2 := hu65 q.1
  exact (ss_cons (sh_set (i := 2) nd rfl (by first | exact Or.inl rfl | exact Or.inr rfl) (eh_callK k_law_common q (by decide) tk (by rfl) (ah_cons (eh_callB prAbs call_abs (by rfl) f_abs (by first | rfl | decide +kernel) (ah_cons (eh_v 0 (pv 0)) ah_nil)) (ah_cons (eh_v 1 (pv 1)) ah_nil))))
  (ss_one (sh_ret (eh_tup (ah_cons (eh_fdiv (eh_v 0 (pv 0)) (eh_v 2 (pv 2))) (ah_cons (eh_fdiv (eh_v 1 (pv 1)) (eh_v 2 (pv 2))) ah_nil))))))
theorem sc_law_amount_drawn : FnScope ["_law_generator_here", "_law_most"] ["_law_generator_here", "_law_most"] (defScope (top 67)) := ⟨rfl, rfl, rfl, by decide +kernel, rfl, by decide +kernel, by decide +kernel⟩
def d_law_amount_drawn : SDen :=
  (sRet (dCall 2 (runF 3 d_law_part) [] (aCons (dCall 2 (runC 4 d_law_random) [] (aCons (dV 0) (aCons (dAdd (dMul (dC (.int 2)) (dV 1)) (dC (.int 1))) aNil))) (aCons (d2 fIx (dLst false (aCons (dC (.int 1)) (aCons (dC (.int 2)) (aCons (dC (.int 2)) (aCons (dC (.int 3)) aNil))))) (dCall 2 (runC 4 d_law_random) [] (aCons (dV 0) (aCons (dC (.int 4)) aNil)))) aNil))))
theorem b_law_amount_drawn {P : Program} {w : World} {K : PySem.W.Frag} {mg : Str → Option Value} {base : Heap} {f : Addr} (k_law_randomC : Cal P w K mg base "_law_random" 2 2 [] (runC 4 d_law_random)) (k_law_part : Cal P w K mg base "_law_part" 2 2 [] (runF 3 d_law_part)) : BodyH P w K mg base ["_law_generator_here", "_law_most"] 2 f "_law_amount_drawn" (defScope (top 67)) (defBody (top 67)) d_law_amount_drawn := fun cdv A outer s H E q tk pp => by
  have nd := sc_law_amount_drawn.nd
  have hu1 := hu64 q.1
  have hu2 := hu65 q.1
  exact (ss_one (sh_ret (eh_callK k_law_part q (by decide) tk (by rfl) (ah_cons (eh_callK k_law_randomC q (by decide) tk (by rfl) (ah_cons (eh_v 0 (pv 0)) (ah_cons (eh_add (eh_mul eh_int (eh_v 1 (pv 1))) eh_int) ah_nil))) (ah_cons (eh_ix (eh_lst false (ah_cons eh_int (ah_cons eh_int (ah_cons eh_int (ah_cons eh_int ah_nil))))) (eh_callK k_law_randomC q (by decide) tk (by rfl) (ah_cons (eh_v 0 (pv 0)) (ah_cons eh_int ah_nil))) (fun _ _ => rfl)) ah_nil)))))
theorem sc_law_less : FnScope ["_law_one", "_law_other"] ["_law_one", "_law_other"] (defScope (top 62)) := ⟨rfl, rfl, rfl, by decide +kernel, rfl, by decide +kernel, by decide +kernel⟩
def d_law_less : SDen :=
  (sRet (dLt (dMul (d2 fIx (dV 0) (dC (.int 0))) (d2 fIx (dV 1) (dC (.int 1)))) (dMul (d2 fIx (dV 1) (dC (.int 0))) (d2 fIx (dV 0) (dC (.int 1))))))
theorem b_law_less {P : Program} {w : World} {K : PySem.W.Frag} {mg : Str → Option Value} {base : Heap} {f : Addr}  : BodyH P w K mg base ["_law_one", "_law_other"] 0 f "_law_less" (defScope (top 62)) (defBody (top 62)) d_law_less := fun cdv A outer s H E q tk pp => by
  have nd := sc_law_less.nd
  have hu1 := hu64 q.1
  have hu2 := hu65 q.1
  exact (ss_one (sh_ret (eh_lt (eh_mul (eh_ix (eh_v 0 (pv 0)) eh_int (fun _ _ => rfl)) (eh_ix (eh_v 1 (pv 1)) eh_int (fun _ _ => rfl))) (eh_mul (eh_ix (eh_v 1 (pv 1)) eh_int (fun _ _ => rfl)) (eh_ix (eh_v 0 (pv 0)) eh_int (fun _ _ => rfl))))))
theorem sc_law_held_drawn : FnScope ["_law_generator_here", "_law_tanks", "_law_found", "_law_name", "_law_room", "_law_amount"] ["_law_generator_here", "_law_tanks"] (defScope (top 68)) := ⟨rfl, rfl, rfl, by decide +kernel, rfl, by decide +kernel, by decide +kernel⟩
def lb_law_held_drawn_1 : SDen :=
  (sSeq (sAsg (bN 5) (d2 fIx (dLst false (aCons (dTup (aCons (dC (.int 0)) (aCons (dC (.int 1)) aNil))) (aCons (dCall 2 (runC 2 d_law_amount_drawn) [] (aCons (dV 0) (aCons (dC (.int 3)) aNil))) (aCons (dTup (aCons (dIf (dBool (d2 (fIsN false) (dV 4) (dC .non))) (dC (.int 1)) (dV 4)) (aCons (dC (.int 1)) aNil))) aNil)))) (dCall 2 (runC 4 d_law_random) [] (aCons (dV 0) (aCons (dC (.int 3)) aNil)))))
  (sSeq (sIf (tdAnd (dBool (d2 (fIsN true) (dV 4) (dC .non))) (dTru (dCall 2 (runF 2 d_law_less) [] (aCons (dTup (aCons (dV 4) (aCons (dC (.int 1)) aNil))) (aCons (dV 5) aNil))))) (sAsg (bN 5) (dTup (aCons (dV 4) (aCons (dC (.int 1)) aNil)))) sNil)
  (sExp (dApp (dV 2) (aCons (dV 5) aNil)))))
def d_law_held_drawn : SDen :=
  (sSeq (sAsg (bN 2) (dLst true aNil))
  (sSeq (sForA (dV 1) (bTup 2 (bCons (bN 3) (bCons (bN 4) bNil))) lb_law_held_drawn_1)
  (sRet (dFrz (dV 2)))))
theorem b_law_held_drawn {P : Program} {w : World} {K : PySem.W.Frag} {mg : Str → Option Value} {base : Heap} {f : Addr} (k_law_amount_drawnC : Cal P w K mg base "_law_amount_drawn" 3 2 [] (runC 2 d_law_amount_drawn)) (k_law_randomC : Cal P w K mg base "_law_random" 2 2 [] (runC 4 d_law_random)) (k_law_less : Cal P w K mg base "_law_less" 1 2 [] (runF 2 d_law_less)) : BodyH P w K mg base ["_law_generator_here", "_law_tanks", "_law_found", "_law_name", "_law_room", "_law_amount"] 3 f "_law_held_drawn" (defScope (top 68)) (defBody (top 68)) d_law_held_drawn := fun cdv A outer s H E q tk pp => by
  have nd := sc_law_held_drawn.nd
  have hu1 := hu64 q.1
  have hu2 := hu65 q.1
  exact (ss_cons (sh_set (i := 2) nd rfl (by first | exact Or.inl rfl | exact Or.inr rfl) (eh_lst true ah_nil))
  (ss_cons (sh_forA pp (by rfl) (eh_v 1 (pv 1)) (gh_tup (by rfl) (gh_cons (gh_name 3 (pg_name nd rfl (by first | exact Or.inl rfl | exact Or.inr rfl))) (gh_cons (gh_name 4 (pg_name nd rfl (by first | exact Or.inl rfl | exact Or.inr rfl))) gh_nil))) (ss_cons (sh_set (i := 5) nd rfl (by first | exact Or.inl rfl | exact Or.inr rfl) (eh_ix (eh_lst false (ah_cons (eh_tup (ah_cons eh_int (ah_cons eh_int ah_nil))) (ah_cons (eh_callK k_law_amount_drawnC q (by decide) tk (by rfl) (ah_cons (eh_v 0 (pv 0)) (ah_cons eh_int ah_nil))) (ah_cons (eh_tup (ah_cons (eh_if (th_cmp op_isN prIsN (eh_v 4 (pv 4)) eh_non (by rfl)) eh_int (eh_v 4 (pv 4))) (ah_cons eh_int ah_nil))) ah_nil)))) (eh_callK k_law_randomC q (by decide) tk (by rfl) (ah_cons (eh_v 0 (pv 0)) (ah_cons eh_int ah_nil))) (fun _ _ => rfl)))
  (ss_cons (sh_if (th_bop (wh_and (th_cmp op_notN prNotN (eh_v 4 (pv 4)) eh_non (by rfl)) (wh_and1 (th_tru (eh_callK k_law_less q (by decide) tk (by rfl) (ah_cons (eh_tup (ah_cons (eh_v 4 (pv 4)) (ah_cons eh_int ah_nil))) (ah_cons (eh_v 5 (pv 5)) ah_nil))))))) (ss_one (sh_set (i := 5) nd rfl (by first | exact Or.inl rfl | exact Or.inr rfl) (eh_tup (ah_cons (eh_v 4 (pv 4)) (ah_cons eh_int ah_nil))))) ss_nil)
  (ss_one (sh_expr (eh_app (eh_v 2 (pv 2)) (ah_cons (eh_v 5 (pv 5)) ah_nil)))))))
  (ss_one (sh_ret (eh_frz (eh_v 2 (pv 2)))))))
theorem sc_is_list_within : FnScope ["value", "least", "most"] ["value", "least", "most"] (defScope (top 23)) := ⟨rfl, rfl, rfl, by decide +kernel, rfl, by decide +kernel, by decide +kernel⟩
def d_is_list_within : SDen :=
  (sRet (dAnd (dCB (fIs oc xc kq) (aCons (dV 0) (aCons (dC (.ty "list")) aNil))) (dChain (fII fun i j => .bl (decide (i ≤ j))) (fII fun i j => .bl (decide (i ≤ j))) (dV 1) (dCB fLen (aCons (dV 0) aNil)) (dV 2))))
theorem b_is_list_within {P : Program} {w : World} {K : PySem.W.Frag} {mg : Str → Option Value} {base : Heap} {f : Addr} (f_list : mg "list" = none) (f_isinstance : mg "isinstance" = none) (tis : IsK K oc xc kq) (f_len : mg "len" = none) : BodyH P w K mg base ["value", "least", "most"] 0 f "is_list_within" (defScope (top 23)) (defBody (top 23)) d_is_list_within := fun cdv A outer s H E q tk pp => by
  have nd := sc_is_list_within.nd
  have hu1 := hu64 q.1
  have hu2 := hu65 q.1
  exact (ss_one (sh_ret (eh_and (eh_callB (prIs tis) (call_isAll tis.all) (by rfl) f_isinstance (by first | rfl | decide +kernel) (ah_cons (eh_v 0 (pv 0)) (ah_cons (eh_bty (by rfl) f_list boot_list) ah_nil))) (eh_one (eh_chain op_le (prII fun _ _ _ _ _ => .bl _) op_le (prII fun _ _ _ _ _ => .bl _) (eh_v 1 (pv 1)) (eh_callB prLen call_len (by rfl) f_len PySem.boot_len (ah_cons (eh_v 0 (pv 0)) ah_nil)) (eh_v 2 (pv 2)))))))
theorem sc_is_tuple_of : FnScope ["value", "length"] ["value", "length"] (defScope (top 24)) := ⟨rfl, rfl, rfl, by decide +kernel, rfl, by decide +kernel, by decide +kernel⟩
def d_is_tuple_of : SDen :=
  (sRet (dAnd (dCB (fIs oc xc kq) (aCons (dV 0) (aCons (dC (.ty "tuple")) aNil))) (d2 (fEq false) (dCB fLen (aCons (dV 0) aNil)) (dV 1))))
theorem b_is_tuple_of {P : Program} {w : World} {K : PySem.W.Frag} {mg : Str → Option Value} {base : Heap} {f : Addr} (f_tuple : mg "tuple" = none) (f_isinstance : mg "isinstance" = none) (tis : IsK K oc xc kq) (f_len : mg "len" = none) : BodyH P w K mg base ["value", "length"] 0 f "is_tuple_of" (defScope (top 24)) (defBody (top 24)) d_is_tuple_of := fun cdv A outer s H E q tk pp => by
  have nd := sc_is_tuple_of.nd
  have hu1 := hu64 q.1
  have hu2 := hu65 q.1
  exact (ss_one (sh_ret (eh_and (eh_callB (prIs tis) (call_isAll tis.all) (by rfl) f_isinstance (by first | rfl | decide +kernel) (ah_cons (eh_v 0 (pv 0)) (ah_cons (eh_bty (by rfl) f_tuple boot_tuple) ah_nil))) (eh_one (eh_eq hu1 (eh_callB prLen call_len (by rfl) f_len PySem.boot_len (ah_cons (eh_v 0 (pv 0)) ah_nil)) (eh_v 1 (pv 1)))))))
theorem sc_is_name : FnScope ["value", "sign"] ["value"] (defScope (top 21)) := ⟨rfl, rfl, rfl, by decide +kernel, rfl, by decide +kernel, by decide +kernel⟩
def ce_is_name_1 : Den :=
  (d2 (fInS false) (dV 1) (dC (.str "abcdefghijklmnopqrstuvwxyz0123456789")))
def d_is_name : SDen :=
  (sSeq (sIf (tdOr (tdNot (dTru (dCB (fIs oc xc kq) (aCons (dV 0) (aCons (dC (.ty "str")) aNil))))) (tdNot (dBool (dChain (fII fun i j => .bl (decide (i ≤ j))) (fII fun i j => .bl (decide (i ≤ j))) (dC (.int 1)) (dCB fLen (aCons (dV 0) aNil)) (dC (.int 8)))))) (sRet (dC (.bl false))) sNil)
  (sRet (dAnd (d2 (fInS false) (d2 fIx (dV 0) (dC (.int 0))) (dC (.str "abcdefghijklmnopqrstuvwxyz"))) (dCB fAll (aCons (dLcA false [1] (dV 0) (bN 1) tdYes ce_is_name_1) aNil)))))
theorem b_is_name {P : Program} {w : World} {K : PySem.W.Frag} {mg : Str → Option Value} {base : Heap} {f : Addr} (f_str : mg "str" = none) (f_isinstance : mg "isinstance" = none) (tis : IsK K oc xc kq) (f_len : mg "len" = none) (c_LONGEST_NAME : ∃ u, mg "LONGEST_NAME" = some u ∧ RelV (.int 8) u) (c_LETTERS : ∃ u, mg "LETTERS" = some u ∧ RelV (.str "abcdefghijklmnopqrstuvwxyz") u) (c_SIGNS : ∃ u, mg "SIGNS" = some u ∧ RelV (.str "abcdefghijklmnopqrstuvwxyz0123456789") u) (f_all : mg "all" = none) : BodyH P w K mg base ["value", "sign"] 0 f "is_name" (defScope (top 21)) (defBody (top 21)) d_is_name := fun cdv A outer s H E q tk pp => by
  have nd := sc_is_name.nd
  have hu1 := hu64 q.1
  have hu2 := hu65 q.1
  exact (ss_cons (sh_if (th_bor (wh_or (th_not (th_tru (eh_callB (prIs tis) (call_isAll tis.all) (by rfl) f_isinstance (by first | rfl | decide +kernel) (ah_cons (eh_v 0 (pv 0)) (ah_cons (eh_bty (by rfl) f_str boot_str) ah_nil))))) (wh_or1 (th_not (th_chain op_le (prII fun _ _ _ _ _ => .bl _) op_le (prII fun _ _ _ _ _ => .bl _) eh_int (eh_callB prLen call_len (by rfl) f_len PySem.boot_len (ah_cons (eh_v 0 (pv 0)) ah_nil)) (eh_gc (by rfl) c_LONGEST_NAME fun _ _ _ => .int _)))))) (ss_one (sh_ret eh_bl)) ss_nil)
  (ss_one (sh_ret (eh_and (eh_inS (eh_ix (eh_v 0 (pv 0)) eh_int (fun _ _ => rfl)) (eh_gc (by rfl) c_LETTERS fun _ _ _ => .str _)) (eh_one (eh_callB prAll (cr_all (by rfl)) (by rfl) f_all (by first | rfl | decide +kernel) (ah_cons (eh_lcA (own := [("sign", 1)]) false (by rfl) nd (eh_v 0 (pv 0)) (blkOk_by (N := ["value", "sign"]) (sc := defScope (top 21)) (by decide +kernel)) (by decide) (fun _ _ _ _ _ => (gh_name 1 (pg_name nd rfl (by first | exact Or.inl rfl | exact Or.inr rfl)))) (fun _ _ _ _ _ => ts_nil) (fun _ _ _ _ _ => (eh_inS (eh_v 1 (pv 1)) (eh_gc (by rfl) c_SIGNS fun _ _ _ => .str _)))) ah_nil)))))))
theorem sc_is_whole : FnScope ["value"] ["value"] (defScope (top 16)) := ⟨rfl, rfl, rfl, by decide +kernel, rfl, by decide +kernel, by decide +kernel⟩
def d_is_whole : SDen :=
  (sRet (dAnd (dCB (fIs oc xc kq) (aCons (dV 0) (aCons (dC (.ty "int")) aNil))) (dNot (dCB (fIs oc xc kq) (aCons (dV 0) (aCons (dC (.ty "bool")) aNil))))))
theorem b_is_whole {P : Program} {w : World} {K : PySem.W.Frag} {mg : Str → Option Value} {base : Heap} {f : Addr} (f_int : mg "int" = none) (f_isinstance : mg "isinstance" = none) (tis : IsK K oc xc kq) (f_bool : mg "bool" = none) : BodyH P w K mg base ["value"] 0 f "is_whole" (defScope (top 16)) (defBody (top 16)) d_is_whole := fun cdv A outer s H E q tk pp => by
  have nd := sc_is_whole.nd
  have hu1 := hu64 q.1
  have hu2 := hu65 q.1
  exact (ss_one (sh_ret (eh_and (eh_callB (prIs tis) (call_isAll tis.all) (by rfl) f_isinstance (by first | rfl | decide +kernel) (ah_cons (eh_v 0 (pv 0)) (ah_cons (eh_bty (by rfl) f_int boot_int) ah_nil))) (eh_one (eh_not (eh_callB (prIs tis) (call_isAll tis.all) (by rfl) f_isinstance (by first | rfl | decide +kernel) (ah_cons (eh_v 0 (pv 0)) (ah_cons (eh_bty (by rfl) f_bool boot_bool) ah_nil))))))))
theorem sc_is_whole_within : FnScope ["value", "least", "most"] ["value", "least", "most"] (defScope (top 17)) := ⟨rfl, rfl, rfl, by decide +kernel, rfl, by decide +kernel, by decide +kernel⟩
def d_is_whole_within : SDen :=
  (sRet (dAnd (dCall 1 (runF 1 d_is_whole) [] (aCons (dV 0) aNil)) (dChain (fII fun i j => .bl (decide (i ≤ j))) (fII fun i j => .bl (decide (i ≤ j))) (dV 1) (dV 0) (dV 2))))
theorem b_is_whole_within {P : Program} {w : World} {K : PySem.W.Frag} {mg : Str → Option Value} {base : Heap} {f : Addr} (k_is_whole : Cal P w K mg base "is_whole" 1 1 [] (runF 1 d_is_whole)) : BodyH P w K mg base ["value", "least", "most"] 1 f "is_whole_within" (defScope (top 17)) (defBody (top 17)) d_is_whole_within := fun cdv A outer s H E q tk pp => by
  have nd := sc_is_whole_within.nd
  have hu1 := hu64 q.1
  have hu2 := hu65 q.1
  exact (ss_one (sh_ret (eh_and (eh_callK k_is_whole q (by decide) tk (by rfl) (ah_cons (eh_v 0 (pv 0)) ah_nil)) (eh_one (eh_chain op_le (prII fun _ _ _ _ _ => .bl _) op_le (prII fun _ _ _ _ _ => .bl _) (eh_v 1 (pv 1)) (eh_v 0 (pv 0)) (eh_v 2 (pv 2)))))))
theorem sc_is_stuff : FnScope ["value"] ["value"] (defScope (top 44)) := ⟨rfl, rfl, rfl, by decide +kernel, rfl, by decide +kernel, by decide +kernel⟩
def d_is_stuff : SDen :=
  (sSeq (sIf (tdOr (tdNot (dTru (dCall 2 (runF 2 d_is_tuple_of) [] (aCons (dV 0) (aCons (dC (.int 2)) aNil))))) (tdNot (dTru (dCall 1 (runF 2 d_is_name) [] (aCons (d2 fIx (dV 0) (dC (.int 0))) aNil))))) (sRet (dC (.bl false))) sNil)
  (sRet (dOr (d2 (fIsN false) (d2 fIx (dV 0) (dC (.int 1))) (dC .non)) (dCall 3 (runF 3 d_is_whole_within) [] (aCons (d2 fIx (dV 0) (dC (.int 1))) (aCons (dC (.int 0)) (aCons (dC (.int 1000000)) aNil)))))))
theorem b_is_stuff {P : Program} {w : World} {K : PySem.W.Frag} {mg : Str → Option Value} {base : Heap} {f : Addr} (k_is_tuple_of : Cal P w K mg base "is_tuple_of" 1 2 [] (runF 2 d_is_tuple_of)) (k_is_name : Cal P w K mg base "is_name" 1 1 [] (runF 2 d_is_name)) (c_GREATEST : ∃ u, mg "GREATEST" = some u ∧ RelV (.int 1000000) u) (k_is_whole_within : Cal P w K mg base "is_whole_within" 2 3 [] (runF 3 d_is_whole_within)) : BodyH P w K mg base ["value"] 2 f "is_stuff" (defScope (top 44)) (defBody (top 44)) d_is_stuff := fun cdv A outer s H E q tk pp => by
  have nd := sc_is_stuff.nd
  have hu1 := hu64 q.1
  have hu2 := hu65 q.1
  exact (ss_cons (sh_if (th_bor (wh_or (th_not (th_tru (eh_callK k_is_tuple_of q (by decide) tk (by rfl) (ah_cons (eh_v 0 (pv 0)) (ah_cons eh_int ah_nil))))) (wh_or1 (th_not (th_tru (eh_callK k_is_name q (by decide) tk (by rfl) (ah_cons (eh_ix (eh_v 0 (pv 0)) eh_int (fun _ _ => rfl)) ah_nil))))))) (ss_one (sh_ret eh_bl)) ss_nil)
  (ss_one (sh_ret (eh_or (eh_isN (eh_ix (eh_v 0 (pv 0)) eh_int (fun _ _ => rfl)) eh_non) (eh_one (eh_callK k_is_whole_within q (by decide) tk (by rfl) (ah_cons (eh_ix (eh_v 0 (pv 0)) eh_int (fun _ _ => rfl)) (ah_cons eh_int (ah_cons (eh_gc (by rfl) c_GREATEST fun _ _ _ => .int _) ah_nil)))))))))
theorem sc_need_stuffs : FnScope ["stuffs", "earlier", "stuff"] ["stuffs"] (defScope (top 47)) := ⟨rfl, rfl, rfl, by decide +kernel, rfl, by decide +kernel, by decide +kernel⟩
def lb_need_stuffs_1 : SDen :=
  (sSeq (sIf (tdOr (tdNot (dTru (dCall 1 (runF 1 d_is_stuff) [] (aCons (dV 2) aNil)))) (dBool (d2 (fIn false) (d2 fIx (dV 2) (dC (.int 0))) (dV 1)))) (sRaise "InvalidItem" "value" (aCons (dV 2) aNil)) sNil)
  (sExp (dApp (dV 1) (aCons (d2 fIx (dV 2) (dC (.int 0))) aNil))))
def d_need_stuffs : SDen :=
  (sSeq (sAsg (bN 1) (dLst true aNil))
  (sForA (dV 0) (bN 2) lb_need_stuffs_1))
theorem b_need_stuffs {P : Program} {w : World} {K : PySem.W.Frag} {mg : Str → Option Value} {base : Heap} {f : Addr} (k_is_stuff : Cal P w K mg base "is_stuff" 3 1 [] (runF 1 d_is_stuff)) (r_InvalidItem : RaiseK P w K mg base "InvalidItem" "value") : BodyH P w K mg base ["stuffs", "earlier", "stuff"] 3 f "_need_stuffs" (defScope (top 47)) (defBody (top 47)) d_need_stuffs := fun cdv A outer s H E q tk pp => by
  have nd := sc_need_stuffs.nd
  have hu1 := hu64 q.1
  have hu2 := hu65 q.1
  exact (ss_cons (sh_set (i := 1) nd rfl (by first | exact Or.inl rfl | exact Or.inr rfl) (eh_lst true ah_nil))
  (ss_one (sh_forA pp (by rfl) (eh_v 0 (pv 0)) (gh_name 2 (pg_name nd rfl (by first | exact Or.inl rfl | exact Or.inr rfl))) (ss_cons (sh_if (th_bor (wh_or (th_not (th_tru (eh_callK k_is_stuff q (by decide) tk (by rfl) (ah_cons (eh_v 2 (pv 2)) ah_nil)))) (wh_or1 (th_cmp (op_inD hu2) prIn (eh_ix (eh_v 2 (pv 2)) eh_int (fun _ _ => rfl)) (eh_v 1 (pv 1)) (by rfl))))) (ss_one (sh_raiseK r_InvalidItem (by rfl) q tk (by rfl) (by decide) (ah_cons (eh_v 2 (pv 2)) ah_nil))) ss_nil)
  (ss_one (sh_expr (eh_app (eh_v 1 (pv 1)) (ah_cons (eh_ix (eh_v 2 (pv 2)) eh_int (fun _ _ => rfl)) ah_nil))))))))
theorem sc_is_side : FnScope ["stuff_names", "value", "earlier", "pair"] ["stuff_names", "value"] (defScope (top 49)) := ⟨rfl, rfl, rfl, by decide +kernel, rfl, by decide +kernel, by decide +kernel⟩
def lb_is_side_1 : SDen :=
  (sSeq (sIf (tdOr (tdNot (dTru (dCall 2 (runF 2 d_is_tuple_of) [] (aCons (dV 3) (aCons (dC (.int 2)) aNil))))) (tdOr (tdNot (dTru (dCB (fIs oc xc kq) (aCons (d2 fIx (dV 3) (dC (.int 0))) (aCons (dC (.ty "str")) aNil))))) (tdNot (dTru (dCall 3 (runF 3 d_is_whole_within) [] (aCons (d2 fIx (dV 3) (dC (.int 1))) (aCons (dC (.int 1)) (aCons (dC (.int 1000000)) aNil)))))))) (sRet (dC (.bl false))) sNil)
  (sSeq (sIf (tdOr (dBool (d2 (fIn true) (d2 fIx (dV 3) (dC (.int 0))) (dV 0))) (dBool (d2 (fIn false) (d2 fIx (dV 3) (dC (.int 0))) (dV 2)))) (sRet (dC (.bl false))) sNil)
  (sExp (dApp (dV 2) (aCons (d2 fIx (dV 3) (dC (.int 0))) aNil)))))
def d_is_side : SDen :=
  (sSeq (sIf (tdNot (dTru (dCall 3 (runF 3 d_is_list_within) [] (aCons (dV 1) (aCons (dC (.int 0)) (aCons (dCB fLen (aCons (dV 0) aNil)) aNil)))))) (sRet (dC (.bl false))) sNil)
  (sSeq (sAsg (bN 2) (dLst true aNil))
  (sSeq (sForA (dV 1) (bN 3) lb_is_side_1)
  (sRet (dC (.bl true))))))
theorem b_is_side {P : Program} {w : World} {K : PySem.W.Frag} {mg : Str → Option Value} {base : Heap} {f : Addr} (f_len : mg "len" = none) (k_is_list_within : Cal P w K mg base "is_list_within" 1 3 [] (runF 3 d_is_list_within)) (k_is_tuple_of : Cal P w K mg base "is_tuple_of" 1 2 [] (runF 2 d_is_tuple_of)) (f_str : mg "str" = none) (f_isinstance : mg "isinstance" = none) (tis : IsK K oc xc kq) (c_GREATEST : ∃ u, mg "GREATEST" = some u ∧ RelV (.int 1000000) u) (k_is_whole_within : Cal P w K mg base "is_whole_within" 2 3 [] (runF 3 d_is_whole_within)) : BodyH P w K mg base ["stuff_names", "value", "earlier", "pair"] 2 f "_is_side" (defScope (top 49)) (defBody (top 49)) d_is_side := fun cdv A outer s H E q tk pp => by
  have nd := sc_is_side.nd
  have hu1 := hu64 q.1
  have hu2 := hu65 q.1
  exact (ss_cons (sh_if (th_not (th_tru (eh_callK k_is_list_within q (by decide) tk (by rfl) (ah_cons (eh_v 1 (pv 1)) (ah_cons eh_int (ah_cons (eh_callB prLen call_len (by rfl) f_len PySem.boot_len (ah_cons (eh_v 0 (pv 0)) ah_nil)) ah_nil)))))) (ss_one (sh_ret eh_bl)) ss_nil)
  (ss_cons (sh_set (i := 2) nd rfl (by first | exact Or.inl rfl | exact Or.inr rfl) (eh_lst true ah_nil))
  (ss_cons (sh_forA pp (by rfl) (eh_v 1 (pv 1)) (gh_name 3 (pg_name nd rfl (by first | exact Or.inl rfl | exact Or.inr rfl))) (ss_cons (sh_if (th_bor (wh_or (th_not (th_tru (eh_callK k_is_tuple_of q (by decide) tk (by rfl) (ah_cons (eh_v 3 (pv 3)) (ah_cons eh_int ah_nil))))) (wh_or (th_not (th_tru (eh_callB (prIs tis) (call_isAll tis.all) (by rfl) f_isinstance (by first | rfl | decide +kernel) (ah_cons (eh_ix (eh_v 3 (pv 3)) eh_int (fun _ _ => rfl)) (ah_cons (eh_bty (by rfl) f_str boot_str) ah_nil))))) (wh_or1 (th_not (th_tru (eh_callK k_is_whole_within q (by decide) tk (by rfl) (ah_cons (eh_ix (eh_v 3 (pv 3)) eh_int (fun _ _ => rfl)) (ah_cons eh_int (ah_cons (eh_gc (by rfl) c_GREATEST fun _ _ _ => .int _) ah_nil)))))))))) (ss_one (sh_ret eh_bl)) ss_nil)
  (ss_cons (sh_if (th_bor (wh_or (th_cmp (op_notInD hu2) prNotIn (eh_ix (eh_v 3 (pv 3)) eh_int (fun _ _ => rfl)) (eh_v 0 (pv 0)) (by rfl)) (wh_or1 (th_cmp (op_inD hu2) prIn (eh_ix (eh_v 3 (pv 3)) eh_int (fun _ _ => rfl)) (eh_v 2 (pv 2)) (by rfl))))) (ss_one (sh_ret eh_bl)) ss_nil)
  (ss_one (sh_expr (eh_app (eh_v 2 (pv 2)) (ah_cons (eh_ix (eh_v 3 (pv 3)) eh_int (fun _ _ => rfl)) ah_nil)))))))
  (ss_one (sh_ret eh_bl)))))
theorem sc_is_recipe : FnScope ["stuff_names", "value"] ["stuff_names", "value"] (defScope (top 45)) := ⟨rfl, rfl, rfl, by decide +kernel, rfl, by decide +kernel, by decide +kernel⟩
def d_is_recipe : SDen :=
  (sSeq (sIf (tdOr (tdNot (dTru (dCall 2 (runF 2 d_is_tuple_of) [] (aCons (dV 1) (aCons (dC (.int 3)) aNil))))) (tdNot (dTru (dCall 1 (runF 2 d_is_name) [] (aCons (d2 fIx (dV 1) (dC (.int 0))) aNil))))) (sRet (dC (.bl false))) sNil)
  (sRet (dAnd (dCall 2 (runF 4 d_is_side) [] (aCons (dV 0) (aCons (d2 fIx (dV 1) (dC (.int 1))) aNil))) (dCall 2 (runF 4 d_is_side) [] (aCons (dV 0) (aCons (d2 fIx (dV 1) (dC (.int 2))) aNil))))))
theorem b_is_recipe {P : Program} {w : World} {K : PySem.W.Frag} {mg : Str → Option Value} {base : Heap} {f : Addr} (k_is_tuple_of : Cal P w K mg base "is_tuple_of" 1 2 [] (runF 2 d_is_tuple_of)) (k_is_name : Cal P w K mg base "is_name" 1 1 [] (runF 2 d_is_name)) (k_is_side : Cal P w K mg base "_is_side" 3 2 [] (runF 4 d_is_side)) : BodyH P w K mg base ["stuff_names", "value"] 3 f "is_recipe" (defScope (top 45)) (defBody (top 45)) d_is_recipe := fun cdv A outer s H E q tk pp => by
  have nd := sc_is_recipe.nd
  have hu1 := hu64 q.1
  have hu2 := hu65 q.1
  exact (ss_cons (sh_if (th_bor (wh_or (th_not (th_tru (eh_callK k_is_tuple_of q (by decide) tk (by rfl) (ah_cons (eh_v 1 (pv 1)) (ah_cons eh_int ah_nil))))) (wh_or1 (th_not (th_tru (eh_callK k_is_name q (by decide) tk (by rfl) (ah_cons (eh_ix (eh_v 1 (pv 1)) eh_int (fun _ _ => rfl)) ah_nil))))))) (ss_one (sh_ret eh_bl)) ss_nil)
  (ss_one (sh_ret (eh_and (eh_callK k_is_side q (by decide) tk (by rfl) (ah_cons (eh_v 0 (pv 0)) (ah_cons (eh_ix (eh_v 1 (pv 1)) eh_int (fun _ _ => rfl)) ah_nil))) (eh_one (eh_callK k_is_side q (by decide) tk (by rfl) (ah_cons (eh_v 0 (pv 0)) (ah_cons (eh_ix (eh_v 1 (pv 1)) eh_int (fun _ _ => rfl)) ah_nil))))))))
theorem sc_need_recipes : FnScope ["stuff_names", "recipes", "earlier", "recipe"] ["stuff_names", "recipes"] (defScope (top 48)) := ⟨rfl, rfl, rfl, by decide +kernel, rfl, by decide +kernel, by decide +kernel⟩
def lb_need_recipes_1 : SDen :=
  (sSeq (sIf (tdOr (tdNot (dTru (dCall 2 (runF 2 d_is_recipe) [] (aCons (dV 0) (aCons (dV 3) aNil))))) (dBool (d2 (fIn false) (d2 fIx (dV 3) (dC (.int 0))) (dV 2)))) (sRaise "InvalidItem" "value" (aCons (dV 3) aNil)) sNil)
  (sExp (dApp (dV 2) (aCons (d2 fIx (dV 3) (dC (.int 0))) aNil))))
def d_need_recipes : SDen :=
  (sSeq (sAsg (bN 2) (dLst true aNil))
  (sForA (dV 1) (bN 3) lb_need_recipes_1))
theorem b_need_recipes {P : Program} {w : World} {K : PySem.W.Frag} {mg : Str → Option Value} {base : Heap} {f : Addr} (k_is_recipe : Cal P w K mg base "is_recipe" 4 2 [] (runF 2 d_is_recipe)) (r_InvalidItem : RaiseK P w K mg base "InvalidItem" "value") : BodyH P w K mg base ["stuff_names", "recipes", "earlier", "recipe"] 4 f "_need_recipes" (defScope (top 48)) (defBody (top 48)) d_need_recipes := fun cdv A outer s H E q tk pp => by
  have nd := sc_need_recipes.nd
  have hu1 := hu64 q.1
  have hu2 := hu65 q.1
  exact (ss_cons (sh_set (i := 2) nd rfl (by first | exact Or.inl rfl | exact Or.inr rfl) (eh_lst true ah_nil))
  (ss_one (sh_forA pp (by rfl) (eh_v 1 (pv 1)) (gh_name 3 (pg_name nd rfl (by first | exact Or.inl rfl | exact Or.inr rfl))) (ss_cons (sh_if (th_bor (wh_or (th_not (th_tru (eh_callK k_is_recipe q (by decide) tk (by rfl) (ah_cons (eh_v 0 (pv 0)) (ah_cons (eh_v 3 (pv 3)) ah_nil))))) (wh_or1 (th_cmp (op_inD hu2) prIn (eh_ix (eh_v 3 (pv 3)) eh_int (fun _ _ => rfl)) (eh_v 2 (pv 2)) (by rfl))))) (ss_one (sh_raiseK r_InvalidItem (by rfl) q tk (by rfl) (by decide) (ah_cons (eh_v 3 (pv 3)) ah_nil))) ss_nil)
  (ss_one (sh_expr (eh_app (eh_v 2 (pv 2)) (ah_cons (eh_ix (eh_v 3 (pv 3)) eh_int (fun _ _ => rfl)) ah_nil))))))))
theorem sc_copied : FnScope ["recipes", "name", "takes", "gives"] ["recipes"] (defScope (top 46)) := ⟨rfl, rfl, rfl, by decide +kernel, rfl, by decide +kernel, by decide +kernel⟩
def ce_copied_1 : Den :=
  (dTup (aCons (dV 1) (aCons (dCB (fList false) (aCons (dV 2) aNil)) (aCons (dCB (fList false) (aCons (dV 3) aNil)) aNil))))
def d_copied : SDen :=
  (sRet (dLcA false [1, 2, 3] (dV 0) (bTup 3 (bCons (bN 1) (bCons (bN 2) (bCons (bN 3) bNil)))) tdYes ce_copied_1))
theorem b_copied {P : Program} {w : World} {K : PySem.W.Frag} {mg : Str → Option Value} {base : Heap} {f : Addr} (f_list : mg "list" = none) : BodyH P w K mg base ["recipes", "name", "takes", "gives"] 0 f "_copied" (defScope (top 46)) (defBody (top 46)) d_copied := fun cdv A outer s H E q tk pp => by
  have nd := sc_copied.nd
  have hu1 := hu64 q.1
  have hu2 := hu65 q.1
  exact (ss_one (sh_ret (eh_lcA (own := [("name", 1), ("takes", 2), ("gives", 3)]) false (by rfl) nd (eh_v 0 (pv 0)) (blkOk_by (N := ["recipes", "name", "takes", "gives"]) (sc := defScope (top 46)) (by decide +kernel)) (by decide) (fun _ _ _ _ _ => (gh_tup (by rfl) (gh_cons (gh_name 1 (pg_name nd rfl (by first | exact Or.inl rfl | exact Or.inr rfl))) (gh_cons (gh_name 2 (pg_name nd rfl (by first | exact Or.inl rfl | exact Or.inr rfl))) (gh_cons (gh_name 3 (pg_name nd rfl (by first | exact Or.inl rfl | exact Or.inr rfl))) gh_nil))))) (fun _ _ _ _ _ => ts_nil) (fun _ _ _ _ _ => (eh_tup (ah_cons (eh_v 1 (pv 1)) (ah_cons (eh_callT prList call_list_of (by rfl) f_list boot_list (ah_cons (eh_v 2 (pv 2)) ah_nil)) (ah_cons (eh_callT prList call_list_of (by rfl) f_list boot_list (ah_cons (eh_v 3 (pv 3)) ah_nil)) ah_nil))))))))
theorem sc_Mill_init : FnScope ["self", "stuffs", "recipes", "name", "_"] ["self", "stuffs", "recipes"] (defScope (inClass (top 41) 0)) := ⟨rfl, rfl, rfl, by decide +kernel, rfl, by decide +kernel, by decide +kernel⟩
def d_Mill_init : SDen :=
  (sSeq (sIf (tdNot (dTru (dCall 3 (runF 3 d_is_list_within) [] (aCons (dV 1) (aCons (dC (.int 1)) (aCons (dC (.int 8)) aNil)))))) (sRaise "InvalidList" "value" (aCons (dV 1) aNil)) sNil)
  (sSeq (sExp (dCall 1 (runF 3 d_need_stuffs) [] (aCons (dV 1) aNil)))
  (sSeq (sIf (tdNot (dTru (dCall 3 (runF 3 d_is_list_within) [] (aCons (dV 2) (aCons (dC (.int 0)) (aCons (dC (.int 8)) aNil)))))) (sRaise "InvalidList" "value" (aCons (dV 2) aNil)) sNil)
  (sSeq (sExp (dCall 2 (runF 4 d_need_recipes) [] (aCons (dLcA false [3, 4] (dV 1) (bTup 2 (bCons (bN 3) (bCons (bN 4) bNil))) tdYes (dV 3)) (aCons (dV 2) aNil))))
  (sSeq (sFldH oA__stuffs "_stuffs" (dV 0) (dCB (fList false) (aCons (dV 1) aNil)))
  (sFldH oA__recipes "_recipes" (dV 0) (dCall 1 (runF 4 d_copied) [] (aCons (dV 2) aNil))))))))
theorem b_Mill_init {P : Program} {w : World} {K : PySem.W.Frag} {mg : Str → Option Value} {base : Heap} {f : Addr} (c_MOST_STUFFS : ∃ u, mg "MOST_STUFFS" = some u ∧ RelV (.int 8) u) (k_is_list_within : Cal P w K mg base "is_list_within" 1 3 [] (runF 3 d_is_list_within)) (r_InvalidList : RaiseK P w K mg base "InvalidList" "value") (k_need_stuffs : Cal P w K mg base "_need_stuffs" 4 1 [] (runF 3 d_need_stuffs)) (c_MOST_RECIPES : ∃ u, mg "MOST_RECIPES" = some u ∧ RelV (.int 8) u) (k_need_recipes : Cal P w K mg base "_need_recipes" 5 2 [] (runF 4 d_need_recipes)) (f_list : mg "list" = none) (a__stuffs : ∀ c, oA__stuffs c = true → Cls K (He.ga K c) ∧ NoAttr K (He.ga K c) "_stuffs") (k_copied : Cal P w K mg base "_copied" 1 1 [] (runF 4 d_copied)) (a__recipes : ∀ c, oA__recipes c = true → Cls K (He.ga K c) ∧ NoAttr K (He.ga K c) "_recipes") : BodyH P w K mg base ["self", "stuffs", "recipes", "name", "_"] 5 f "Mill.__init__" (defScope (inClass (top 41) 0)) (defBody (inClass (top 41) 0)) d_Mill_init := fun cdv A outer s H E q tk pp => by
  have nd := sc_Mill_init.nd
  have hu1 := hu64 q.1
  have hu2 := hu65 q.1
  exact (ss_cons (sh_if (th_not (th_tru (eh_callK k_is_list_within q (by decide) tk (by rfl) (ah_cons (eh_v 1 (pv 1)) (ah_cons eh_int (ah_cons (eh_gc (by rfl) c_MOST_STUFFS fun _ _ _ => .int _) ah_nil)))))) (ss_one (sh_raiseK r_InvalidList (by rfl) q tk (by rfl) (by decide) (ah_cons (eh_v 1 (pv 1)) ah_nil))) ss_nil)
  (ss_cons (sh_expr (eh_callK k_need_stuffs q (by decide) tk (by rfl) (ah_cons (eh_v 1 (pv 1)) ah_nil)))
  (ss_cons (sh_if (th_not (th_tru (eh_callK k_is_list_within q (by decide) tk (by rfl) (ah_cons (eh_v 2 (pv 2)) (ah_cons eh_int (ah_cons (eh_gc (by rfl) c_MOST_RECIPES fun _ _ _ => .int _) ah_nil)))))) (ss_one (sh_raiseK r_InvalidList (by rfl) q tk (by rfl) (by decide) (ah_cons (eh_v 2 (pv 2)) ah_nil))) ss_nil)
  (ss_cons (sh_expr (eh_callK k_need_recipes q (by decide) tk (by rfl) (ah_cons (eh_lcA (own := [("name", 3), ("_", 4)]) false (by rfl) nd (eh_v 1 (pv 1)) (blkOk_by (N := ["self", "stuffs", "recipes", "name", "_"]) (sc := defScope (inClass (top 41) 0)) (by decide +kernel)) (by decide) (fun _ _ _ _ _ => (gh_tup (by rfl) (gh_cons (gh_name 3 (pg_name nd rfl (by first | exact Or.inl rfl | exact Or.inr rfl))) (gh_cons (gh_name 4 (pg_name nd rfl (by first | exact Or.inl rfl | exact Or.inr rfl))) gh_nil)))) (fun _ _ _ _ _ => ts_nil) (fun _ _ _ _ _ => (eh_v 3 (pv 3)))) (ah_cons (eh_v 2 (pv 2)) ah_nil))))
  (ss_cons (sh_fld a__stuffs (eh_v 0 (pv 0)) (eh_callT prList call_list_of (by rfl) f_list boot_list (ah_cons (eh_v 1 (pv 1)) ah_nil)))
  (ss_one (sh_fld a__recipes (eh_v 0 (pv 0)) (eh_callK k_copied q (by decide) tk (by rfl) (ah_cons (eh_v 2 (pv 2)) ah_nil)))))))))
theorem sc_Mill_recipes : FnScope ["self"] ["self"] (defScope (inClass (top 41) 3)) := ⟨rfl, rfl, rfl, by decide +kernel, rfl, by decide +kernel, by decide +kernel⟩
def d_Mill_recipes : SDen :=
  (sRet (dCall 1 (runF 4 d_copied) [] (aCons (d1 (fFld oA__recipes "_recipes") (dV 0)) aNil)))
theorem b_Mill_recipes {P : Program} {w : World} {K : PySem.W.Frag} {mg : Str → Option Value} {base : Heap} {f : Addr} (a__recipes : ∀ c, oA__recipes c = true → Cls K (He.ga K c) ∧ NoAttr K (He.ga K c) "_recipes") (k_copied : Cal P w K mg base "_copied" 1 1 [] (runF 4 d_copied)) : BodyH P w K mg base ["self"] 1 f "Mill.recipes" (defScope (inClass (top 41) 3)) (defBody (inClass (top 41) 3)) d_Mill_recipes := fun cdv A outer s H E q tk pp => by
  have nd := sc_Mill_recipes.nd
  have hu1 := hu64 q.1
  have hu2 := hu65 q.1
  exact (ss_one (sh_ret (eh_callK k_copied q (by decide) tk (by rfl) (ah_cons (eh_fld a__recipes (eh_v 0 (pv 0))) ah_nil))))
theorem sc_need_mill : FnScope ["mill"] ["mill"] (defScope (top 43)) := ⟨rfl, rfl, rfl, by decide +kernel, rfl, by decide +kernel, by decide +kernel⟩
def d_need_mill : SDen :=
  (sIf (tdNot (dTru (dCB (fIs oc xc kq) (aCons (dV 0) (aCons (dC (.cls "Mill")) aNil))))) (sRaise "InvalidMill" "value" (aCons (dV 0) aNil)) sNil)
theorem b_need_mill {P : Program} {w : World} {K : PySem.W.Frag} {mg : Str → Option Value} {base : Heap} {f : Addr} (g_Mill : mg "Mill" = some (.ref (He.ga K "Mill"))) (f_isinstance : mg "isinstance" = none) (tis : IsK K oc xc kq) (r_InvalidMill : RaiseK P w K mg base "InvalidMill" "value") : BodyH P w K mg base ["mill"] 2 f "need_mill" (defScope (top 43)) (defBody (top 43)) d_need_mill := fun cdv A outer s H E q tk pp => by
  have nd := sc_need_mill.nd
  have hu1 := hu64 q.1
  have hu2 := hu65 q.1
  exact (ss_one (sh_if (th_not (th_tru (eh_callB (prIs tis) (call_isAll tis.all) (by rfl) f_isinstance (by first | rfl | decide +kernel) (ah_cons (eh_v 0 (pv 0)) (ah_cons (eh_cls (by rfl) g_Mill) ah_nil))))) (ss_one (sh_raiseK r_InvalidMill (by rfl) q tk (by rfl) (by decide) (ah_cons (eh_v 0 (pv 0)) ah_nil))) ss_nil))
theorem sc_Mill_stuffs : FnScope ["self"] ["self"] (defScope (inClass (top 41) 2)) := ⟨rfl, rfl, rfl, by decide +kernel, rfl, by decide +kernel, by decide +kernel⟩
def d_Mill_stuffs : SDen :=
  (sRet (dCB (fList false) (aCons (d1 (fFld oA__stuffs "_stuffs") (dV 0)) aNil)))
theorem b_Mill_stuffs {P : Program} {w : World} {K : PySem.W.Frag} {mg : Str → Option Value} {base : Heap} {f : Addr} (a__stuffs : ∀ c, oA__stuffs c = true → Cls K (He.ga K c) ∧ NoAttr K (He.ga K c) "_stuffs") (f_list : mg "list" = none) : BodyH P w K mg base ["self"] 0 f "Mill.stuffs" (defScope (inClass (top 41) 2)) (defBody (inClass (top 41) 2)) d_Mill_stuffs := fun cdv A outer s H E q tk pp => by
  have nd := sc_Mill_stuffs.nd
  have hu1 := hu64 q.1
  have hu2 := hu65 q.1
  exact (ss_one (sh_ret (eh_callT prList call_list_of (by rfl) f_list boot_list (ah_cons (eh_fld a__stuffs (eh_v 0 (pv 0))) ah_nil))))
theorem sc_numbered : FnScope ["stuff_names", "side", "stuff", "number"] ["stuff_names", "side"] (defScope (top 53)) := ⟨rfl, rfl, rfl, by decide +kernel, rfl, by decide +kernel, by decide +kernel⟩
def ce_numbered_1 : Den :=
  (dTup (aCons (dIndex (dV 0) (aCons (dV 2) aNil)) (aCons (dV 3) aNil)))
def d_numbered : SDen :=
  (sRet (dLcA false [2, 3] (dV 1) (bTup 2 (bCons (bN 2) (bCons (bN 3) bNil))) tdYes ce_numbered_1))
theorem b_numbered {P : Program} {w : World} {K : PySem.W.Frag} {mg : Str → Option Value} {base : Heap} {f : Addr}  : BodyH P w K mg base ["stuff_names", "side", "stuff", "number"] 0 f "_numbered" (defScope (top 53)) (defBody (top 53)) d_numbered := fun cdv A outer s H E q tk pp => by
  have nd := sc_numbered.nd
  have hu1 := hu64 q.1
  have hu2 := hu65 q.1
  exact (ss_one (sh_ret (eh_lcA (own := [("stuff", 2), ("number", 3)]) false (by rfl) nd (eh_v 1 (pv 1)) (blkOk_by (N := ["stuff_names", "side", "stuff", "number"]) (sc := defScope (top 53)) (by decide +kernel)) (by decide) (fun _ _ _ _ _ => (gh_tup (by rfl) (gh_cons (gh_name 2 (pg_name nd rfl (by first | exact Or.inl rfl | exact Or.inr rfl))) (gh_cons (gh_name 3 (pg_name nd rfl (by first | exact Or.inl rfl | exact Or.inr rfl))) gh_nil)))) (fun _ _ _ _ _ => ts_nil) (fun _ _ _ _ _ => (eh_tup (ah_cons (eh_index hu2 (eh_v 0 (pv 0)) (ah_cons (eh_v 2 (pv 2)) ah_nil)) (ah_cons (eh_v 3 (pv 3)) ah_nil)))))))
theorem sc_Mill_names : FnScope ["self", "name", "_"] ["self"] (defScope (inClass (top 41) 4)) := ⟨rfl, rfl, rfl, by decide +kernel, rfl, by decide +kernel, by decide +kernel⟩
def d_Mill_names : SDen :=
  (sRet (dLcA false [1, 2, 2] (d1 (fFld oA__recipes "_recipes") (dV 0)) (bTup 3 (bCons (bN 1) (bCons (bN 2) (bCons (bN 2) bNil)))) tdYes (dV 1)))
theorem b_Mill_names {P : Program} {w : World} {K : PySem.W.Frag} {mg : Str → Option Value} {base : Heap} {f : Addr} (a__recipes : ∀ c, oA__recipes c = true → Cls K (He.ga K c) ∧ NoAttr K (He.ga K c) "_recipes") : BodyH P w K mg base ["self", "name", "_"] 0 f "Mill.names" (defScope (inClass (top 41) 4)) (defBody (inClass (top 41) 4)) d_Mill_names := fun cdv A outer s H E q tk pp => by
  have nd := sc_Mill_names.nd
  have hu1 := hu64 q.1
  have hu2 := hu65 q.1
  exact (ss_one (sh_ret (eh_lcA (own := [("name", 1), ("_", 2), ("_", 2)]) false (by rfl) nd (eh_fld a__recipes (eh_v 0 (pv 0))) (blkOk_by (N := ["self", "name", "_"]) (sc := defScope (inClass (top 41) 4)) (by decide +kernel)) (by decide) (fun _ _ _ _ _ => (gh_tup (by rfl) (gh_cons (gh_name 1 (pg_name nd rfl (by first | exact Or.inl rfl | exact Or.inr rfl))) (gh_cons (gh_name 2 (pg_name nd rfl (by first | exact Or.inl rfl | exact Or.inr rfl))) (gh_cons (gh_name 2 (pg_name nd rfl (by first | exact Or.inl rfl | exact Or.inr rfl))) gh_nil))))) (fun _ _ _ _ _ => ts_nil) (fun _ _ _ _ _ => (eh_v 1 (pv 1))))))
theorem sc_net : FnScope ["stuffs", "takes", "gives", "net", "stuff", "number"] ["stuffs", "takes", "gives"] (defScope (top 54)) := ⟨rfl, rfl, rfl, by decide +kernel, rfl, by decide +kernel, by decide +kernel⟩
def lb_net_1 : SDen :=
  (sAugS (fun i j => i + j) (dV 3) (dV 4) (dV 5))
def lb_net_2 : SDen :=
  (sAugS (fun i j => i - j) (dV 3) (dV 4) (dV 5))
def d_net : SDen :=
  (sSeq (sAsg (bN 3) (d2 (fRepL true) (dLst false (aCons (dC (.int 0)) aNil)) (dV 0)))
  (sSeq (sForA (dV 2) (bTup 2 (bCons (bN 4) (bCons (bN 5) bNil))) lb_net_1)
  (sSeq (sForA (dV 1) (bTup 2 (bCons (bN 4) (bCons (bN 5) bNil))) lb_net_2)
  (sRet (dFrz (dV 3))))))
theorem b_net {P : Program} {w : World} {K : PySem.W.Frag} {mg : Str → Option Value} {base : Heap} {f : Addr}  : BodyH P w K mg base ["stuffs", "takes", "gives", "net", "stuff", "number"] 0 f "_net" (defScope (top 54)) (defBody (top 54)) d_net := fun cdv A outer s H E q tk pp => by
  have nd := sc_net.nd
  have hu1 := hu64 q.1
  have hu2 := hu65 q.1
  exact (ss_cons (sh_set (i := 3) nd rfl (by first | exact Or.inl rfl | exact Or.inr rfl) (eh_repL true (eh_lst false (ah_cons eh_int ah_nil)) (eh_v 0 (pv 0))))
  (ss_cons (sh_forA pp (by rfl) (eh_v 2 (pv 2)) (gh_tup (by rfl) (gh_cons (gh_name 4 (pg_name nd rfl (by first | exact Or.inl rfl | exact Or.inr rfl))) (gh_cons (gh_name 5 (pg_name nd rfl (by first | exact Or.inl rfl | exact Or.inr rfl))) gh_nil))) (ss_one (sh_augS ip_add (eh_v 3 (pv 3)) (eh_v 4 (pv 4)) (eh_v 5 (pv 5)))))
  (ss_cons (sh_forA pp (by rfl) (eh_v 1 (pv 1)) (gh_tup (by rfl) (gh_cons (gh_name 4 (pg_name nd rfl (by first | exact Or.inl rfl | exact Or.inr rfl))) (gh_cons (gh_name 5 (pg_name nd rfl (by first | exact Or.inl rfl | exact Or.inr rfl))) gh_nil))) (ss_one (sh_augS ip_sub (eh_v 3 (pv 3)) (eh_v 4 (pv 4)) (eh_v 5 (pv 5)))))
  (ss_one (sh_ret (eh_frz (eh_v 3 (pv 3))))))))
theorem sc_Tables_init : FnScope ["self", "stuff_names", "rooms", "recipe_names", "takes", "gives", "mine", "yours"] ["self", "stuff_names", "rooms", "recipe_names", "takes", "gives"] (defScope (inClass (top 51) 0)) := ⟨rfl, rfl, rfl, by decide +kernel, rfl, by decide +kernel, by decide +kernel⟩
def ce_Tables_init_1 : Den :=
  (dCall 3 (runF 6 d_net) [] (aCons (dCB fLen (aCons (dV 2) aNil)) (aCons (dV 6) (aCons (dV 7) aNil))))
def d_Tables_init : SDen :=
  (sSeq (sFldH oA_stuff_names "stuff_names" (dV 0) (dV 1))
  (sSeq (sFldH oA_rooms "rooms" (dV 0) (dV 2))
  (sSeq (sFldH oA_recipe_names "recipe_names" (dV 0) (dV 3))
  (sSeq (sFldH oA_takes "takes" (dV 0) (dV 4))
  (sSeq (sFldH oA_gives "gives" (dV 0) (dV 5))
  (sFldH oA_nets "nets" (dV 0) (dLc false [6, 7] (fun ρ => mbind ((aCons (dV 4) (aCons (dV 5) aNil)) ρ) itZ) (bTup 2 (bCons (bN 6) (bCons (bN 7) bNil))) tdYes ce_Tables_init_1)))))))
theorem b_Tables_init {P : Program} {w : World} {K : PySem.W.Frag} {mg : Str → Option Value} {base : Heap} {f : Addr} (a_stuff_names : ∀ c, oA_stuff_names c = true → Cls K (He.ga K c) ∧ NoAttr K (He.ga K c) "stuff_names") (a_rooms : ∀ c, oA_rooms c = true → Cls K (He.ga K c) ∧ NoAttr K (He.ga K c) "rooms") (a_recipe_names : ∀ c, oA_recipe_names c = true → Cls K (He.ga K c) ∧ NoAttr K (He.ga K c) "recipe_names") (a_takes : ∀ c, oA_takes c = true → Cls K (He.ga K c) ∧ NoAttr K (He.ga K c) "takes") (a_gives : ∀ c, oA_gives c = true → Cls K (He.ga K c) ∧ NoAttr K (He.ga K c) "gives") (f_zip : mg "zip" = none) (f_len : mg "len" = none) (k_net : Cal P w K mg base "_net" 1 3 [] (runF 6 d_net)) (a_nets : ∀ c, oA_nets c = true → Cls K (He.ga K c) ∧ NoAttr K (He.ga K c) "nets") : BodyH P w K mg base ["self", "stuff_names", "rooms", "recipe_names", "takes", "gives", "mine", "yours"] 1 f "Tables.__init__" (defScope (inClass (top 51) 0)) (defBody (inClass (top 51) 0)) d_Tables_init := fun cdv A outer s H E q tk pp => by
  have nd := sc_Tables_init.nd
  have hu1 := hu64 q.1
  have hu2 := hu65 q.1
  exact (ss_cons (sh_fld a_stuff_names (eh_v 0 (pv 0)) (eh_v 1 (pv 1)))
  (ss_cons (sh_fld a_rooms (eh_v 0 (pv 0)) (eh_v 2 (pv 2)))
  (ss_cons (sh_fld a_recipe_names (eh_v 0 (pv 0)) (eh_v 3 (pv 3)))
  (ss_cons (sh_fld a_takes (eh_v 0 (pv 0)) (eh_v 4 (pv 4)))
  (ss_cons (sh_fld a_gives (eh_v 0 (pv 0)) (eh_v 5 (pv 5)))
  (ss_one (sh_fld a_nets (eh_v 0 (pv 0)) (eh_lc (own := [("mine", 6), ("yours", 7)]) false (by rfl) nd (ih_zip (by rfl) f_zip (ah_cons (eh_v 4 (pv 4)) (ah_cons (eh_v 5 (pv 5)) ah_nil))) (blkOk_by (N := ["self", "stuff_names", "rooms", "recipe_names", "takes", "gives", "mine", "yours"]) (sc := defScope (inClass (top 51) 0)) (by decide +kernel)) (by decide) (fun _ _ _ _ _ => (gh_tup (by rfl) (gh_cons (gh_name 6 (pg_name nd rfl (by first | exact Or.inl rfl | exact Or.inr rfl))) (gh_cons (gh_name 7 (pg_name nd rfl (by first | exact Or.inl rfl | exact Or.inr rfl))) gh_nil)))) (fun _ _ _ _ _ => ts_nil) (fun _ _ _ _ _ => (eh_callK k_net q (by decide) takes0 (by rfl) (ah_cons (eh_callB prLen call_len (by rfl) f_len PySem.boot_len (ah_cons (eh_v 2 (pv 2)) ah_nil)) (ah_cons (eh_v 6 (pv 6)) (ah_cons (eh_v 7 (pv 7)) ah_nil)))))))))))))
theorem sc_tables_of : FnScope ["mill", "stuff_names", "name", "_", "rooms", "room", "takes", "taken", "gives", "given"] ["mill"] (defScope (top 52)) := ⟨rfl, rfl, rfl, by decide +kernel, rfl, by decide +kernel, by decide +kernel⟩
def ce_tables_of_1 : Den :=
  (dCall 2 (runF 4 d_numbered) [] (aCons (dV 1) (aCons (dV 7) aNil)))
def ce_tables_of_2 : Den :=
  (dCall 2 (runF 4 d_numbered) [] (aCons (dV 1) (aCons (dV 9) aNil)))
def d_tables_of : SDen :=
  (sSeq (sExp (dCall 1 (runF 1 d_need_mill) [] (aCons (dV 0) aNil)))
  (sSeq (sAsg (bN 1) (dLcA false [2, 3] (dMeth (fun z => z == "Mill") "stuffs" 1 (runF 1 d_Mill_stuffs) [] (dV 0) aNil) (bTup 2 (bCons (bN 2) (bCons (bN 3) bNil))) tdYes (dV 2)))
  (sSeq (sAsg (bN 4) (dLcA false [3, 5] (dMeth (fun z => z == "Mill") "stuffs" 1 (runF 1 d_Mill_stuffs) [] (dV 0) aNil) (bTup 2 (bCons (bN 3) (bCons (bN 5) bNil))) tdYes (dV 5)))
  (sSeq (sAsg (bN 6) (dLcA false [3, 7, 3] (dMeth (fun z => z == "Mill") "recipes" 1 (runF 1 d_Mill_recipes) [] (dV 0) aNil) (bTup 3 (bCons (bN 3) (bCons (bN 7) (bCons (bN 3) bNil)))) tdYes ce_tables_of_1))
  (sSeq (sAsg (bN 8) (dLcA false [3, 3, 9] (dMeth (fun z => z == "Mill") "recipes" 1 (runF 1 d_Mill_recipes) [] (dV 0) aNil) (bTup 3 (bCons (bN 3) (bCons (bN 3) (bCons (bN 9) bNil)))) tdYes ce_tables_of_2))
  (sRet (dFrz (dMake "Tables" 6 (runC 8 d_Tables_init) [] (aCons (dV 1) (aCons (dV 4) (aCons (dMeth (fun z => z == "Mill") "names" 1 (runF 3 d_Mill_names) [] (dV 0) aNil) (aCons (dV 6) (aCons (dV 8) aNil)))))))))))))
theorem b_tables_of {P : Program} {w : World} {K : PySem.W.Frag} {mg : Str → Option Value} {base : Heap} {f : Addr} (k_need_mill : Cal P w K mg base "need_mill" 3 1 [] (runF 1 d_need_mill)) (m_Mill_stuffs : Mal P w K mg base "Mill" "stuffs" 1 1 [] (runF 1 d_Mill_stuffs)) (m_Mill_recipes : Mal P w K mg base "Mill" "recipes" 2 1 [] (runF 1 d_Mill_recipes)) (k_numbered : Cal P w K mg base "_numbered" 1 2 [] (runF 4 d_numbered)) (m_Mill_names : Mal P w K mg base "Mill" "names" 1 1 [] (runF 3 d_Mill_names)) (k_TablesC : Kal P w K mg base "Tables" 2 6 [] (runC 8 d_Tables_init)) : BodyH P w K mg base ["mill", "stuff_names", "name", "_", "rooms", "room", "takes", "taken", "gives", "given"] 3 f "tables_of" (defScope (top 52)) (defBody (top 52)) d_tables_of := fun cdv A outer s H E q tk pp => by
  have nd := sc_tables_of.nd
  have hu1 := hu64 q.1
  have hu2 := hu65 q.1
  exact (ss_cons (sh_expr (eh_callK k_need_mill q (by decide) tk (by rfl) (ah_cons (eh_v 0 (pv 0)) ah_nil)))
  (ss_cons (by first | exact (sh_setLcA (i := 1) (own := [("name", 2), ("_", 3)]) false (by rfl) nd rfl rfl rfl (by decide) (by decide +kernel) (eh_meth0K m_Mill_stuffs q (by decide) tk (eh_v 0 (pv 0))) (blkOk_by (N := ["mill", "stuff_names", "name", "_", "rooms", "room", "takes", "taken", "gives", "given"]) (sc := defScope (top 52)) (by decide +kernel)) (by decide) (fun _ _ _ _ _ => (gh_tup (by rfl) (gh_cons (gh_name 2 (pg_name nd rfl (by first | exact Or.inl rfl | exact Or.inr rfl))) (gh_cons (gh_name 3 (pg_name nd rfl (by first | exact Or.inl rfl | exact Or.inr rfl))) gh_nil)))) (fun _ _ _ _ _ => ts_nil) (fun _ _ _ _ _ => (eh_v 2 (pv 2)))) | exact (sh_set (i := 1) nd rfl (by first | exact Or.inl rfl | exact Or.inr rfl) (eh_lcA (own := [("name", 2), ("_", 3)]) false (by rfl) nd (eh_meth0K m_Mill_stuffs q (by decide) tk (eh_v 0 (pv 0))) (blkOk_by (N := ["mill", "stuff_names", "name", "_", "rooms", "room", "takes", "taken", "gives", "given"]) (sc := defScope (top 52)) (by decide +kernel)) (by decide) (fun _ _ _ _ _ => (gh_tup (by rfl) (gh_cons (gh_name 2 (pg_name nd rfl (by first | exact Or.inl rfl | exact Or.inr rfl))) (gh_cons (gh_name 3 (pg_name nd rfl (by first | exact Or.inl rfl | exact Or.inr rfl))) gh_nil)))) (fun _ _ _ _ _ => ts_nil) (fun _ _ _ _ _ => (eh_v 2 (pv 2))))))
  (ss_cons (by first | exact (sh_setLcA (i := 4) (own := [("_", 3), ("room", 5)]) false (by rfl) nd rfl rfl rfl (by decide) (by decide +kernel) (eh_meth0K m_Mill_stuffs q (by decide) tk (eh_v 0 (pv 0))) (blkOk_by (N := ["mill", "stuff_names", "name", "_", "rooms", "room", "takes", "taken", "gives", "given"]) (sc := defScope (top 52)) (by decide +kernel)) (by decide) (fun _ _ _ _ _ => (gh_tup (by rfl) (gh_cons (gh_name 3 (pg_name nd rfl (by first | exact Or.inl rfl | exact Or.inr rfl))) (gh_cons (gh_name 5 (pg_name nd rfl (by first | exact Or.inl rfl | exact Or.inr rfl))) gh_nil)))) (fun _ _ _ _ _ => ts_nil) (fun _ _ _ _ _ => (eh_v 5 (pv 5)))) | exact (sh_set (i := 4) nd rfl (by first | exact Or.inl rfl | exact Or.inr rfl) (eh_lcA (own := [("_", 3), ("room", 5)]) false (by rfl) nd (eh_meth0K m_Mill_stuffs q (by decide) tk (eh_v 0 (pv 0))) (blkOk_by (N := ["mill", "stuff_names", "name", "_", "rooms", "room", "takes", "taken", "gives", "given"]) (sc := defScope (top 52)) (by decide +kernel)) (by decide) (fun _ _ _ _ _ => (gh_tup (by rfl) (gh_cons (gh_name 3 (pg_name nd rfl (by first | exact Or.inl rfl | exact Or.inr rfl))) (gh_cons (gh_name 5 (pg_name nd rfl (by first | exact Or.inl rfl | exact Or.inr rfl))) gh_nil)))) (fun _ _ _ _ _ => ts_nil) (fun _ _ _ _ _ => (eh_v 5 (pv 5))))))
  (ss_cons (by first | exact (sh_setLcA (i := 6) (own := [("_", 3), ("taken", 7), ("_", 3)]) false (by rfl) nd rfl rfl rfl (by decide) (by decide +kernel) (eh_meth0K m_Mill_recipes q (by decide) tk (eh_v 0 (pv 0))) (blkOk_by (N := ["mill", "stuff_names", "name", "_", "rooms", "room", "takes", "taken", "gives", "given"]) (sc := defScope (top 52)) (by decide +kernel)) (by decide) (fun _ _ _ _ _ => (gh_tup (by rfl) (gh_cons (gh_name 3 (pg_name nd rfl (by first | exact Or.inl rfl | exact Or.inr rfl))) (gh_cons (gh_name 7 (pg_name nd rfl (by first | exact Or.inl rfl | exact Or.inr rfl))) (gh_cons (gh_name 3 (pg_name nd rfl (by first | exact Or.inl rfl | exact Or.inr rfl))) gh_nil))))) (fun _ _ _ _ _ => ts_nil) (fun _ _ _ _ _ => (eh_callK k_numbered q (by decide) takes0 (by rfl) (ah_cons (eh_v 1 (pv 1)) (ah_cons (eh_v 7 (pv 7)) ah_nil))))) | exact (sh_set (i := 6) nd rfl (by first | exact Or.inl rfl | exact Or.inr rfl) (eh_lcA (own := [("_", 3), ("taken", 7), ("_", 3)]) false (by rfl) nd (eh_meth0K m_Mill_recipes q (by decide) tk (eh_v 0 (pv 0))) (blkOk_by (N := ["mill", "stuff_names", "name", "_", "rooms", "room", "takes", "taken", "gives", "given"]) (sc := defScope (top 52)) (by decide +kernel)) (by decide) (fun _ _ _ _ _ => (gh_tup (by rfl) (gh_cons (gh_name 3 (pg_name nd rfl (by first | exact Or.inl rfl | exact Or.inr rfl))) (gh_cons (gh_name 7 (pg_name nd rfl (by first | exact Or.inl rfl | exact Or.inr rfl))) (gh_cons (gh_name 3 (pg_name nd rfl (by first | exact Or.inl rfl | exact Or.inr rfl))) gh_nil))))) (fun _ _ _ _ _ => ts_nil) (fun _ _ _ _ _ => (eh_callK k_numbered q (by decide) takes0 (by rfl) (ah_cons (eh_v 1 (pv 1)) (ah_cons (eh_v 7 (pv 7)) ah_nil)))))))
  (ss_cons (by first | exact (sh_setLcA (i := 8) (own := [("_", 3), ("_", 3), ("given", 9)]) false (by rfl) nd rfl rfl rfl (by decide) (by decide +kernel) (eh_meth0K m_Mill_recipes q (by decide) tk (eh_v 0 (pv 0))) (blkOk_by (N := ["mill", "stuff_names", "name", "_", "rooms", "room", "takes", "taken", "gives", "given"]) (sc := defScope (top 52)) (by decide +kernel)) (by decide) (fun _ _ _ _ _ => (gh_tup (by rfl) (gh_cons (gh_name 3 (pg_name nd rfl (by first | exact Or.inl rfl | exact Or.inr rfl))) (gh_cons (gh_name 3 (pg_name nd rfl (by first | exact Or.inl rfl | exact Or.inr rfl))) (gh_cons (gh_name 9 (pg_name nd rfl (by first | exact Or.inl rfl | exact Or.inr rfl))) gh_nil))))) (fun _ _ _ _ _ => ts_nil) (fun _ _ _ _ _ => (eh_callK k_numbered q (by decide) takes0 (by rfl) (ah_cons (eh_v 1 (pv 1)) (ah_cons (eh_v 9 (pv 9)) ah_nil))))) | exact (sh_set (i := 8) nd rfl (by first | exact Or.inl rfl | exact Or.inr rfl) (eh_lcA (own := [("_", 3), ("_", 3), ("given", 9)]) false (by rfl) nd (eh_meth0K m_Mill_recipes q (by decide) tk (eh_v 0 (pv 0))) (blkOk_by (N := ["mill", "stuff_names", "name", "_", "rooms", "room", "takes", "taken", "gives", "given"]) (sc := defScope (top 52)) (by decide +kernel)) (by decide) (fun _ _ _ _ _ => (gh_tup (by rfl) (gh_cons (gh_name 3 (pg_name nd rfl (by first | exact Or.inl rfl | exact Or.inr rfl))) (gh_cons (gh_name 3 (pg_name nd rfl (by first | exact Or.inl rfl | exact Or.inr rfl))) (gh_cons (gh_name 9 (pg_name nd rfl (by first | exact Or.inl rfl | exact Or.inr rfl))) gh_nil))))) (fun _ _ _ _ _ => ts_nil) (fun _ _ _ _ _ => (eh_callK k_numbered q (by decide) takes0 (by rfl) (ah_cons (eh_v 1 (pv 1)) (ah_cons (eh_v 9 (pv 9)) ah_nil)))))))
  (ss_one (sh_ret (eh_frz (eh_makeK k_TablesC q (by decide) tk (by rfl) (ah_cons (eh_v 1 (pv 1)) (ah_cons (eh_v 4 (pv 4)) (ah_cons (eh_meth0K m_Mill_names q (by decide) tk (eh_v 0 (pv 0))) (ah_cons (eh_v 6 (pv 6)) (ah_cons (eh_v 8 (pv 8)) ah_nil))))))))))))))
theorem sc_is_list_of : FnScope ["value", "length"] ["value", "length"] (defScope (top 22)) := ⟨rfl, rfl, rfl, by decide +kernel, rfl, by decide +kernel, by decide +kernel⟩
def d_is_list_of : SDen :=
  (sRet (dAnd (dCB (fIs oc xc kq) (aCons (dV 0) (aCons (dC (.ty "list")) aNil))) (d2 (fEq false) (dCB fLen (aCons (dV 0) aNil)) (dV 1))))
theorem b_is_list_of {P : Program} {w : World} {K : PySem.W.Frag} {mg : Str → Option Value} {base : Heap} {f : Addr} (f_list : mg "list" = none) (f_isinstance : mg "isinstance" = none) (tis : IsK K oc xc kq) (f_len : mg "len" = none) : BodyH P w K mg base ["value", "length"] 0 f "is_list_of" (defScope (top 22)) (defBody (top 22)) d_is_list_of := fun cdv A outer s H E q tk pp => by
  have nd := sc_is_list_of.nd
  have hu1 := hu64 q.1
  have hu2 := hu65 q.1
  exact (ss_one (sh_ret (eh_and (eh_callB (prIs tis) (call_isAll tis.all) (by rfl) f_isinstance (by first | rfl | decide +kernel) (ah_cons (eh_v 0 (pv 0)) (ah_cons (eh_bty (by rfl) f_list boot_list) ah_nil))) (eh_one (eh_eq hu1 (eh_callB prLen call_len (by rfl) f_len PySem.boot_len (ah_cons (eh_v 0 (pv 0)) ah_nil)) (eh_v 1 (pv 1)))))))
theorem sc_is_fraction : FnScope ["value"] ["value"] (defScope (top 18)) := ⟨rfl, rfl, rfl, by decide +kernel, rfl, by decide +kernel, by decide +kernel⟩
def d_is_fraction : SDen :=
  (sSeq (sIf (tdNot (tdAnd (dTru (dCB (fIs oc xc kq) (aCons (dV 0) (aCons (dC (.ty "tuple")) aNil)))) (tdAnd (dBool (d2 (fEq false) (dCB fLen (aCons (dV 0) aNil)) (dC (.int 2)))) (tdAnd (dTru (dCall 1 (runF 1 d_is_whole) [] (aCons (d2 fIx (dV 0) (dC (.int 0))) aNil))) (dTru (dCall 1 (runF 1 d_is_whole) [] (aCons (d2 fIx (dV 0) (dC (.int 1))) aNil))))))) (sRet (dC (.bl false))) sNil)
  (sRet (dAnd (dGe (d2 fIx (dV 0) (dC (.int 1))) (dC (.int 1))) (d2 (fEq false) (dCB fGcd (aCons (d2 fIx (dV 0) (dC (.int 0))) (aCons (d2 fIx (dV 0) (dC (.int 1))) aNil))) (dC (.int 1))))))
theorem b_is_fraction {P : Program} {w : World} {K : PySem.W.Frag} {mg : Str → Option Value} {base : Heap} {f : Addr} (f_tuple : mg "tuple" = none) (f_isinstance : mg "isinstance" = none) (tis : IsK K oc xc kq) (f_len : mg "len" = none) (k_is_whole : Cal P w K mg base "is_whole" 1 1 [] (runF 1 d_is_whole)) (i_gcd : mg "gcd" = some (.builtin "math.gcd")) : BodyH P w K mg base ["value"] 1 f "is_fraction" (defScope (top 18)) (defBody (top 18)) d_is_fraction := fun cdv A outer s H E q tk pp => by
  have nd := sc_is_fraction.nd
  have hu1 := hu64 q.1
  have hu2 := hu65 q.1
  exact (ss_cons (sh_if (th_not (th_bop (wh_and (th_tru (eh_callB (prIs tis) (call_isAll tis.all) (by rfl) f_isinstance (by first | rfl | decide +kernel) (ah_cons (eh_v 0 (pv 0)) (ah_cons (eh_bty (by rfl) f_tuple boot_tuple) ah_nil)))) (wh_and (th_cmp (op_eqD hu1) prEq (eh_callB prLen call_len (by rfl) f_len PySem.boot_len (ah_cons (eh_v 0 (pv 0)) ah_nil)) eh_int (by rfl)) (wh_and (th_tru (eh_callK k_is_whole q (by decide) tk (by rfl) (ah_cons (eh_ix (eh_v 0 (pv 0)) eh_int (fun _ _ => rfl)) ah_nil))) (wh_and1 (th_tru (eh_callK k_is_whole q (by decide) tk (by rfl) (ah_cons (eh_ix (eh_v 0 (pv 0)) eh_int (fun _ _ => rfl)) ah_nil))))))))) (ss_one (sh_ret eh_bl)) ss_nil)
  (ss_one (sh_ret (eh_and (eh_ge (eh_ix (eh_v 0 (pv 0)) eh_int (fun _ _ => rfl)) eh_int) (eh_one (eh_eq hu1 (eh_callF prGcd cr_gcd (by rfl) i_gcd (ah_cons (eh_ix (eh_v 0 (pv 0)) eh_int (fun _ _ => rfl)) (ah_cons (eh_ix (eh_v 0 (pv 0)) eh_int (fun _ _ => rfl)) ah_nil))) eh_int))))))
theorem sc_is_amount : FnScope ["value"] ["value"] (defScope (top 19)) := ⟨rfl, rfl, rfl, by decide +kernel, rfl, by decide +kernel, by decide +kernel⟩
def d_is_amount : SDen :=
  (sRet (dAnd (dCall 1 (runF 1 d_is_fraction) [] (aCons (dV 0) aNil)) (dGe (d2 fIx (dV 0) (dC (.int 0))) (dC (.int 0)))))
theorem b_is_amount {P : Program} {w : World} {K : PySem.W.Frag} {mg : Str → Option Value} {base : Heap} {f : Addr} (k_is_fraction : Cal P w K mg base "is_fraction" 2 1 [] (runF 1 d_is_fraction)) : BodyH P w K mg base ["value"] 2 f "is_amount" (defScope (top 19)) (defBody (top 19)) d_is_amount := fun cdv A outer s H E q tk pp => by
  have nd := sc_is_amount.nd
  have hu1 := hu64 q.1
  have hu2 := hu65 q.1
  exact (ss_one (sh_ret (eh_and (eh_callK k_is_fraction q (by decide) tk (by rfl) (ah_cons (eh_v 0 (pv 0)) ah_nil)) (eh_one (eh_ge (eh_ix (eh_v 0 (pv 0)) eh_int (fun _ _ => rfl)) eh_int)))))
theorem sc_is_less : FnScope ["one", "other"] ["one", "other"] (defScope (top 11)) := ⟨rfl, rfl, rfl, by decide +kernel, rfl, by decide +kernel, by decide +kernel⟩
def d_is_less : SDen :=
  (sRet (dLt (dMul (d2 fIx (dV 0) (dC (.int 0))) (d2 fIx (dV 1) (dC (.int 1)))) (dMul (d2 fIx (dV 1) (dC (.int 0))) (d2 fIx (dV 0) (dC (.int 1))))))
theorem b_is_less {P : Program} {w : World} {K : PySem.W.Frag} {mg : Str → Option Value} {base : Heap} {f : Addr}  : BodyH P w K mg base ["one", "other"] 0 f "is_less" (defScope (top 11)) (defBody (top 11)) d_is_less := fun cdv A outer s H E q tk pp => by
  have nd := sc_is_less.nd
  have hu1 := hu64 q.1
  have hu2 := hu65 q.1
  exact (ss_one (sh_ret (eh_lt (eh_mul (eh_ix (eh_v 0 (pv 0)) eh_int (fun _ _ => rfl)) (eh_ix (eh_v 1 (pv 1)) eh_int (fun _ _ => rfl))) (eh_mul (eh_ix (eh_v 1 (pv 1)) eh_int (fun _ _ => rfl)) (eh_ix (eh_v 0 (pv 0)) eh_int (fun _ _ => rfl))))))
theorem sc_fits_room : FnScope ["amount", "room"] ["amount", "room"] (defScope (top 27)) := ⟨rfl, rfl, rfl, by decide +kernel, rfl, by decide +kernel, by decide +kernel⟩
def d_fits_room : SDen :=
  (sRet (dOr (d2 (fIsN false) (dV 1) (dC .non)) (dNot (dCall 2 (runF 2 d_is_less) [] (aCons (dTup (aCons (dV 1) (aCons (dC (.int 1)) aNil))) (aCons (dV 0) aNil))))))
theorem b_fits_room {P : Program} {w : World} {K : PySem.W.Frag} {mg : Str → Option Value} {base : Heap} {f : Addr} (k_is_less : Cal P w K mg base "is_less" 1 2 [] (runF 2 d_is_less)) : BodyH P w K mg base ["amount", "room"] 1 f "fits_room" (defScope (top 27)) (defBody (top 27)) d_fits_room := fun cdv A outer s H E q tk pp => by
  have nd := sc_fits_room.nd
  have hu1 := hu64 q.1
  have hu2 := hu65 q.1
  exact (ss_one (sh_ret (eh_or (eh_isN (eh_v 1 (pv 1)) eh_non) (eh_one (eh_not (eh_callK k_is_less q (by decide) tk (by rfl) (ah_cons (eh_tup (ah_cons (eh_v 1 (pv 1)) (ah_cons eh_int ah_nil))) (ah_cons (eh_v 0 (pv 0)) ah_nil))))))))
theorem sc_is_holdings : FnScope ["tables", "value", "amount", "room"] ["tables", "value"] (defScope (top 28)) := ⟨rfl, rfl, rfl, by decide +kernel, rfl, by decide +kernel, by decide +kernel⟩
def ce_is_holdings_1 : Den :=
  (dAnd (dCall 1 (runF 1 d_is_amount) [] (aCons (dV 2) aNil)) (dCall 2 (runF 2 d_fits_room) [] (aCons (dV 2) (aCons (dV 3) aNil))))
def d_is_holdings : SDen :=
  (sSeq (sIf (tdNot (dTru (dCall 2 (runF 2 d_is_list_of) [] (aCons (dV 1) (aCons (dCB fLen (aCons (d1 (fFld oA_rooms "rooms") (dV 0)) aNil)) aNil))))) (sRet (dC (.bl false))) sNil)
  (sRet (dCB fAll (aCons (dLc false [2, 3] (fun ρ => mbind ((aCons (dV 1) (aCons (d1 (fFld oA_rooms "rooms") (dV 0)) aNil)) ρ) itZ) (bTup 2 (bCons (bN 2) (bCons (bN 3) bNil))) tdYes ce_is_holdings_1) aNil))))
theorem b_is_holdings {P : Program} {w : World} {K : PySem.W.Frag} {mg : Str → Option Value} {base : Heap} {f : Addr} (a_rooms : ∀ c, oA_rooms c = true → Cls K (He.ga K c) ∧ NoAttr K (He.ga K c) "rooms") (f_len : mg "len" = none) (k_is_list_of : Cal P w K mg base "is_list_of" 1 2 [] (runF 2 d_is_list_of)) (f_zip : mg "zip" = none) (k_is_amount : Cal P w K mg base "is_amount" 3 1 [] (runF 1 d_is_amount)) (k_fits_room : Cal P w K mg base "fits_room" 2 2 [] (runF 2 d_fits_room)) (f_all : mg "all" = none) : BodyH P w K mg base ["tables", "value", "amount", "room"] 3 f "is_holdings" (defScope (top 28)) (defBody (top 28)) d_is_holdings := fun cdv A outer s H E q tk pp => by
  have nd := sc_is_holdings.nd
  have hu1 := hu64 q.1
  have hu2 := hu65 q.1
  exact (ss_cons (sh_if (th_not (th_tru (eh_callK k_is_list_of q (by decide) tk (by rfl) (ah_cons (eh_v 1 (pv 1)) (ah_cons (eh_callB prLen call_len (by rfl) f_len PySem.boot_len (ah_cons (eh_fld a_rooms (eh_v 0 (pv 0))) ah_nil)) ah_nil))))) (ss_one (sh_ret eh_bl)) ss_nil)
  (ss_one (sh_ret (eh_callB prAll (cr_all (by rfl)) (by rfl) f_all (by first | rfl | decide +kernel) (ah_cons (eh_lc (own := [("amount", 2), ("room", 3)]) false (by rfl) nd (ih_zip (by rfl) f_zip (ah_cons (eh_v 1 (pv 1)) (ah_cons (eh_fld a_rooms (eh_v 0 (pv 0))) ah_nil))) (blkOk_by (N := ["tables", "value", "amount", "room"]) (sc := defScope (top 28)) (by decide +kernel)) (by decide) (fun _ _ _ _ _ => (gh_tup (by rfl) (gh_cons (gh_name 2 (pg_name nd rfl (by first | exact Or.inl rfl | exact Or.inr rfl))) (gh_cons (gh_name 3 (pg_name nd rfl (by first | exact Or.inl rfl | exact Or.inr rfl))) gh_nil)))) (fun _ _ _ _ _ => ts_nil) (fun _ _ _ _ _ => (eh_and (eh_callK k_is_amount q (by decide) takes0 (by rfl) (ah_cons (eh_v 2 (pv 2)) ah_nil)) (eh_one (eh_callK k_fits_room q (by decide) takes0 (by rfl) (ah_cons (eh_v 2 (pv 2)) (ah_cons (eh_v 3 (pv 3)) ah_nil))))))) ah_nil)))))
theorem sc_need_holdings : FnScope ["tables", "have"] ["tables", "have"] (defScope (top 29)) := ⟨rfl, rfl, rfl, by decide +kernel, rfl, by decide +kernel, by decide +kernel⟩
def d_need_holdings : SDen :=
  (sIf (tdNot (dTru (dCall 2 (runF 4 d_is_holdings) [] (aCons (dV 0) (aCons (dV 1) aNil))))) (sRaise "InvalidHoldings" "value" (aCons (dV 1) aNil)) sNil)
theorem b_need_holdings {P : Program} {w : World} {K : PySem.W.Frag} {mg : Str → Option Value} {base : Heap} {f : Addr} (k_is_holdings : Cal P w K mg base "is_holdings" 4 2 [] (runF 4 d_is_holdings)) (r_InvalidHoldings : RaiseK P w K mg base "InvalidHoldings" "value") : BodyH P w K mg base ["tables", "have"] 4 f "need_holdings" (defScope (top 29)) (defBody (top 29)) d_need_holdings := fun cdv A outer s H E q tk pp => by
  have nd := sc_need_holdings.nd
  have hu1 := hu64 q.1
  have hu2 := hu65 q.1
  exact (ss_one (sh_if (th_not (th_tru (eh_callK k_is_holdings q (by decide) tk (by rfl) (ah_cons (eh_v 0 (pv 0)) (ah_cons (eh_v 1 (pv 1)) ah_nil))))) (ss_one (sh_raiseK r_InvalidHoldings (by rfl) q tk (by rfl) (by decide) (ah_cons (eh_v 1 (pv 1)) ah_nil))) ss_nil))
theorem sc_is_above_nothing : FnScope ["value"] ["value"] (defScope (top 20)) := ⟨rfl, rfl, rfl, by decide +kernel, rfl, by decide +kernel, by decide +kernel⟩
def d_is_above_nothing : SDen :=
  (sRet (dAnd (dCall 1 (runF 1 d_is_fraction) [] (aCons (dV 0) aNil)) (dGt (d2 fIx (dV 0) (dC (.int 0))) (dC (.int 0)))))
theorem b_is_above_nothing {P : Program} {w : World} {K : PySem.W.Frag} {mg : Str → Option Value} {base : Heap} {f : Addr} (k_is_fraction : Cal P w K mg base "is_fraction" 2 1 [] (runF 1 d_is_fraction)) : BodyH P w K mg base ["value"] 2 f "is_above_nothing" (defScope (top 20)) (defBody (top 20)) d_is_above_nothing := fun cdv A outer s H E q tk pp => by
  have nd := sc_is_above_nothing.nd
  have hu1 := hu64 q.1
  have hu2 := hu65 q.1
  exact (ss_one (sh_ret (eh_and (eh_callK k_is_fraction q (by decide) tk (by rfl) (ah_cons (eh_v 0 (pv 0)) ah_nil)) (eh_one (eh_gt (eh_ix (eh_v 0 (pv 0)) eh_int (fun _ _ => rfl)) eh_int)))))
theorem sc_is_step : FnScope ["tables", "value"] ["tables", "value"] (defScope (top 30)) := ⟨rfl, rfl, rfl, by decide +kernel, rfl, by decide +kernel, by decide +kernel⟩
def d_is_step : SDen :=
  (sSeq (sIf (tdOr (tdNot (dTru (dCall 2 (runF 2 d_is_tuple_of) [] (aCons (dV 1) (aCons (dC (.int 2)) aNil))))) (tdNot (dTru (dCB (fIs oc xc kq) (aCons (d2 fIx (dV 1) (dC (.int 0))) (aCons (dC (.ty "str")) aNil)))))) (sRet (dC (.bl false))) sNil)
  (sRet (dAnd (d2 (fIn false) (d2 fIx (dV 1) (dC (.int 0))) (d1 (fFld oA_recipe_names "recipe_names") (dV 0))) (dCall 1 (runF 1 d_is_above_nothing) [] (aCons (d2 fIx (dV 1) (dC (.int 1))) aNil)))))
theorem b_is_step {P : Program} {w : World} {K : PySem.W.Frag} {mg : Str → Option Value} {base : Heap} {f : Addr} (k_is_tuple_of : Cal P w K mg base "is_tuple_of" 1 2 [] (runF 2 d_is_tuple_of)) (f_str : mg "str" = none) (f_isinstance : mg "isinstance" = none) (tis : IsK K oc xc kq) (a_recipe_names : ∀ c, oA_recipe_names c = true → Cls K (He.ga K c) ∧ NoAttr K (He.ga K c) "recipe_names") (k_is_above_nothing : Cal P w K mg base "is_above_nothing" 3 1 [] (runF 1 d_is_above_nothing)) : BodyH P w K mg base ["tables", "value"] 3 f "is_step" (defScope (top 30)) (defBody (top 30)) d_is_step := fun cdv A outer s H E q tk pp => by
  have nd := sc_is_step.nd
  have hu1 := hu64 q.1
  have hu2 := hu65 q.1
  exact (ss_cons (sh_if (th_bor (wh_or (th_not (th_tru (eh_callK k_is_tuple_of q (by decide) tk (by rfl) (ah_cons (eh_v 1 (pv 1)) (ah_cons eh_int ah_nil))))) (wh_or1 (th_not (th_tru (eh_callB (prIs tis) (call_isAll tis.all) (by rfl) f_isinstance (by first | rfl | decide +kernel) (ah_cons (eh_ix (eh_v 1 (pv 1)) eh_int (fun _ _ => rfl)) (ah_cons (eh_bty (by rfl) f_str boot_str) ah_nil)))))))) (ss_one (sh_ret eh_bl)) ss_nil)
  (ss_one (sh_ret (eh_and (eh_in hu2 (eh_ix (eh_v 1 (pv 1)) eh_int (fun _ _ => rfl)) (eh_fld a_recipe_names (eh_v 0 (pv 0)))) (eh_one (eh_callK k_is_above_nothing q (by decide) tk (by rfl) (ah_cons (eh_ix (eh_v 1 (pv 1)) eh_int (fun _ _ => rfl)) ah_nil)))))))
theorem sc_is_block : FnScope ["tables", "value", "step"] ["tables", "value"] (defScope (top 31)) := ⟨rfl, rfl, rfl, by decide +kernel, rfl, by decide +kernel, by decide +kernel⟩
def ce_is_block_1 : Den :=
  (dCall 2 (runF 2 d_is_step) [] (aCons (dV 0) (aCons (dV 2) aNil)))
def d_is_block : SDen :=
  (sSeq (sIf (tdOr (tdNot (dTru (dCall 2 (runF 2 d_is_tuple_of) [] (aCons (dV 1) (aCons (dC (.int 2)) aNil))))) (tdOr (tdNot (dTru (dCall 1 (runF 1 d_is_whole) [] (aCons (d2 fIx (dV 1) (dC (.int 0))) aNil)))) (tdNot (dTru (dCB (fIs oc xc kq) (aCons (d2 fIx (dV 1) (dC (.int 1))) (aCons (dC (.ty "list")) aNil))))))) (sRet (dC (.bl false))) sNil)
  (sRet (dAnd (dGe (d2 fIx (dV 1) (dC (.int 0))) (dC (.int 1))) (dAnd (dGt (dCB fLen (aCons (d2 fIx (dV 1) (dC (.int 1))) aNil)) (dC (.int 0))) (dCB fAll (aCons (dLcA false [2] (d2 fIx (dV 1) (dC (.int 1))) (bN 2) tdYes ce_is_block_1) aNil))))))
theorem b_is_block {P : Program} {w : World} {K : PySem.W.Frag} {mg : Str → Option Value} {base : Heap} {f : Addr} (k_is_tuple_of : Cal P w K mg base "is_tuple_of" 1 2 [] (runF 2 d_is_tuple_of)) (k_is_whole : Cal P w K mg base "is_whole" 1 1 [] (runF 1 d_is_whole)) (f_list : mg "list" = none) (f_isinstance : mg "isinstance" = none) (tis : IsK K oc xc kq) (f_len : mg "len" = none) (k_is_step : Cal P w K mg base "is_step" 4 2 [] (runF 2 d_is_step)) (f_all : mg "all" = none) : BodyH P w K mg base ["tables", "value", "step"] 4 f "is_block" (defScope (top 31)) (defBody (top 31)) d_is_block := fun cdv A outer s H E q tk pp => by
  have nd := sc_is_block.nd
  have hu1 := hu64 q.1
  have hu2 := hu65 q.1
  exact (ss_cons (sh_if (th_bor (wh_or (th_not (th_tru (eh_callK k_is_tuple_of q (by decide) tk (by rfl) (ah_cons (eh_v 1 (pv 1)) (ah_cons eh_int ah_nil))))) (wh_or (th_not (th_tru (eh_callK k_is_whole q (by decide) tk (by rfl) (ah_cons (eh_ix (eh_v 1 (pv 1)) eh_int (fun _ _ => rfl)) ah_nil)))) (wh_or1 (th_not (th_tru (eh_callB (prIs tis) (call_isAll tis.all) (by rfl) f_isinstance (by first | rfl | decide +kernel) (ah_cons (eh_ix (eh_v 1 (pv 1)) eh_int (fun _ _ => rfl)) (ah_cons (eh_bty (by rfl) f_list boot_list) ah_nil))))))))) (ss_one (sh_ret eh_bl)) ss_nil)
  (ss_one (sh_ret (eh_and (eh_ge (eh_ix (eh_v 1 (pv 1)) eh_int (fun _ _ => rfl)) eh_int) (eh_and (eh_gt (eh_callB prLen call_len (by rfl) f_len PySem.boot_len (ah_cons (eh_ix (eh_v 1 (pv 1)) eh_int (fun _ _ => rfl)) ah_nil)) eh_int) (eh_one (eh_callB prAll (cr_all (by rfl)) (by rfl) f_all (by first | rfl | decide +kernel) (ah_cons (eh_lcA (own := [("step", 2)]) false (by rfl) nd (eh_ix (eh_v 1 (pv 1)) eh_int (fun _ _ => rfl)) (blkOk_by (N := ["tables", "value", "step"]) (sc := defScope (top 31)) (by decide +kernel)) (by decide) (fun _ _ _ _ _ => (gh_name 2 (pg_name nd rfl (by first | exact Or.inl rfl | exact Or.inr rfl)))) (fun _ _ _ _ _ => ts_nil) (fun _ _ _ _ _ => (eh_callK k_is_step q (by decide) takes0 (by rfl) (ah_cons (eh_v 0 (pv 0)) (ah_cons (eh_v 2 (pv 2)) ah_nil))))) ah_nil))))))))
theorem sc_is_row_of : FnScope ["tables", "value", "block"] ["tables", "value"] (defScope (top 32)) := ⟨rfl, rfl, rfl, by decide +kernel, rfl, by decide +kernel, by decide +kernel⟩
def ce_is_row_of_1 : Den :=
  (dCall 2 (runF 3 d_is_block) [] (aCons (dV 0) (aCons (dV 2) aNil)))
def d_is_row_of : SDen :=
  (sRet (dAnd (dCB (fIs oc xc kq) (aCons (dV 1) (aCons (dC (.ty "list")) aNil))) (dCB fAll (aCons (dLcA false [2] (dV 1) (bN 2) tdYes ce_is_row_of_1) aNil))))
theorem b_is_row_of {P : Program} {w : World} {K : PySem.W.Frag} {mg : Str → Option Value} {base : Heap} {f : Addr} (f_list : mg "list" = none) (f_isinstance : mg "isinstance" = none) (tis : IsK K oc xc kq) (k_is_block : Cal P w K mg base "is_block" 5 2 [] (runF 3 d_is_block)) (f_all : mg "all" = none) : BodyH P w K mg base ["tables", "value", "block"] 5 f "is_row_of" (defScope (top 32)) (defBody (top 32)) d_is_row_of := fun cdv A outer s H E q tk pp => by
  have nd := sc_is_row_of.nd
  have hu1 := hu64 q.1
  have hu2 := hu65 q.1
  exact (ss_one (sh_ret (eh_and (eh_callB (prIs tis) (call_isAll tis.all) (by rfl) f_isinstance (by first | rfl | decide +kernel) (ah_cons (eh_v 1 (pv 1)) (ah_cons (eh_bty (by rfl) f_list boot_list) ah_nil))) (eh_one (eh_callB prAll (cr_all (by rfl)) (by rfl) f_all (by first | rfl | decide +kernel) (ah_cons (eh_lcA (own := [("block", 2)]) false (by rfl) nd (eh_v 1 (pv 1)) (blkOk_by (N := ["tables", "value", "block"]) (sc := defScope (top 32)) (by decide +kernel)) (by decide) (fun _ _ _ _ _ => (gh_name 2 (pg_name nd rfl (by first | exact Or.inl rfl | exact Or.inr rfl)))) (fun _ _ _ _ _ => ts_nil) (fun _ _ _ _ _ => (eh_callK k_is_block q (by decide) takes0 (by rfl) (ah_cons (eh_v 0 (pv 0)) (ah_cons (eh_v 2 (pv 2)) ah_nil))))) ah_nil))))))
theorem sc_common_under : FnScope ["have", "row", "under", "amount", "_", "steps"] ["have", "row"] (defScope (top 34)) := ⟨rfl, rfl, rfl, by decide +kernel, rfl, by decide +kernel, by decide +kernel⟩
def lb_common_under_1 : SDen :=
  (sAsg (bN 2) (dCB fLcm (aCons (dV 2) (aCons (d2 fIx (dV 3) (dC (.int 1))) aNil))))
def lb_common_under_2 : SDen :=
  (sAsg (bN 2) (dCB fLcm (aCons (dV 2) (aCons (d2 fIx (dV 3) (dC (.int 1))) aNil))))
def lb_common_under_3 : SDen :=
  (sForA (dV 5) (bTup 2 (bCons (bN 4) (bCons (bN 3) bNil))) lb_common_under_2)
def d_common_under : SDen :=
  (sSeq (sAsg (bN 2) (dC (.int 1)))
  (sSeq (sForA (dV 0) (bN 3) lb_common_under_1)
  (sSeq (sForA (dV 1) (bTup 2 (bCons (bN 4) (bCons (bN 5) bNil))) lb_common_under_3)
  (sRet (dV 2)))))
theorem b_common_under {P : Program} {w : World} {K : PySem.W.Frag} {mg : Str → Option Value} {base : Heap} {f : Addr} (i_lcm : mg "lcm" = some (.builtin "math.lcm")) : BodyH P w K mg base ["have", "row", "under", "amount", "_", "steps"] 0 f "_common_under" (defScope (top 34)) (defBody (top 34)) d_common_under := fun cdv A outer s H E q tk pp => by
  have nd := sc_common_under.nd
  have hu1 := hu64 q.1
  have hu2 := hu65 q.1
  exact (ss_cons (sh_set (i := 2) nd rfl (by first | exact Or.inl rfl | exact Or.inr rfl) eh_int)
  (ss_cons (sh_forA pp (by rfl) (eh_v 0 (pv 0)) (gh_name 3 (pg_name nd rfl (by first | exact Or.inl rfl | exact Or.inr rfl))) (ss_one (sh_set (i := 2) nd rfl (by first | exact Or.inl rfl | exact Or.inr rfl) (eh_callF prLcm cr_lcm (by rfl) i_lcm (ah_cons (eh_v 2 (pv 2)) (ah_cons (eh_ix (eh_v 3 (pv 3)) eh_int (fun _ _ => rfl)) ah_nil))))))
  (ss_cons (sh_forA pp (by rfl) (eh_v 1 (pv 1)) (gh_tup (by rfl) (gh_cons (gh_name 4 (pg_name nd rfl (by first | exact Or.inl rfl | exact Or.inr rfl))) (gh_cons (gh_name 5 (pg_name nd rfl (by first | exact Or.inl rfl | exact Or.inr rfl))) gh_nil))) (ss_one (sh_forA pp (by rfl) (eh_v 5 (pv 5)) (gh_tup (by rfl) (gh_cons (gh_name 4 (pg_name nd rfl (by first | exact Or.inl rfl | exact Or.inr rfl))) (gh_cons (gh_name 3 (pg_name nd rfl (by first | exact Or.inl rfl | exact Or.inr rfl))) gh_nil))) (ss_one (sh_set (i := 2) nd rfl (by first | exact Or.inl rfl | exact Or.inr rfl) (eh_callF prLcm cr_lcm (by rfl) i_lcm (ah_cons (eh_v 2 (pv 2)) (ah_cons (eh_ix (eh_v 3 (pv 3)) eh_int (fun _ _ => rfl)) ah_nil))))))))
  (ss_one (sh_ret (eh_v 2 (pv 2)))))))
theorem sc_over : FnScope ["amount", "under"] ["amount", "under"] (defScope (top 35)) := ⟨rfl, rfl, rfl, by decide +kernel, rfl, by decide +kernel, by decide +kernel⟩
def d_over : SDen :=
  (sRet (dMul (d2 fIx (dV 0) (dC (.int 0))) (d2 fFdiv (dV 1) (d2 fIx (dV 0) (dC (.int 1))))))
theorem b_over {P : Program} {w : World} {K : PySem.W.Frag} {mg : Str → Option Value} {base : Heap} {f : Addr}  : BodyH P w K mg base ["amount", "under"] 0 f "_over" (defScope (top 35)) (defBody (top 35)) d_over := fun cdv A outer s H E q tk pp => by
  have nd := sc_over.nd
  have hu1 := hu64 q.1
  have hu2 := hu65 q.1
  exact (ss_one (sh_ret (eh_mul (eh_ix (eh_v 0 (pv 0)) eh_int (fun _ _ => rfl)) (eh_fdiv (eh_v 1 (pv 1)) (eh_ix (eh_v 0 (pv 0)) eh_int (fun _ _ => rfl))))))
theorem sc_Tables_place_of : FnScope ["self", "recipe"] ["self", "recipe"] (defScope (inClass (top 51) 1)) := ⟨rfl, rfl, rfl, by decide +kernel, rfl, by decide +kernel, by decide +kernel⟩
def d_Tables_place_of : SDen :=
  (sRet (dIndex (d1 (fFld oA_recipe_names "recipe_names") (dV 0)) (aCons (dV 1) aNil)))
theorem b_Tables_place_of {P : Program} {w : World} {K : PySem.W.Frag} {mg : Str → Option Value} {base : Heap} {f : Addr} (a_recipe_names : ∀ c, oA_recipe_names c = true → Cls K (He.ga K c) ∧ NoAttr K (He.ga K c) "recipe_names") : BodyH P w K mg base ["self", "recipe"] 0 f "Tables.place_of" (defScope (inClass (top 51) 1)) (defBody (inClass (top 51) 1)) d_Tables_place_of := fun cdv A outer s H E q tk pp => by
  have nd := sc_Tables_place_of.nd
  have hu1 := hu64 q.1
  have hu2 := hu65 q.1
  exact (ss_one (sh_ret (eh_index hu2 (eh_fld a_recipe_names (eh_v 0 (pv 0))) (ah_cons (eh_v 1 (pv 1)) ah_nil))))
theorem sc_added : FnScope ["numbers", "side", "times", "added", "stuff", "number"] ["numbers", "side", "times"] (defScope (top 36)) := ⟨rfl, rfl, rfl, by decide +kernel, rfl, by decide +kernel, by decide +kernel⟩
def lb_added_1 : SDen :=
  (sAugS (fun i j => i + j) (dV 3) (dV 4) (dMul (dV 2) (dV 5)))
def d_added : SDen :=
  (sSeq (sAsg (bN 3) (dCB (fList true) (aCons (dV 0) aNil)))
  (sSeq (sForA (dV 1) (bTup 2 (bCons (bN 4) (bCons (bN 5) bNil))) lb_added_1)
  (sRet (dFrz (dV 3)))))
theorem b_added {P : Program} {w : World} {K : PySem.W.Frag} {mg : Str → Option Value} {base : Heap} {f : Addr} (f_list : mg "list" = none) : BodyH P w K mg base ["numbers", "side", "times", "added", "stuff", "number"] 0 f "_added" (defScope (top 36)) (defBody (top 36)) d_added := fun cdv A outer s H E q tk pp => by
  have nd := sc_added.nd
  have hu1 := hu64 q.1
  have hu2 := hu65 q.1
  exact (ss_cons (sh_set (i := 3) nd rfl (by first | exact Or.inl rfl | exact Or.inr rfl) (eh_callT prList call_list_of (by rfl) f_list boot_list (ah_cons (eh_v 0 (pv 0)) ah_nil)))
  (ss_cons (sh_forA pp (by rfl) (eh_v 1 (pv 1)) (gh_tup (by rfl) (gh_cons (gh_name 4 (pg_name nd rfl (by first | exact Or.inl rfl | exact Or.inr rfl))) (gh_cons (gh_name 5 (pg_name nd rfl (by first | exact Or.inl rfl | exact Or.inr rfl))) gh_nil))) (ss_one (sh_augS ip_add (eh_v 3 (pv 3)) (eh_v 4 (pv 4)) (eh_mul (eh_v 2 (pv 2)) (eh_v 5 (pv 5))))))
  (ss_one (sh_ret (eh_frz (eh_v 3 (pv 3)))))))
theorem sc_Trip__go_turn : FnScope ["self", "moves", "recipe", "number", "left"] ["self", "moves"] (defScope (inClass (top 26) 5)) := ⟨rfl, rfl, rfl, by decide +kernel, rfl, by decide +kernel, by decide +kernel⟩
def lb_Trip__go_turn_1 : SDen :=
  (sSeq (sAsg (bN 4) (dCall 3 (runC 6 d_added) [] (aCons (d1 (fFld oA_now "now") (dV 0)) (aCons (d2 fIx (d1 (fFld oA_takes "takes") (d1 (fFld oA_tables "tables") (dV 0))) (dV 2)) (aCons (d1 fNeg (dV 3)) aNil)))))
  (sSeq (sFldH oA_now "now" (dV 0) (dCall 3 (runC 6 d_added) [] (aCons (dV 4) (aCons (d2 fIx (d1 (fFld oA_gives "gives") (d1 (fFld oA_tables "tables") (dV 0))) (dV 2)) (aCons (dV 3) aNil)))))
  (sExp (dApp (d1 (fFld oA_seen "seen") (dV 0)) (aCons (dTup (aCons (dV 4) (aCons (d1 (fFld oA_now "now") (dV 0)) aNil))) aNil)))))
def d_Trip__go_turn : SDen :=
  (sForA (dV 1) (bTup 2 (bCons (bN 2) (bCons (bN 3) bNil))) lb_Trip__go_turn_1)
theorem b_Trip__go_turn {P : Program} {w : World} {K : PySem.W.Frag} {mg : Str → Option Value} {base : Heap} {f : Addr} (a_tables : ∀ c, oA_tables c = true → Cls K (He.ga K c) ∧ NoAttr K (He.ga K c) "tables") (a_takes : ∀ c, oA_takes c = true → Cls K (He.ga K c) ∧ NoAttr K (He.ga K c) "takes") (a_now : ∀ c, oA_now c = true → Cls K (He.ga K c) ∧ NoAttr K (He.ga K c) "now") (k_addedC : Cal P w K mg base "_added" 1 3 [] (runC 6 d_added)) (a_gives : ∀ c, oA_gives c = true → Cls K (He.ga K c) ∧ NoAttr K (He.ga K c) "gives") (a_seen : ∀ c, oA_seen c = true → Cls K (He.ga K c) ∧ NoAttr K (He.ga K c) "seen") : BodyH P w K mg base ["self", "moves", "recipe", "number", "left"] 1 f "Trip._go_turn" (defScope (inClass (top 26) 5)) (defBody (inClass (top 26) 5)) d_Trip__go_turn := fun cdv A outer s H E q tk pp => by
  have nd := sc_Trip__go_turn.nd
  have hu1 := hu64 q.1
  have hu2 := hu65 q.1
  exact (ss_one (sh_forA pp (by rfl) (eh_v 1 (pv 1)) (gh_tup (by rfl) (gh_cons (gh_name 2 (pg_name nd rfl (by first | exact Or.inl rfl | exact Or.inr rfl))) (gh_cons (gh_name 3 (pg_name nd rfl (by first | exact Or.inl rfl | exact Or.inr rfl))) gh_nil))) (ss_cons (sh_set (i := 4) nd rfl (by first | exact Or.inl rfl | exact Or.inr rfl) (eh_callK k_addedC q (by decide) tk (by rfl) (ah_cons (eh_fld a_now (eh_v 0 (pv 0))) (ah_cons (eh_ix (eh_fld a_takes (eh_fld a_tables (eh_v 0 (pv 0)))) (eh_v 2 (pv 2)) (fun _ _ => rfl)) (ah_cons (eh_neg (eh_v 3 (pv 3))) ah_nil)))))
  (ss_cons (sh_fld a_now (eh_v 0 (pv 0)) (eh_callK k_addedC q (by decide) tk (by rfl) (ah_cons (eh_v 4 (pv 4)) (ah_cons (eh_ix (eh_fld a_gives (eh_fld a_tables (eh_v 0 (pv 0)))) (eh_v 2 (pv 2)) (fun _ _ => rfl)) (ah_cons (eh_v 3 (pv 3)) ah_nil)))))
  (ss_one (sh_expr (eh_app (eh_fld a_seen (eh_v 0 (pv 0))) (ah_cons (eh_tup (ah_cons (eh_v 4 (pv 4)) (ah_cons (eh_fld a_now (eh_v 0 (pv 0))) ah_nil))) ah_nil))))))))
theorem sc_Trip__go_block : FnScope ["self", "times", "steps", "moves", "recipe", "amount", "start", "number", "first"] ["self", "times", "steps"] (defScope (inClass (top 26) 4)) := ⟨rfl, rfl, rfl, by decide +kernel, rfl, by decide +kernel, by decide +kernel⟩
def ce_Trip__go_block_1 : Den :=
  (dTup (aCons (dMeth (fun z => z == "Tables") "place_of" 2 (runP (runF 2 d_Tables_place_of)) [] (d1 (fFld oA_tables "tables") (dV 0)) (aCons (dV 4) aNil)) (aCons (dCall 2 (runF 2 d_over) [] (aCons (dV 5) (aCons (d1 (fFld oA_under "under") (dV 0)) aNil))) aNil)))
def ce_Trip__go_block_2 : Den :=
  (dAdd (dV 8) (dMul (dSub (dV 1) (dC (.int 2))) (dSub (dV 8) (dV 7))))
def d_Trip__go_block : SDen :=
  (sSeq (sAsg (bN 3) (dLcA false [4, 5] (dV 2) (bTup 2 (bCons (bN 4) (bCons (bN 5) bNil))) tdYes ce_Trip__go_block_1))
  (sSeq (sAsg (bN 6) (d1 (fFld oA_now "now") (dV 0)))
  (sSeq (sExp (dMeth (fun z => z == "Trip") "_go_turn" 2 (runC 5 d_Trip__go_turn) [] (dV 0) (aCons (dV 3) aNil)))
  (sIf (dBool (dGt (dV 1) (dC (.int 1)))) (sSeq (sFldH oA_now "now" (dV 0) (dLc false [7, 8] (fun ρ => mbind ((aCons (dV 6) (aCons (d1 (fFld oA_now "now") (dV 0)) aNil)) ρ) itZ) (bTup 2 (bCons (bN 7) (bCons (bN 8) bNil))) tdYes ce_Trip__go_block_2))
  (sExp (dMeth (fun z => z == "Trip") "_go_turn" 2 (runC 5 d_Trip__go_turn) [] (dV 0) (aCons (dV 3) aNil)))) sNil))))
theorem b_Trip__go_block {P : Program} {w : World} {K : PySem.W.Frag} {mg : Str → Option Value} {base : Heap} {f : Addr} (a_under : ∀ c, oA_under c = true → Cls K (He.ga K c) ∧ NoAttr K (He.ga K c) "under") (k_over : Cal P w K mg base "_over" 1 2 [] (runF 2 d_over)) (a_tables : ∀ c, oA_tables c = true → Cls K (He.ga K c) ∧ NoAttr K (He.ga K c) "tables") (m_Tables_place_ofP : Mal P w K mg base "Tables" "place_of" 1 2 [] (runP (runF 2 d_Tables_place_of))) (a_now : ∀ c, oA_now c = true → Cls K (He.ga K c) ∧ NoAttr K (He.ga K c) "now") (m_Trip__go_turnC : Mal P w K mg base "Trip" "_go_turn" 2 2 [] (runC 5 d_Trip__go_turn)) (f_zip : mg "zip" = none) : BodyH P w K mg base ["self", "times", "steps", "moves", "recipe", "amount", "start", "number", "first"] 2 f "Trip._go_block" (defScope (inClass (top 26) 4)) (defBody (inClass (top 26) 4)) d_Trip__go_block := fun cdv A outer s H E q tk pp => by
  have nd := sc_Trip__go_block.nd
  have hu1 := hu64 q.1
  have hu2 := hu65 q.1
  exact (ss_cons (by first | exact (sh_setLcA (i := 3) (own := [("recipe", 4), ("amount", 5)]) false (by rfl) nd rfl rfl rfl (by decide) (by decide +kernel) (eh_v 2 (pv 2)) (blkOk_by (N := ["self", "times", "steps", "moves", "recipe", "amount", "start", "number", "first"]) (sc := defScope (inClass (top 26) 4)) (by decide +kernel)) (by decide) (fun _ _ _ _ _ => (gh_tup (by rfl) (gh_cons (gh_name 4 (pg_name nd rfl (by first | exact Or.inl rfl | exact Or.inr rfl))) (gh_cons (gh_name 5 (pg_name nd rfl (by first | exact Or.inl rfl | exact Or.inr rfl))) gh_nil)))) (fun _ _ _ _ _ => ts_nil) (fun _ _ _ _ _ => (eh_tup (ah_cons (eh_methK m_Tables_place_ofP q (by decide) takes0 (eh_fld a_tables (eh_v 0 (pv 0))) (ah_cons (eh_v 4 (pv 4)) ah_nil)) (ah_cons (eh_callK k_over q (by decide) takes0 (by rfl) (ah_cons (eh_v 5 (pv 5)) (ah_cons (eh_fld a_under (eh_v 0 (pv 0))) ah_nil))) ah_nil))))) | exact (sh_set (i := 3) nd rfl (by first | exact Or.inl rfl | exact Or.inr rfl) (eh_lcA (own := [("recipe", 4), ("amount", 5)]) false (by rfl) nd (eh_v 2 (pv 2)) (blkOk_by (N := ["self", "times", "steps", "moves", "recipe", "amount", "start", "number", "first"]) (sc := defScope (inClass (top 26) 4)) (by decide +kernel)) (by decide) (fun _ _ _ _ _ => (gh_tup (by rfl) (gh_cons (gh_name 4 (pg_name nd rfl (by first | exact Or.inl rfl | exact Or.inr rfl))) (gh_cons (gh_name 5 (pg_name nd rfl (by first | exact Or.inl rfl | exact Or.inr rfl))) gh_nil)))) (fun _ _ _ _ _ => ts_nil) (fun _ _ _ _ _ => (eh_tup (ah_cons (eh_methK m_Tables_place_ofP q (by decide) takes0 (eh_fld a_tables (eh_v 0 (pv 0))) (ah_cons (eh_v 4 (pv 4)) ah_nil)) (ah_cons (eh_callK k_over q (by decide) takes0 (by rfl) (ah_cons (eh_v 5 (pv 5)) (ah_cons (eh_fld a_under (eh_v 0 (pv 0))) ah_nil))) ah_nil)))))))
  (ss_cons (sh_set (i := 6) nd rfl (by first | exact Or.inl rfl | exact Or.inr rfl) (eh_fld a_now (eh_v 0 (pv 0))))
  (ss_cons (sh_expr (eh_methK m_Trip__go_turnC q (by decide) tk (eh_v 0 (pv 0)) (ah_cons (eh_v 3 (pv 3)) ah_nil)))
  (ss_one (sh_if (th_cmp op_gt (prII fun _ _ _ _ _ => .bl _) (eh_v 1 (pv 1)) eh_int (nomark _)) (ss_cons (sh_fld a_now (eh_v 0 (pv 0)) (eh_lc (own := [("number", 7), ("first", 8)]) false (by rfl) nd (ih_zip (by rfl) f_zip (ah_cons (eh_v 6 (pv 6)) (ah_cons (eh_fld a_now (eh_v 0 (pv 0))) ah_nil))) (blkOk_by (N := ["self", "times", "steps", "moves", "recipe", "amount", "start", "number", "first"]) (sc := defScope (inClass (top 26) 4)) (by decide +kernel)) (by decide) (fun _ _ _ _ _ => (gh_tup (by rfl) (gh_cons (gh_name 7 (pg_name nd rfl (by first | exact Or.inl rfl | exact Or.inr rfl))) (gh_cons (gh_name 8 (pg_name nd rfl (by first | exact Or.inl rfl | exact Or.inr rfl))) gh_nil)))) (fun _ _ _ _ _ => ts_nil) (fun _ _ _ _ _ => (eh_add (eh_v 8 (pv 8)) (eh_mul (eh_sub (eh_v 1 (pv 1)) eh_int) (eh_sub (eh_v 8 (pv 8)) (eh_v 7 (pv 7))))))))
  (ss_one (sh_expr (eh_methK m_Trip__go_turnC q (by decide) tk (eh_v 0 (pv 0)) (ah_cons (eh_v 3 (pv 3)) ah_nil))))) ss_nil)))))
theorem sc_Trip_init : FnScope ["self", "tables", "have", "row", "amount", "times", "steps"] ["self", "tables", "have", "row"] (defScope (inClass (top 26) 0)) := ⟨rfl, rfl, rfl, by decide +kernel, rfl, by decide +kernel, by decide +kernel⟩
def ce_Trip_init_1 : Den :=
  (dCall 2 (runF 2 d_over) [] (aCons (dV 4) (aCons (d1 (fFld oA_under "under") (dV 0)) aNil)))
def lb_Trip_init_2 : SDen :=
  (sExp (dMeth (fun z => z == "Trip") "_go_block" 3 (runC 9 d_Trip__go_block) [] (dV 0) (aCons (dV 5) (aCons (dV 6) aNil))))
def d_Trip_init : SDen :=
  (sSeq (sFldH oA_tables "tables" (dV 0) (dV 1))
  (sSeq (sFldH oA_under "under" (dV 0) (dCall 2 (runF 6 d_common_under) [] (aCons (dV 2) (aCons (dV 3) aNil))))
  (sSeq (sFldH oA_start "start" (dV 0) (dLcA false [4] (dV 2) (bN 4) tdYes ce_Trip_init_1))
  (sSeq (sFldH oA_seen "seen" (dV 0) (dLst true aNil))
  (sSeq (sFldH oA_now "now" (dV 0) (d1 (fFld oA_start "start") (dV 0)))
  (sForA (dV 3) (bTup 2 (bCons (bN 5) (bCons (bN 6) bNil))) lb_Trip_init_2))))))
theorem b_Trip_init {P : Program} {w : World} {K : PySem.W.Frag} {mg : Str → Option Value} {base : Heap} {f : Addr} (a_tables : ∀ c, oA_tables c = true → Cls K (He.ga K c) ∧ NoAttr K (He.ga K c) "tables") (k_common_under : Cal P w K mg base "_common_under" 1 2 [] (runF 6 d_common_under)) (a_under : ∀ c, oA_under c = true → Cls K (He.ga K c) ∧ NoAttr K (He.ga K c) "under") (k_over : Cal P w K mg base "_over" 1 2 [] (runF 2 d_over)) (a_start : ∀ c, oA_start c = true → Cls K (He.ga K c) ∧ NoAttr K (He.ga K c) "start") (a_seen : ∀ c, oA_seen c = true → Cls K (He.ga K c) ∧ NoAttr K (He.ga K c) "seen") (a_now : ∀ c, oA_now c = true → Cls K (He.ga K c) ∧ NoAttr K (He.ga K c) "now") (m_Trip__go_blockC : Mal P w K mg base "Trip" "_go_block" 3 3 [] (runC 9 d_Trip__go_block)) : BodyH P w K mg base ["self", "tables", "have", "row", "amount", "times", "steps"] 3 f "Trip.__init__" (defScope (inClass (top 26) 0)) (defBody (inClass (top 26) 0)) d_Trip_init := fun cdv A outer s H E q tk pp => by
  have nd := sc_Trip_init.nd
  have hu1 := hu64 q.1
  have hu2 := hu65 q.1
  exact (ss_cons (sh_fld a_tables (eh_v 0 (pv 0)) (eh_v 1 (pv 1)))
  (ss_cons (sh_fld a_under (eh_v 0 (pv 0)) (eh_callK k_common_under q (by decide) tk (by rfl) (ah_cons (eh_v 2 (pv 2)) (ah_cons (eh_v 3 (pv 3)) ah_nil))))
  (ss_cons (sh_fld a_start (eh_v 0 (pv 0)) (eh_lcA (own := [("amount", 4)]) false (by rfl) nd (eh_v 2 (pv 2)) (blkOk_by (N := ["self", "tables", "have", "row", "amount", "times", "steps"]) (sc := defScope (inClass (top 26) 0)) (by decide +kernel)) (by decide) (fun _ _ _ _ _ => (gh_name 4 (pg_name nd rfl (by first | exact Or.inl rfl | exact Or.inr rfl)))) (fun _ _ _ _ _ => ts_nil) (fun _ _ _ _ _ => (eh_callK k_over q (by decide) takes0 (by rfl) (ah_cons (eh_v 4 (pv 4)) (ah_cons (eh_fld a_under (eh_v 0 (pv 0))) ah_nil))))))
  (ss_cons (sh_fld a_seen (eh_v 0 (pv 0)) (eh_lst true ah_nil))
  (ss_cons (sh_fld a_now (eh_v 0 (pv 0)) (eh_fld a_start (eh_v 0 (pv 0))))
  (ss_one (sh_forA pp (by rfl) (eh_v 3 (pv 3)) (gh_tup (by rfl) (gh_cons (gh_name 5 (pg_name nd rfl (by first | exact Or.inl rfl | exact Or.inr rfl))) (gh_cons (gh_name 6 (pg_name nd rfl (by first | exact Or.inl rfl | exact Or.inr rfl))) gh_nil))) (ss_one (sh_expr (eh_methK m_Trip__go_blockC q (by decide) tk (eh_v 0 (pv 0)) (ah_cons (eh_v 5 (pv 5)) (ah_cons (eh_v 6 (pv 6)) ah_nil))))))))))))
theorem sc_Trip_can_be_done : FnScope ["self", "rooms", "room", "left", "held", "number"] ["self"] (defScope (inClass (top 26) 1)) := ⟨rfl, rfl, rfl, by decide +kernel, rfl, by decide +kernel, by decide +kernel⟩
def ce_Trip_can_be_done_1 : Den :=
  (dIf (dBool (d2 (fIsN false) (dV 2) (dC .non))) (dC .non) (dMul (dV 2) (d1 (fFld oA_under "under") (dV 0))))
def lb_Trip_can_be_done_2 : SDen :=
  (sSeq (sIf (dTru (dCB fAny (aCons (dLcA false [5] (dV 3) (bN 5) tdYes (dLt (dV 5) (dC (.int 0)))) aNil))) (sRet (dC (.bl false))) sNil)
  (sIf (dTru (dCB fAny (aCons (dLc false [5, 2] (fun ρ => mbind ((aCons (dV 4) (aCons (dV 1) aNil)) ρ) itZ) (bTup 2 (bCons (bN 5) (bCons (bN 2) bNil))) tdYes (dAnd (d2 (fIsN true) (dV 2) (dC .non)) (dGt (dV 5) (dV 2)))) aNil))) (sRet (dC (.bl false))) sNil))
def d_Trip_can_be_done : SDen :=
  (sSeq (sAsg (bN 1) (dLcA false [2] (d1 (fFld oA_rooms "rooms") (d1 (fFld oA_tables "tables") (dV 0))) (bN 2) tdYes ce_Trip_can_be_done_1))
  (sSeq (sForA (d1 (fFld oA_seen "seen") (dV 0)) (bTup 2 (bCons (bN 3) (bCons (bN 4) bNil))) lb_Trip_can_be_done_2)
  (sRet (dC (.bl true)))))
theorem b_Trip_can_be_done {P : Program} {w : World} {K : PySem.W.Frag} {mg : Str → Option Value} {base : Heap} {f : Addr} (a_tables : ∀ c, oA_tables c = true → Cls K (He.ga K c) ∧ NoAttr K (He.ga K c) "tables") (a_rooms : ∀ c, oA_rooms c = true → Cls K (He.ga K c) ∧ NoAttr K (He.ga K c) "rooms") (a_under : ∀ c, oA_under c = true → Cls K (He.ga K c) ∧ NoAttr K (He.ga K c) "under") (a_seen : ∀ c, oA_seen c = true → Cls K (He.ga K c) ∧ NoAttr K (He.ga K c) "seen") (f_any : mg "any" = none) (f_zip : mg "zip" = none) : BodyH P w K mg base ["self", "rooms", "room", "left", "held", "number"] 0 f "Trip.can_be_done" (defScope (inClass (top 26) 1)) (defBody (inClass (top 26) 1)) d_Trip_can_be_done := fun cdv A outer s H E q tk pp => by
  have nd := sc_Trip_can_be_done.nd
  have hu1 := hu64 q.1
  have hu2 := hu65 q.1
  exact (ss_cons (by first | exact (sh_setLcA (i := 1) (own := [("room", 2)]) false (by rfl) nd rfl rfl rfl (by decide) (by decide +kernel) (eh_fld a_rooms (eh_fld a_tables (eh_v 0 (pv 0)))) (blkOk_by (N := ["self", "rooms", "room", "left", "held", "number"]) (sc := defScope (inClass (top 26) 1)) (by decide +kernel)) (by decide) (fun _ _ _ _ _ => (gh_name 2 (pg_name nd rfl (by first | exact Or.inl rfl | exact Or.inr rfl)))) (fun _ _ _ _ _ => ts_nil) (fun _ _ _ _ _ => (eh_if (th_cmp op_isN prIsN (eh_v 2 (pv 2)) eh_non (by rfl)) eh_non (eh_mul (eh_v 2 (pv 2)) (eh_fld a_under (eh_v 0 (pv 0))))))) | exact (sh_set (i := 1) nd rfl (by first | exact Or.inl rfl | exact Or.inr rfl) (eh_lcA (own := [("room", 2)]) false (by rfl) nd (eh_fld a_rooms (eh_fld a_tables (eh_v 0 (pv 0)))) (blkOk_by (N := ["self", "rooms", "room", "left", "held", "number"]) (sc := defScope (inClass (top 26) 1)) (by decide +kernel)) (by decide) (fun _ _ _ _ _ => (gh_name 2 (pg_name nd rfl (by first | exact Or.inl rfl | exact Or.inr rfl)))) (fun _ _ _ _ _ => ts_nil) (fun _ _ _ _ _ => (eh_if (th_cmp op_isN prIsN (eh_v 2 (pv 2)) eh_non (by rfl)) eh_non (eh_mul (eh_v 2 (pv 2)) (eh_fld a_under (eh_v 0 (pv 0)))))))))
  (ss_cons (sh_forA pp (by rfl) (eh_fld a_seen (eh_v 0 (pv 0))) (gh_tup (by rfl) (gh_cons (gh_name 3 (pg_name nd rfl (by first | exact Or.inl rfl | exact Or.inr rfl))) (gh_cons (gh_name 4 (pg_name nd rfl (by first | exact Or.inl rfl | exact Or.inr rfl))) gh_nil))) (ss_cons (sh_if (th_tru (eh_callB prAny (cr_any (by rfl)) (by rfl) f_any (by first | rfl | decide +kernel) (ah_cons (eh_lcA (own := [("number", 5)]) false (by rfl) nd (eh_v 3 (pv 3)) (blkOk_by (N := ["self", "rooms", "room", "left", "held", "number"]) (sc := defScope (inClass (top 26) 1)) (by decide +kernel)) (by decide) (fun _ _ _ _ _ => (gh_name 5 (pg_name nd rfl (by first | exact Or.inl rfl | exact Or.inr rfl)))) (fun _ _ _ _ _ => ts_nil) (fun _ _ _ _ _ => (eh_lt (eh_v 5 (pv 5)) eh_int))) ah_nil))) (ss_one (sh_ret eh_bl)) ss_nil)
  (ss_one (sh_if (th_tru (eh_callB prAny (cr_any (by rfl)) (by rfl) f_any (by first | rfl | decide +kernel) (ah_cons (eh_lc (own := [("number", 5), ("room", 2)]) false (by rfl) nd (ih_zip (by rfl) f_zip (ah_cons (eh_v 4 (pv 4)) (ah_cons (eh_v 1 (pv 1)) ah_nil))) (blkOk_by (N := ["self", "rooms", "room", "left", "held", "number"]) (sc := defScope (inClass (top 26) 1)) (by decide +kernel)) (by decide) (fun _ _ _ _ _ => (gh_tup (by rfl) (gh_cons (gh_name 5 (pg_name nd rfl (by first | exact Or.inl rfl | exact Or.inr rfl))) (gh_cons (gh_name 2 (pg_name nd rfl (by first | exact Or.inl rfl | exact Or.inr rfl))) gh_nil)))) (fun _ _ _ _ _ => ts_nil) (fun _ _ _ _ _ => (eh_and (eh_notN (eh_v 2 (pv 2)) eh_non) (eh_one (eh_gt (eh_v 5 (pv 5)) (eh_v 2 (pv 2))))))) ah_nil))) (ss_one (sh_ret eh_bl)) ss_nil))))
  (ss_one (sh_ret eh_bl))))
theorem sc_need_trip : FnScope ["mill", "have", "row", "tables", "trip"] ["mill", "have", "row"] (defScope (top 60)) := ⟨rfl, rfl, rfl, by decide +kernel, rfl, by decide +kernel, by decide +kernel⟩
def d_need_trip : SDen :=
  (sSeq (sAsg (bN 3) (dCall 1 (runF 10 d_tables_of) [] (aCons (dV 0) aNil)))
  (sSeq (sExp (dCall 2 (runF 2 d_need_holdings) [] (aCons (dV 3) (aCons (dV 1) aNil))))
  (sSeq (sIf (tdNot (dTru (dCall 2 (runF 3 d_is_row_of) [] (aCons (dV 3) (aCons (dV 2) aNil))))) (sRaise "InvalidRow" "value" (aCons (dV 2) aNil)) sNil)
  (sSeq (sAsg (bN 4) (dFrz (dMake "Trip" 4 (runB 7 d_Trip_init) [] (aCons (dV 3) (aCons (dV 1) (aCons (dV 2) aNil))))))
  (sSeq (sIf (tdNot (dTru (dMeth (fun z => z == "Trip") "can_be_done" 1 (runF 6 d_Trip_can_be_done) [] (dV 4) aNil))) (sRaise "InvalidRow" "value" (aCons (dV 2) aNil)) sNil)
  (sRet (dV 4)))))))
theorem b_need_trip {P : Program} {w : World} {K : PySem.W.Frag} {mg : Str → Option Value} {base : Heap} {f : Addr} (k_tables_of : Cal P w K mg base "tables_of" 4 1 [] (runF 10 d_tables_of)) (k_need_holdings : Cal P w K mg base "need_holdings" 5 2 [] (runF 2 d_need_holdings)) (k_is_row_of : Cal P w K mg base "is_row_of" 6 2 [] (runF 3 d_is_row_of)) (r_InvalidRow : RaiseK P w K mg base "InvalidRow" "value") (k_TripB : Kal P w K mg base "Trip" 4 4 [] (runB 7 d_Trip_init)) (m_Trip_can_be_done : Mal P w K mg base "Trip" "can_be_done" 1 1 [] (runF 6 d_Trip_can_be_done)) : BodyH P w K mg base ["mill", "have", "row", "tables", "trip"] 6 f "_need_trip" (defScope (top 60)) (defBody (top 60)) d_need_trip := fun cdv A outer s H E q tk pp => by
  have nd := sc_need_trip.nd
  have hu1 := hu64 q.1
  have hu2 := hu65 q.1
  exact (ss_cons (sh_set (i := 3) nd rfl (by first | exact Or.inl rfl | exact Or.inr rfl) (eh_callK k_tables_of q (by decide) tk (by rfl) (ah_cons (eh_v 0 (pv 0)) ah_nil)))
  (ss_cons (sh_expr (eh_callK k_need_holdings q (by decide) tk (by rfl) (ah_cons (eh_v 3 (pv 3)) (ah_cons (eh_v 1 (pv 1)) ah_nil))))
  (ss_cons (sh_if (th_not (th_tru (eh_callK k_is_row_of q (by decide) tk (by rfl) (ah_cons (eh_v 3 (pv 3)) (ah_cons (eh_v 2 (pv 2)) ah_nil))))) (ss_one (sh_raiseK r_InvalidRow (by rfl) q tk (by rfl) (by decide) (ah_cons (eh_v 2 (pv 2)) ah_nil))) ss_nil)
  (ss_cons (sh_set (i := 4) nd rfl (by first | exact Or.inl rfl | exact Or.inr rfl) (eh_frz (eh_makeK k_TripB q (by decide) tk (by rfl) (ah_cons (eh_v 3 (pv 3)) (ah_cons (eh_v 1 (pv 1)) (ah_cons (eh_v 2 (pv 2)) ah_nil))))))
  (ss_cons (sh_if (th_not (th_tru (eh_meth0K m_Trip_can_be_done q (by decide) tk (eh_v 4 (pv 4))))) (ss_one (sh_raiseK r_InvalidRow (by rfl) q tk (by rfl) (by decide) (ah_cons (eh_v 2 (pv 2)) ah_nil))) ss_nil)
  (ss_one (sh_ret (eh_v 4 (pv 4)))))))))
theorem sc_fraction : FnScope ["top", "under", "common"] ["top", "under"] (defScope (top 10)) := ⟨rfl, rfl, rfl, by decide +kernel, rfl, by decide +kernel, by decide +kernel⟩
def d_fraction : SDen :=
  (sSeq (sAsg (bN 2) (dCB fGcd (aCons (dV 0) (aCons (dV 1) aNil))))
  (sRet (dTup (aCons (d2 fFdiv (dV 0) (dV 2)) (aCons (d2 fFdiv (dV 1) (dV 2)) aNil)))))
theorem b_fraction {P : Program} {w : World} {K : PySem.W.Frag} {mg : Str → Option Value} {base : Heap} {f : Addr} (i_gcd : mg "gcd" = some (.builtin "math.gcd")) : BodyH P w K mg base ["top", "under", "common"] 0 f "fraction" (defScope (top 10)) (defBody (top 10)) d_fraction := fun cdv A outer s H E q tk pp => by
  have nd := sc_fraction.nd
  have hu1 := hu64 q.1
  have hu2 := hu65 q.1
  exact (ss_cons (sh_set (i := 2) nd rfl (by first | exact Or.inl rfl | exact Or.inr rfl) (eh_callF prGcd cr_gcd (by rfl) i_gcd (ah_cons (eh_v 0 (pv 0)) (ah_cons (eh_v 1 (pv 1)) ah_nil))))
  (ss_one (sh_ret (eh_tup (ah_cons (eh_fdiv (eh_v 0 (pv 0)) (eh_v 2 (pv 2))) (ah_cons (eh_fdiv (eh_v 1 (pv 1)) (eh_v 2 (pv 2))) ah_nil))))))
theorem sc_Trip_end : FnScope ["self", "number"] ["self"] (defScope (inClass (top 26) 2)) := ⟨rfl, rfl, rfl, by decide +kernel, rfl, by decide +kernel, by decide +kernel⟩
def ce_Trip_end_1 : Den :=
  (dCall 2 (runF 3 d_fraction) [] (aCons (dV 1) (aCons (d1 (fFld oA_under "under") (dV 0)) aNil)))
def d_Trip_end : SDen :=
  (sRet (dLcA false [1] (d1 (fFld oA_now "now") (dV 0)) (bN 1) tdYes ce_Trip_end_1))
theorem b_Trip_end {P : Program} {w : World} {K : PySem.W.Frag} {mg : Str → Option Value} {base : Heap} {f : Addr} (a_now : ∀ c, oA_now c = true → Cls K (He.ga K c) ∧ NoAttr K (He.ga K c) "now") (a_under : ∀ c, oA_under c = true → Cls K (He.ga K c) ∧ NoAttr K (He.ga K c) "under") (k_fraction : Cal P w K mg base "fraction" 1 2 [] (runF 3 d_fraction)) : BodyH P w K mg base ["self", "number"] 1 f "Trip.end" (defScope (inClass (top 26) 2)) (defBody (inClass (top 26) 2)) d_Trip_end := fun cdv A outer s H E q tk pp => by
  have nd := sc_Trip_end.nd
  have hu1 := hu64 q.1
  have hu2 := hu65 q.1
  exact (ss_one (sh_ret (eh_lcA (own := [("number", 1)]) false (by rfl) nd (eh_fld a_now (eh_v 0 (pv 0))) (blkOk_by (N := ["self", "number"]) (sc := defScope (inClass (top 26) 2)) (by decide +kernel)) (by decide) (fun _ _ _ _ _ => (gh_name 1 (pg_name nd rfl (by first | exact Or.inl rfl | exact Or.inr rfl)))) (fun _ _ _ _ _ => ts_nil) (fun _ _ _ _ _ => (eh_callK k_fraction q (by decide) takes0 (by rfl) (ah_cons (eh_v 1 (pv 1)) (ah_cons (eh_fld a_under (eh_v 0 (pv 0))) ah_nil)))))))
theorem sc_led : FnScope ["mill", "have", "row"] ["mill", "have", "row"] (defScope (top 56)) := ⟨rfl, rfl, rfl, by decide +kernel, rfl, by decide +kernel, by decide +kernel⟩
def d_led : SDen :=
  (sRet (dMeth (fun z => z == "Trip") "end" 1 (runF 2 d_Trip_end) [] (dCall 3 (runF 5 d_need_trip) [] (aCons (dV 0) (aCons (dV 1) (aCons (dV 2) aNil)))) aNil))
theorem b_led {P : Program} {w : World} {K : PySem.W.Frag} {mg : Str → Option Value} {base : Heap} {f : Addr} (k_need_trip : Cal P w K mg base "_need_trip" 7 3 [] (runF 5 d_need_trip)) (m_Trip_end : Mal P w K mg base "Trip" "end" 2 1 [] (runF 2 d_Trip_end)) : BodyH P w K mg base ["mill", "have", "row"] 7 f "led" (defScope (top 56)) (defBody (top 56)) d_led := fun cdv A outer s H E q tk pp => by
  have nd := sc_led.nd
  have hu1 := hu64 q.1
  have hu2 := hu65 q.1
  exact (ss_one (sh_ret (eh_meth0K m_Trip_end q (by decide) tk (eh_callK k_need_trip q (by decide) tk (by rfl) (ah_cons (eh_v 0 (pv 0)) (ah_cons (eh_v 1 (pv 1)) (ah_cons (eh_v 2 (pv 2)) ah_nil)))))))
theorem sc_Trip_narrows : FnScope ["self", "least", "most", "left", "held", "number", "other", "low", "high"] ["self"] (defScope (inClass (top 26) 3)) := ⟨rfl, rfl, rfl, by decide +kernel, rfl, by decide +kernel, by decide +kernel⟩
def lb_Trip_narrows_1 : SDen :=
  (sSeq (sAsg (bN 1) (dLc false [5, 6] (fun ρ => mbind ((aCons (dV 1) (aCons (dV 3) aNil)) ρ) itZ) (bTup 2 (bCons (bN 5) (bCons (bN 6) bNil))) tdYes (dCB fMin2 (aCons (dV 5) (aCons (dV 6) aNil)))))
  (sAsg (bN 2) (dLc false [5, 6] (fun ρ => mbind ((aCons (dV 2) (aCons (dV 4) aNil)) ρ) itZ) (bTup 2 (bCons (bN 5) (bCons (bN 6) bNil))) tdYes (dCB fMax2 (aCons (dV 5) (aCons (dV 6) aNil))))))
def ce_Trip_narrows_2 : Den :=
  (dTup (aCons (dCall 2 (runF 3 d_fraction) [] (aCons (dV 7) (aCons (d1 (fFld oA_under "under") (dV 0)) aNil))) (aCons (dCall 2 (runF 3 d_fraction) [] (aCons (dV 8) (aCons (d1 (fFld oA_under "under") (dV 0)) aNil))) aNil)))
def d_Trip_narrows : SDen :=
  (sSeq (sAsg2 (bN 1) (bN 2) (d1 (fFld oA_start "start") (dV 0)))
  (sSeq (sForA (d1 (fFld oA_seen "seen") (dV 0)) (bTup 2 (bCons (bN 3) (bCons (bN 4) bNil))) lb_Trip_narrows_1)
  (sRet (dLc false [7, 8] (fun ρ => mbind ((aCons (dV 1) (aCons (dV 2) aNil)) ρ) itZ) (bTup 2 (bCons (bN 7) (bCons (bN 8) bNil))) tdYes ce_Trip_narrows_2))))
theorem b_Trip_narrows {P : Program} {w : World} {K : PySem.W.Frag} {mg : Str → Option Value} {base : Heap} {f : Addr} (a_start : ∀ c, oA_start c = true → Cls K (He.ga K c) ∧ NoAttr K (He.ga K c) "start") (a_seen : ∀ c, oA_seen c = true → Cls K (He.ga K c) ∧ NoAttr K (He.ga K c) "seen") (f_zip : mg "zip" = none) (f_min : mg "min" = none) (f_max : mg "max" = none) (a_under : ∀ c, oA_under c = true → Cls K (He.ga K c) ∧ NoAttr K (He.ga K c) "under") (k_fraction : Cal P w K mg base "fraction" 1 2 [] (runF 3 d_fraction)) : BodyH P w K mg base ["self", "least", "most", "left", "held", "number", "other", "low", "high"] 1 f "Trip.narrows" (defScope (inClass (top 26) 3)) (defBody (inClass (top 26) 3)) d_Trip_narrows := fun cdv A outer s H E q tk pp => by
  have nd := sc_Trip_narrows.nd
  have hu1 := hu64 q.1
  have hu2 := hu65 q.1
  exact (ss_cons (sh_asg2 (eh_fld a_start (eh_v 0 (pv 0))) (gh_name 1 (pg_name nd rfl (by first | exact Or.inl rfl | exact Or.inr rfl))) (gh_name 2 (pg_name nd rfl (by first | exact Or.inl rfl | exact Or.inr rfl))))
  (ss_cons (sh_forA pp (by rfl) (eh_fld a_seen (eh_v 0 (pv 0))) (gh_tup (by rfl) (gh_cons (gh_name 3 (pg_name nd rfl (by first | exact Or.inl rfl | exact Or.inr rfl))) (gh_cons (gh_name 4 (pg_name nd rfl (by first | exact Or.inl rfl | exact Or.inr rfl))) gh_nil))) (ss_cons (by first | exact (sh_setLc (i := 1) (own := [("number", 5), ("other", 6)]) false (by rfl) nd rfl rfl rfl (by decide) (by decide +kernel) (ih_zip (by rfl) f_zip (ah_cons (eh_v 1 (pv 1)) (ah_cons (eh_v 3 (pv 3)) ah_nil))) (blkOk_by (N := ["self", "least", "most", "left", "held", "number", "other", "low", "high"]) (sc := defScope (inClass (top 26) 3)) (by decide +kernel)) (by decide) (fun _ _ _ _ _ => (gh_tup (by rfl) (gh_cons (gh_name 5 (pg_name nd rfl (by first | exact Or.inl rfl | exact Or.inr rfl))) (gh_cons (gh_name 6 (pg_name nd rfl (by first | exact Or.inl rfl | exact Or.inr rfl))) gh_nil)))) (fun _ _ _ _ _ => ts_nil) (fun _ _ _ _ _ => (eh_callB prMin2 (call_min2 (by rfl)) (by rfl) f_min boot_min (ah_cons (eh_v 5 (pv 5)) (ah_cons (eh_v 6 (pv 6)) ah_nil))))) | exact (sh_set (i := 1) nd rfl (by first | exact Or.inl rfl | exact Or.inr rfl) (eh_lc (own := [("number", 5), ("other", 6)]) false (by rfl) nd (ih_zip (by rfl) f_zip (ah_cons (eh_v 1 (pv 1)) (ah_cons (eh_v 3 (pv 3)) ah_nil))) (blkOk_by (N := ["self", "least", "most", "left", "held", "number", "other", "low", "high"]) (sc := defScope (inClass (top 26) 3)) (by decide +kernel)) (by decide) (fun _ _ _ _ _ => (gh_tup (by rfl) (gh_cons (gh_name 5 (pg_name nd rfl (by first | exact Or.inl rfl | exact Or.inr rfl))) (gh_cons (gh_name 6 (pg_name nd rfl (by first | exact Or.inl rfl | exact Or.inr rfl))) gh_nil)))) (fun _ _ _ _ _ => ts_nil) (fun _ _ _ _ _ => (eh_callB prMin2 (call_min2 (by rfl)) (by rfl) f_min boot_min (ah_cons (eh_v 5 (pv 5)) (ah_cons (eh_v 6 (pv 6)) ah_nil)))))))
  (ss_one (by first | exact (sh_setLc (i := 2) (own := [("number", 5), ("other", 6)]) false (by rfl) nd rfl rfl rfl (by decide) (by decide +kernel) (ih_zip (by rfl) f_zip (ah_cons (eh_v 2 (pv 2)) (ah_cons (eh_v 4 (pv 4)) ah_nil))) (blkOk_by (N := ["self", "least", "most", "left", "held", "number", "other", "low", "high"]) (sc := defScope (inClass (top 26) 3)) (by decide +kernel)) (by decide) (fun _ _ _ _ _ => (gh_tup (by rfl) (gh_cons (gh_name 5 (pg_name nd rfl (by first | exact Or.inl rfl | exact Or.inr rfl))) (gh_cons (gh_name 6 (pg_name nd rfl (by first | exact Or.inl rfl | exact Or.inr rfl))) gh_nil)))) (fun _ _ _ _ _ => ts_nil) (fun _ _ _ _ _ => (eh_callB prMax2 (call_max2 (by rfl)) (by rfl) f_max boot_max (ah_cons (eh_v 5 (pv 5)) (ah_cons (eh_v 6 (pv 6)) ah_nil))))) | exact (sh_set (i := 2) nd rfl (by first | exact Or.inl rfl | exact Or.inr rfl) (eh_lc (own := [("number", 5), ("other", 6)]) false (by rfl) nd (ih_zip (by rfl) f_zip (ah_cons (eh_v 2 (pv 2)) (ah_cons (eh_v 4 (pv 4)) ah_nil))) (blkOk_by (N := ["self", "least", "most", "left", "held", "number", "other", "low", "high"]) (sc := defScope (inClass (top 26) 3)) (by decide +kernel)) (by decide) (fun _ _ _ _ _ => (gh_tup (by rfl) (gh_cons (gh_name 5 (pg_name nd rfl (by first | exact Or.inl rfl | exact Or.inr rfl))) (gh_cons (gh_name 6 (pg_name nd rfl (by first | exact Or.inl rfl | exact Or.inr rfl))) gh_nil)))) (fun _ _ _ _ _ => ts_nil) (fun _ _ _ _ _ => (eh_callB prMax2 (call_max2 (by rfl)) (by rfl) f_max boot_max (ah_cons (eh_v 5 (pv 5)) (ah_cons (eh_v 6 (pv 6)) ah_nil))))))))))
  (ss_one (sh_ret (eh_lc (own := [("low", 7), ("high", 8)]) false (by rfl) nd (ih_zip (by rfl) f_zip (ah_cons (eh_v 1 (pv 1)) (ah_cons (eh_v 2 (pv 2)) ah_nil))) (blkOk_by (N := ["self", "least", "most", "left", "held", "number", "other", "low", "high"]) (sc := defScope (inClass (top 26) 3)) (by decide +kernel)) (by decide) (fun _ _ _ _ _ => (gh_tup (by rfl) (gh_cons (gh_name 7 (pg_name nd rfl (by first | exact Or.inl rfl | exact Or.inr rfl))) (gh_cons (gh_name 8 (pg_name nd rfl (by first | exact Or.inl rfl | exact Or.inr rfl))) gh_nil)))) (fun _ _ _ _ _ => ts_nil) (fun _ _ _ _ _ => (eh_tup (ah_cons (eh_callK k_fraction q (by decide) takes0 (by rfl) (ah_cons (eh_v 7 (pv 7)) (ah_cons (eh_fld a_under (eh_v 0 (pv 0))) ah_nil))) (ah_cons (eh_callK k_fraction q (by decide) takes0 (by rfl) (ah_cons (eh_v 8 (pv 8)) (ah_cons (eh_fld a_under (eh_v 0 (pv 0))) ah_nil))) ah_nil)))))))))
theorem sc_narrows : FnScope ["mill", "have", "row"] ["mill", "have", "row"] (defScope (top 58)) := ⟨rfl, rfl, rfl, by decide +kernel, rfl, by decide +kernel, by decide +kernel⟩
def d_narrows : SDen :=
  (sRet (dMeth (fun z => z == "Trip") "narrows" 1 (runF 9 d_Trip_narrows) [] (dCall 3 (runF 5 d_need_trip) [] (aCons (dV 0) (aCons (dV 1) (aCons (dV 2) aNil)))) aNil))
theorem b_narrows {P : Program} {w : World} {K : PySem.W.Frag} {mg : Str → Option Value} {base : Heap} {f : Addr} (k_need_trip : Cal P w K mg base "_need_trip" 7 3 [] (runF 5 d_need_trip)) (m_Trip_narrows : Mal P w K mg base "Trip" "narrows" 2 1 [] (runF 9 d_Trip_narrows)) : BodyH P w K mg base ["mill", "have", "row"] 7 f "narrows" (defScope (top 58)) (defBody (top 58)) d_narrows := fun cdv A outer s H E q tk pp => by
  have nd := sc_narrows.nd
  have hu1 := hu64 q.1
  have hu2 := hu65 q.1
  exact (ss_one (sh_ret (eh_meth0K m_Trip_narrows q (by decide) tk (eh_callK k_need_trip q (by decide) tk (by rfl) (ah_cons (eh_v 0 (pv 0)) (ah_cons (eh_v 1 (pv 1)) (ah_cons (eh_v 2 (pv 2)) ah_nil)))))))
theorem sc_is_row : FnScope ["mill", "have", "value", "tables"] ["mill", "have", "value"] (defScope (top 57)) := ⟨rfl, rfl, rfl, by decide +kernel, rfl, by decide +kernel, by decide +kernel⟩
def d_is_row : SDen :=
  (sSeq (sAsg (bN 3) (dCall 1 (runF 10 d_tables_of) [] (aCons (dV 0) aNil)))
  (sSeq (sExp (dCall 2 (runF 2 d_need_holdings) [] (aCons (dV 3) (aCons (dV 1) aNil))))
  (sRet (dAnd (dCall 2 (runF 3 d_is_row_of) [] (aCons (dV 3) (aCons (dV 2) aNil))) (dMeth (fun z => z == "Trip") "can_be_done" 1 (runF 6 d_Trip_can_be_done) [] (dFrz (dMake "Trip" 4 (runB 7 d_Trip_init) [] (aCons (dV 3) (aCons (dV 1) (aCons (dV 2) aNil))))) aNil)))))
theorem b_is_row {P : Program} {w : World} {K : PySem.W.Frag} {mg : Str → Option Value} {base : Heap} {f : Addr} (k_tables_of : Cal P w K mg base "tables_of" 4 1 [] (runF 10 d_tables_of)) (k_need_holdings : Cal P w K mg base "need_holdings" 5 2 [] (runF 2 d_need_holdings)) (k_is_row_of : Cal P w K mg base "is_row_of" 6 2 [] (runF 3 d_is_row_of)) (k_TripB : Kal P w K mg base "Trip" 4 4 [] (runB 7 d_Trip_init)) (m_Trip_can_be_done : Mal P w K mg base "Trip" "can_be_done" 1 1 [] (runF 6 d_Trip_can_be_done)) : BodyH P w K mg base ["mill", "have", "value", "tables"] 6 f "is_row" (defScope (top 57)) (defBody (top 57)) d_is_row := fun cdv A outer s H E q tk pp => by
  have nd := sc_is_row.nd
  have hu1 := hu64 q.1
  have hu2 := hu65 q.1
  exact (ss_cons (sh_set (i := 3) nd rfl (by first | exact Or.inl rfl | exact Or.inr rfl) (eh_callK k_tables_of q (by decide) tk (by rfl) (ah_cons (eh_v 0 (pv 0)) ah_nil)))
  (ss_cons (sh_expr (eh_callK k_need_holdings q (by decide) tk (by rfl) (ah_cons (eh_v 3 (pv 3)) (ah_cons (eh_v 1 (pv 1)) ah_nil))))
  (ss_one (sh_ret (eh_and (eh_callK k_is_row_of q (by decide) tk (by rfl) (ah_cons (eh_v 3 (pv 3)) (ah_cons (eh_v 2 (pv 2)) ah_nil))) (eh_one (eh_meth0K m_Trip_can_be_done q (by decide) tk (eh_frz (eh_makeK k_TripB q (by decide) tk (by rfl) (ah_cons (eh_v 3 (pv 3)) (ah_cons (eh_v 1 (pv 1)) (ah_cons (eh_v 2 (pv 2)) ah_nil))))))))))))
theorem sc_sums_done : FnScope ["tables", "row", "under", "sums", "times", "steps", "recipe", "amount", "number"] ["tables", "row"] (defScope (top 33)) := ⟨rfl, rfl, rfl, by decide +kernel, rfl, by decide +kernel, by decide +kernel⟩
def lb_sums_done_1 : SDen :=
  (sAugS (fun i j => i + j) (dV 3) (dMeth (fun z => z == "Tables") "place_of" 2 (runF 2 d_Tables_place_of) [] (dV 0) (aCons (dV 6) aNil)) (dMul (dV 4) (dCall 2 (runF 2 d_over) [] (aCons (dV 7) (aCons (dV 2) aNil)))))
def lb_sums_done_2 : SDen :=
  (sForA (dV 5) (bTup 2 (bCons (bN 6) (bCons (bN 7) bNil))) lb_sums_done_1)
def ce_sums_done_3 : Den :=
  (dCall 2 (runC 3 d_fraction) [] (aCons (dV 8) (aCons (dV 2) aNil)))
def d_sums_done : SDen :=
  (sSeq (sAsg (bN 2) (dCall 2 (runF 6 d_common_under) [] (aCons (dLst false aNil) (aCons (dV 1) aNil))))
  (sSeq (sAsg (bN 3) (d2 (fRepL true) (dLst false (aCons (dC (.int 0)) aNil)) (dCB fLen (aCons (d1 (fFld oA_recipe_names "recipe_names") (dV 0)) aNil))))
  (sSeq (sForA (dV 1) (bTup 2 (bCons (bN 4) (bCons (bN 5) bNil))) lb_sums_done_2)
  (sRet (dLcA false [8] (dV 3) (bN 8) tdYes ce_sums_done_3)))))
theorem b_sums_done {P : Program} {w : World} {K : PySem.W.Frag} {mg : Str → Option Value} {base : Heap} {f : Addr} (k_common_under : Cal P w K mg base "_common_under" 1 2 [] (runF 6 d_common_under)) (a_recipe_names : ∀ c, oA_recipe_names c = true → Cls K (He.ga K c) ∧ NoAttr K (He.ga K c) "recipe_names") (f_len : mg "len" = none) (m_Tables_place_of : Mal P w K mg base "Tables" "place_of" 1 2 [] (runF 2 d_Tables_place_of)) (k_over : Cal P w K mg base "_over" 1 2 [] (runF 2 d_over)) (k_fractionC : Cal P w K mg base "fraction" 1 2 [] (runC 3 d_fraction)) : BodyH P w K mg base ["tables", "row", "under", "sums", "times", "steps", "recipe", "amount", "number"] 1 f "sums_done" (defScope (top 33)) (defBody (top 33)) d_sums_done := fun cdv A outer s H E q tk pp => by
  have nd := sc_sums_done.nd
  have hu1 := hu64 q.1
  have hu2 := hu65 q.1
  exact (ss_cons (sh_set (i := 2) nd rfl (by first | exact Or.inl rfl | exact Or.inr rfl) (eh_callK k_common_under q (by decide) tk (by rfl) (ah_cons (eh_lst false ah_nil) (ah_cons (eh_v 1 (pv 1)) ah_nil))))
  (ss_cons (sh_set (i := 3) nd rfl (by first | exact Or.inl rfl | exact Or.inr rfl) (eh_repL true (eh_lst false (ah_cons eh_int ah_nil)) (eh_callB prLen call_len (by rfl) f_len PySem.boot_len (ah_cons (eh_fld a_recipe_names (eh_v 0 (pv 0))) ah_nil))))
  (ss_cons (sh_forA pp (by rfl) (eh_v 1 (pv 1)) (gh_tup (by rfl) (gh_cons (gh_name 4 (pg_name nd rfl (by first | exact Or.inl rfl | exact Or.inr rfl))) (gh_cons (gh_name 5 (pg_name nd rfl (by first | exact Or.inl rfl | exact Or.inr rfl))) gh_nil))) (ss_one (sh_forA pp (by rfl) (eh_v 5 (pv 5)) (gh_tup (by rfl) (gh_cons (gh_name 6 (pg_name nd rfl (by first | exact Or.inl rfl | exact Or.inr rfl))) (gh_cons (gh_name 7 (pg_name nd rfl (by first | exact Or.inl rfl | exact Or.inr rfl))) gh_nil))) (ss_one (sh_augS ip_add (eh_v 3 (pv 3)) (eh_methK m_Tables_place_of q (by decide) tk (eh_v 0 (pv 0)) (ah_cons (eh_v 6 (pv 6)) ah_nil)) (eh_mul (eh_v 4 (pv 4)) (eh_callK k_over q (by decide) tk (by rfl) (ah_cons (eh_v 7 (pv 7)) (ah_cons (eh_v 2 (pv 2)) ah_nil)))))))))
  (ss_one (sh_ret (eh_lcA (own := [("number", 8)]) false (by rfl) nd (eh_v 3 (pv 3)) (blkOk_by (N := ["tables", "row", "under", "sums", "times", "steps", "recipe", "amount", "number"]) (sc := defScope (top 33)) (by decide +kernel)) (by decide) (fun _ _ _ _ _ => (gh_name 8 (pg_name nd rfl (by first | exact Or.inl rfl | exact Or.inr rfl)))) (fun _ _ _ _ _ => ts_nil) (fun _ _ _ _ _ => (eh_callK k_fractionC q (by decide) takes0 (by rfl) (ah_cons (eh_v 8 (pv 8)) (ah_cons (eh_v 2 (pv 2)) ah_nil))))))))))
theorem sc_done : FnScope ["mill", "row", "tables"] ["mill", "row"] (defScope (top 59)) := ⟨rfl, rfl, rfl, by decide +kernel, rfl, by decide +kernel, by decide +kernel⟩
def d_done : SDen :=
  (sSeq (sAsg (bN 2) (dCall 1 (runF 10 d_tables_of) [] (aCons (dV 0) aNil)))
  (sSeq (sIf (tdNot (dTru (dCall 2 (runF 3 d_is_row_of) [] (aCons (dV 2) (aCons (dV 1) aNil))))) (sRaise "InvalidRow" "value" (aCons (dV 1) aNil)) sNil)
  (sRet (dCall 2 (runF 9 d_sums_done) [] (aCons (dV 2) (aCons (dV 1) aNil))))))
theorem b_done {P : Program} {w : World} {K : PySem.W.Frag} {mg : Str → Option Value} {base : Heap} {f : Addr} (k_tables_of : Cal P w K mg base "tables_of" 4 1 [] (runF 10 d_tables_of)) (k_is_row_of : Cal P w K mg base "is_row_of" 6 2 [] (runF 3 d_is_row_of)) (r_InvalidRow : RaiseK P w K mg base "InvalidRow" "value") (k_sums_done : Cal P w K mg base "sums_done" 2 2 [] (runF 9 d_sums_done)) : BodyH P w K mg base ["mill", "row", "tables"] 6 f "done" (defScope (top 59)) (defBody (top 59)) d_done := fun cdv A outer s H E q tk pp => by
  have nd := sc_done.nd
  have hu1 := hu64 q.1
  have hu2 := hu65 q.1
  exact (ss_cons (sh_set (i := 2) nd rfl (by first | exact Or.inl rfl | exact Or.inr rfl) (eh_callK k_tables_of q (by decide) tk (by rfl) (ah_cons (eh_v 0 (pv 0)) ah_nil)))
  (ss_cons (sh_if (th_not (th_tru (eh_callK k_is_row_of q (by decide) tk (by rfl) (ah_cons (eh_v 2 (pv 2)) (ah_cons (eh_v 1 (pv 1)) ah_nil))))) (ss_one (sh_raiseK r_InvalidRow (by rfl) q tk (by rfl) (by decide) (ah_cons (eh_v 1 (pv 1)) ah_nil))) ss_nil)
  (ss_one (sh_ret (eh_callK k_sums_done q (by decide) tk (by rfl) (ah_cons (eh_v 2 (pv 2)) (ah_cons (eh_v 1 (pv 1)) ah_nil)))))))
theorem sc_turned : FnScope ["mill", "name", "takes", "gives"] ["mill"] (defScope (top 42)) := ⟨rfl, rfl, rfl, by decide +kernel, rfl, by decide +kernel, by decide +kernel⟩
def d_turned : SDen :=
  (sSeq (sExp (dCall 1 (runF 1 d_need_mill) [] (aCons (dV 0) aNil)))
  (sRet (dFrz (dMake "Mill" 3 (runC 5 d_Mill_init) [] (aCons (dMeth (fun z => z == "Mill") "stuffs" 1 (runF 1 d_Mill_stuffs) [] (dV 0) aNil) (aCons (dLcA false [1, 2, 3] (dMeth (fun z => z == "Mill") "recipes" 1 (runF 1 d_Mill_recipes) [] (dV 0) aNil) (bTup 3 (bCons (bN 1) (bCons (bN 2) (bCons (bN 3) bNil)))) tdYes (dTup (aCons (dV 1) (aCons (dV 3) (aCons (dV 2) aNil))))) aNil))))))
theorem b_turned {P : Program} {w : World} {K : PySem.W.Frag} {mg : Str → Option Value} {base : Heap} {f : Addr} (k_need_mill : Cal P w K mg base "need_mill" 3 1 [] (runF 1 d_need_mill)) (m_Mill_recipes : Mal P w K mg base "Mill" "recipes" 2 1 [] (runF 1 d_Mill_recipes)) (m_Mill_stuffs : Mal P w K mg base "Mill" "stuffs" 1 1 [] (runF 1 d_Mill_stuffs)) (k_MillC : Kal P w K mg base "Mill" 6 3 [] (runC 5 d_Mill_init)) : BodyH P w K mg base ["mill", "name", "takes", "gives"] 7 f "turned" (defScope (top 42)) (defBody (top 42)) d_turned := fun cdv A outer s H E q tk pp => by
  have nd := sc_turned.nd
  have hu1 := hu64 q.1
  have hu2 := hu65 q.1
  exact (ss_cons (sh_expr (eh_callK k_need_mill q (by decide) tk (by rfl) (ah_cons (eh_v 0 (pv 0)) ah_nil)))
  (ss_one (sh_ret (eh_frz (eh_makeK k_MillC q (by decide) tk (by rfl) (ah_cons (eh_meth0K m_Mill_stuffs q (by decide) tk (eh_v 0 (pv 0))) (ah_cons (eh_lcA (own := [("name", 1), ("takes", 2), ("gives", 3)]) false (by rfl) nd (eh_meth0K m_Mill_recipes q (by decide) tk (eh_v 0 (pv 0))) (blkOk_by (N := ["mill", "name", "takes", "gives"]) (sc := defScope (top 42)) (by decide +kernel)) (by decide) (fun _ _ _ _ _ => (gh_tup (by rfl) (gh_cons (gh_name 1 (pg_name nd rfl (by first | exact Or.inl rfl | exact Or.inr rfl))) (gh_cons (gh_name 2 (pg_name nd rfl (by first | exact Or.inl rfl | exact Or.inr rfl))) (gh_cons (gh_name 3 (pg_name nd rfl (by first | exact Or.inl rfl | exact Or.inr rfl))) gh_nil))))) (fun _ _ _ _ _ => ts_nil) (fun _ _ _ _ _ => (eh_tup (ah_cons (eh_v 1 (pv 1)) (ah_cons (eh_v 3 (pv 3)) (ah_cons (eh_v 2 (pv 2)) ah_nil)))))) ah_nil)))))))
theorem sc_law_caught : FnScope ["_law_door", "_law_rest", "_law_caught_here", "error", "_law_kinds"] ["_law_door", "_law_rest"] (defScope (top 73)) := ⟨rfl, rfl, rfl, by decide +kernel, rfl, by decide +kernel, by decide +kernel⟩
def d_law_caught : SDen :=
  (sSeq (sAsg (bN 2) (dC .non))
  (sSeq (sTry (sIf (dBool (d2 (fEq false) (dV 0) (dC (.int 0)))) (sExp (dCall 3 (runF 3 d_led) [] (aCons (d2 fIx (dV 1) (dC (.int 0))) (aCons (d2 fIx (dV 1) (dC (.int 1))) (aCons (d2 fIx (dV 1) (dC (.int 2))) aNil))))) (sIf (dBool (d2 (fEq false) (dV 0) (dC (.int 1)))) (sExp (dCall 3 (runF 3 d_narrows) [] (aCons (d2 fIx (dV 1) (dC (.int 0))) (aCons (d2 fIx (dV 1) (dC (.int 1))) (aCons (d2 fIx (dV 1) (dC (.int 2))) aNil))))) (sIf (dBool (d2 (fEq false) (dV 0) (dC (.int 2)))) (sExp (dCall 3 (runF 4 d_is_row) [] (aCons (d2 fIx (dV 1) (dC (.int 0))) (aCons (d2 fIx (dV 1) (dC (.int 1))) (aCons (d2 fIx (dV 1) (dC (.int 2))) aNil))))) (sIf (dBool (d2 (fEq false) (dV 0) (dC (.int 3)))) (sExp (dCall 2 (runF 3 d_done) [] (aCons (d2 fIx (dV 1) (dC (.int 0))) (aCons (d2 fIx (dV 1) (dC (.int 2))) aNil)))) (sExp (dCall 1 (runF 4 d_turned) [] (aCons (d2 fIx (dV 1) (dC (.int 0))) aNil))))))) mt_MillError 3 (sAsg (bN 2) (dV 3)))
  (sSeq (sAsg (bN 4) (dLst false (aCons (dCB (fIs oc xc kq) (aCons (dV 2) (aCons (dC (.cls "InvalidMill")) aNil))) (aCons (dCB (fIs oc xc kq) (aCons (dV 2) (aCons (dC (.cls "InvalidHoldings")) aNil))) (aCons (dCB (fIs oc xc kq) (aCons (dV 2) (aCons (dC (.cls "InvalidRow")) aNil))) aNil)))))
  (sSeq (sAsg (bN 4) (d2 (fCat false) (dV 4) (dLst false (aCons (dC (.bl true)) aNil))))
  (sRet (dLst false (aCons (dIndex (dV 4) (aCons (dC (.bl true)) aNil)) (aCons (dIf (dBool (d2 (fIsN false) (dV 2) (dC .non))) (dC .non) (dCB fRepr (aCons (d1 (fXf xc "value") (dV 2)) aNil))) aNil))))))))
theorem b_law_caught {P : Program} {w : World} {K : PySem.W.Frag} {mg : Str → Option Value} {base : Heap} {f : Addr} (k_led : Cal P w K mg base "led" 8 3 [] (runF 3 d_led)) (k_narrows : Cal P w K mg base "narrows" 8 3 [] (runF 3 d_narrows)) (k_is_row : Cal P w K mg base "is_row" 7 3 [] (runF 4 d_is_row)) (k_done : Cal P w K mg base "done" 7 2 [] (runF 3 d_done)) (k_turned : Cal P w K mg base "turned" 8 1 [] (runF 4 d_turned)) (g_MillError : mg "MillError" = some (.ref (He.ga K "MillError"))) (t_MillError : ∀ c b, mt_MillError c = some b → PySem.W.exmOne K (.ref (He.ga K c)) (.ref (He.ga K "MillError")) = some b) (g_InvalidRow : mg "InvalidRow" = some (.ref (He.ga K "InvalidRow"))) (f_isinstance : mg "isinstance" = none) (tis : IsK K oc xc kq) (g_InvalidHoldings : mg "InvalidHoldings" = some (.ref (He.ga K "InvalidHoldings"))) (g_InvalidMill : mg "InvalidMill" = some (.ref (He.ga K "InvalidMill"))) (x_value : ∀ c, xc c = true → Xv.XCls K (He.ga K c) ∧ PySem.W.findIn K (.ref (He.ga K c)) "value" = some none) (f_repr : mg "repr" = none) (sys : Xv.SysK K) : BodyH P w K mg base ["_law_door", "_law_rest", "_law_caught_here", "error", "_law_kinds"] 8 f "_law_caught" (defScope (top 73)) (defBody (top 73)) d_law_caught := fun cdv A outer s H E q tk pp => by
  have nd := sc_law_caught.nd
  have hu1 := hu64 q.1
  have hu2 := hu65 q.1
  exact (ss_cons (sh_set (i := 2) nd rfl (by first | exact Or.inl rfl | exact Or.inr rfl) eh_non)
  (ss_cons (sh_try rfl rfl rfl nd rfl rfl ⟨by rfl, by decide, .inl g_MillError⟩ tk t_MillError (fun W pn xe tk pp => (ss_one (sh_if (th_cmp (op_eqD hu1) prEq (eh_v 0 (pv 0)) eh_int (by rfl)) (ss_one (sh_expr (eh_callK k_led q (by decide) tk (by rfl) (ah_cons (eh_ix (eh_v 1 (pv 1)) eh_int (fun _ _ => rfl)) (ah_cons (eh_ix (eh_v 1 (pv 1)) eh_int (fun _ _ => rfl)) (ah_cons (eh_ix (eh_v 1 (pv 1)) eh_int (fun _ _ => rfl)) ah_nil)))))) (ss_one (sh_if (th_cmp (op_eqD hu1) prEq (eh_v 0 (pv 0)) eh_int (by rfl)) (ss_one (sh_expr (eh_callK k_narrows q (by decide) tk (by rfl) (ah_cons (eh_ix (eh_v 1 (pv 1)) eh_int (fun _ _ => rfl)) (ah_cons (eh_ix (eh_v 1 (pv 1)) eh_int (fun _ _ => rfl)) (ah_cons (eh_ix (eh_v 1 (pv 1)) eh_int (fun _ _ => rfl)) ah_nil)))))) (ss_one (sh_if (th_cmp (op_eqD hu1) prEq (eh_v 0 (pv 0)) eh_int (by rfl)) (ss_one (sh_expr (eh_callK k_is_row q (by decide) tk (by rfl) (ah_cons (eh_ix (eh_v 1 (pv 1)) eh_int (fun _ _ => rfl)) (ah_cons (eh_ix (eh_v 1 (pv 1)) eh_int (fun _ _ => rfl)) (ah_cons (eh_ix (eh_v 1 (pv 1)) eh_int (fun _ _ => rfl)) ah_nil)))))) (ss_one (sh_if (th_cmp (op_eqD hu1) prEq (eh_v 0 (pv 0)) eh_int (by rfl)) (ss_one (sh_expr (eh_callK k_done q (by decide) tk (by rfl) (ah_cons (eh_ix (eh_v 1 (pv 1)) eh_int (fun _ _ => rfl)) (ah_cons (eh_ix (eh_v 1 (pv 1)) eh_int (fun _ _ => rfl)) ah_nil))))) (ss_one (sh_expr (eh_callK k_turned q (by decide) tk (by rfl) (ah_cons (eh_ix (eh_v 1 (pv 1)) eh_int (fun _ _ => rfl)) ah_nil))))))))))))) (fun a pn => (ss_one (sh_set (i := 2) nd rfl (by first | exact Or.inl rfl | exact Or.inr rfl) (eh_v 3 (pv 3))))))
  (ss_cons (sh_set (i := 4) nd rfl (by first | exact Or.inl rfl | exact Or.inr rfl) (eh_lst false (ah_cons (eh_callB (prIs tis) (call_isAll tis.all) (by rfl) f_isinstance (by first | rfl | decide +kernel) (ah_cons (eh_v 2 (pv 2)) (ah_cons (eh_cls (by rfl) g_InvalidMill) ah_nil))) (ah_cons (eh_callB (prIs tis) (call_isAll tis.all) (by rfl) f_isinstance (by first | rfl | decide +kernel) (ah_cons (eh_v 2 (pv 2)) (ah_cons (eh_cls (by rfl) g_InvalidHoldings) ah_nil))) (ah_cons (eh_callB (prIs tis) (call_isAll tis.all) (by rfl) f_isinstance (by first | rfl | decide +kernel) (ah_cons (eh_v 2 (pv 2)) (ah_cons (eh_cls (by rfl) g_InvalidRow) ah_nil))) ah_nil)))))
  (ss_cons (sh_set (i := 4) nd rfl (by first | exact Or.inl rfl | exact Or.inr rfl) (eh_cat false (eh_v 4 (pv 4)) (eh_lst false (ah_cons eh_bl ah_nil))))
  (ss_one (sh_ret (eh_lst false (ah_cons (eh_index hu2 (eh_v 4 (pv 4)) (ah_cons eh_bl ah_nil)) (ah_cons (eh_if (th_cmp op_isN prIsN (eh_v 2 (pv 2)) eh_non (by rfl)) eh_non (eh_callB prRepr (Xv.call_repr sys q) (by rfl) f_repr (by first | rfl | decide +kernel) (ah_cons (eh_xf x_value (eh_v 2 (pv 2))) ah_nil))) ah_nil)))))))))
theorem sc_law_odd_holdings : FnScope ["_law_works", "_law_held", "_law_found", "_law_odds", "_law_room", "_law_odd"] ["_law_works", "_law_held"] (defScope (top 74)) := ⟨rfl, rfl, rfl, by decide +kernel, rfl, by decide +kernel, by decide +kernel⟩
def ce_law_odd_holdings_1 : Den :=
  (d2 (fCat false) (dSl false (dV 1) oNo (oSm (d1 fNeg (dC (.int 1))))) (dLst false (aCons (dV 5) aNil)))
def d_law_odd_holdings : SDen :=
  (sSeq (sAsg (bN 2) (dLst false (aCons (dC .non) (aCons (dC (.int 3)) (aCons (dTup aNil) (aCons (dC (.str "held")) (aCons (dDct false) (aCons (dC (.bl true)) (aCons (dCB fTupOf (aCons (dV 1) aNil)) (aCons (d2 (fCat false) (dV 1) (dLst false (aCons (dTup (aCons (dC (.int 0)) (aCons (dC (.int 1)) aNil))) aNil))) (aCons (dSl false (dV 1) oNo (oSm (d1 fNeg (dC (.int 1))))) (aCons (d2 (fCat false) (dSl false (dV 1) oNo (oSm (d1 fNeg (dC (.int 1))))) (dLst false (aCons (dC .non) aNil))) aNil))))))))))))
  (sSeq (sAsg (bN 2) (d2 (fCat false) (dV 2) (dLst false (aCons (d2 (fCat false) (dSl false (dV 1) oNo (oSm (d1 fNeg (dC (.int 1))))) (dLst false (aCons (dC (.int 1)) aNil))) aNil))))
  (sSeq (sAsg (bN 3) (dLst false (aCons (dTup (aCons (dC (.int 1)) aNil)) (aCons (dTup (aCons (dC (.int 1)) (aCons (dC (.int 2)) (aCons (dC (.int 3)) aNil)))) (aCons (dLst false (aCons (dC (.int 1)) (aCons (dC (.int 2)) aNil))) (aCons (dTup (aCons (dC (.int 2)) (aCons (dC (.int 4)) aNil))) (aCons (dTup (aCons (d1 fNeg (dC (.int 1))) (aCons (dC (.int 2)) aNil))) (aCons (dTup (aCons (dC (.int 1)) (aCons (dC (.int 0)) aNil))) (aCons (dTup (aCons (dC (.int 1)) (aCons (d1 fNeg (dC (.int 2))) aNil))) (aCons (dTup (aCons (dC (.bl true)) (aCons (dC (.int 1)) aNil))) (aCons (dTup (aCons (dC (.int 1)) (aCons (dC (.bl true)) aNil))) (aCons (dTup (aCons (dC (.str "1")) (aCons (dC (.int 1)) aNil))) (aCons (dTup (aCons (dC (.int 1)) (aCons (dC (.str "1")) aNil))) aNil)))))))))))))
  (sSeq (sAsg (bN 4) (d2 fIx (d2 fIx (dMeth (fun z => z == "Mill") "stuffs" 1 (runF 1 d_Mill_stuffs) [] (dV 0) aNil) (d1 fNeg (dC (.int 1)))) (dC (.int 1))))
  (sSeq (sIf (dBool (d2 (fIsN true) (dV 4) (dC .non))) (sAsg (bN 3) (d2 (fCat false) (dV 3) (dLst false (aCons (dTup (aCons (dAdd (dV 4) (dC (.int 1))) (aCons (dC (.int 1)) aNil))) (aCons (dTup (aCons (dAdd (dMul (dC (.int 2)) (dV 4)) (dC (.int 1))) (aCons (dC (.int 2)) aNil))) aNil))))) sNil)
  (sRet (d2 (fCat false) (dV 2) (dLcA false [5] (d2 (fCat false) (dV 3) (dLst false (aCons (dTup (aCons (dC .non) (aCons (dC (.int 1)) aNil))) (aCons (dTup (aCons (dC (.int 0)) (aCons (dC (.int 2)) aNil))) (aCons (dDct false) (aCons (dTup aNil) aNil)))))) (bN 5) tdYes ce_law_odd_holdings_1))))))))
theorem b_law_odd_holdings {P : Program} {w : World} {K : PySem.W.Frag} {mg : Str → Option Value} {base : Heap} {f : Addr} (f_tuple : mg "tuple" = none) (m_Mill_stuffs : Mal P w K mg base "Mill" "stuffs" 1 1 [] (runF 1 d_Mill_stuffs)) : BodyH P w K mg base ["_law_works", "_law_held", "_law_found", "_law_odds", "_law_room", "_law_odd"] 1 f "_law_odd_holdings" (defScope (top 74)) (defBody (top 74)) d_law_odd_holdings := fun cdv A outer s H E q tk pp => by
  have nd := sc_law_odd_holdings.nd
  have hu1 := hu64 q.1
  have hu2 := hu65 q.1
  exact (ss_cons (sh_set (i := 2) nd rfl (by first | exact Or.inl rfl | exact Or.inr rfl) (eh_lst false (ah_cons eh_non (ah_cons eh_int (ah_cons (eh_tup ah_nil) (ah_cons eh_str (ah_cons (eh_dct false) (ah_cons eh_bl (ah_cons (eh_callT prTupOf call_tuple_of (by rfl) f_tuple boot_tuple (ah_cons (eh_v 1 (pv 1)) ah_nil)) (ah_cons (eh_cat false (eh_v 1 (pv 1)) (eh_lst false (ah_cons (eh_tup (ah_cons eh_int (ah_cons eh_int ah_nil))) ah_nil))) (ah_cons (eh_sl false (eh_v 1 (pv 1)) oh_no (oh_some (eh_neg eh_int))) (ah_cons (eh_cat false (eh_sl false (eh_v 1 (pv 1)) oh_no (oh_some (eh_neg eh_int))) (eh_lst false (ah_cons eh_non ah_nil))) ah_nil))))))))))))
  (ss_cons (sh_set (i := 2) nd rfl (by first | exact Or.inl rfl | exact Or.inr rfl) (eh_cat false (eh_v 2 (pv 2)) (eh_lst false (ah_cons (eh_cat false (eh_sl false (eh_v 1 (pv 1)) oh_no (oh_some (eh_neg eh_int))) (eh_lst false (ah_cons eh_int ah_nil))) ah_nil))))
  (ss_cons (sh_set (i := 3) nd rfl (by first | exact Or.inl rfl | exact Or.inr rfl) (eh_lst false (ah_cons (eh_tup (ah_cons eh_int ah_nil)) (ah_cons (eh_tup (ah_cons eh_int (ah_cons eh_int (ah_cons eh_int ah_nil)))) (ah_cons (eh_lst false (ah_cons eh_int (ah_cons eh_int ah_nil))) (ah_cons (eh_tup (ah_cons eh_int (ah_cons eh_int ah_nil))) (ah_cons (eh_tup (ah_cons (eh_neg eh_int) (ah_cons eh_int ah_nil))) (ah_cons (eh_tup (ah_cons eh_int (ah_cons eh_int ah_nil))) (ah_cons (eh_tup (ah_cons eh_int (ah_cons (eh_neg eh_int) ah_nil))) (ah_cons (eh_tup (ah_cons eh_bl (ah_cons eh_int ah_nil))) (ah_cons (eh_tup (ah_cons eh_int (ah_cons eh_bl ah_nil))) (ah_cons (eh_tup (ah_cons eh_str (ah_cons eh_int ah_nil))) (ah_cons (eh_tup (ah_cons eh_int (ah_cons eh_str ah_nil))) ah_nil)))))))))))))
  (ss_cons (sh_set (i := 4) nd rfl (by first | exact Or.inl rfl | exact Or.inr rfl) (eh_ix (eh_ix (eh_meth0K m_Mill_stuffs q (by decide) tk (eh_v 0 (pv 0))) (eh_neg eh_int) (fun _ _ => rfl)) eh_int (fun _ _ => rfl)))
  (ss_cons (sh_if (th_cmp op_notN prNotN (eh_v 4 (pv 4)) eh_non (by rfl)) (ss_one (sh_set (i := 3) nd rfl (by first | exact Or.inl rfl | exact Or.inr rfl) (eh_cat false (eh_v 3 (pv 3)) (eh_lst false (ah_cons (eh_tup (ah_cons (eh_add (eh_v 4 (pv 4)) eh_int) (ah_cons eh_int ah_nil))) (ah_cons (eh_tup (ah_cons (eh_add (eh_mul eh_int (eh_v 4 (pv 4))) eh_int) (ah_cons eh_int ah_nil))) ah_nil)))))) ss_nil)
  (ss_one (sh_ret (eh_cat false (eh_v 2 (pv 2)) (eh_lcA (own := [("_law_odd", 5)]) false (by rfl) nd (eh_cat false (eh_v 3 (pv 3)) (eh_lst false (ah_cons (eh_tup (ah_cons eh_non (ah_cons eh_int ah_nil))) (ah_cons (eh_tup (ah_cons eh_int (ah_cons eh_int ah_nil))) (ah_cons (eh_dct false) (ah_cons (eh_tup ah_nil) ah_nil)))))) (blkOk_by (N := ["_law_works", "_law_held", "_law_found", "_law_odds", "_law_room", "_law_odd"]) (sc := defScope (top 74)) (by decide +kernel)) (by decide) (fun _ _ _ _ _ => (gh_name 5 (pg_name nd rfl (by first | exact Or.inl rfl | exact Or.inr rfl)))) (fun _ _ _ _ _ => ts_nil) (fun _ _ _ _ _ => (eh_cat false (eh_sl false (eh_v 1 (pv 1)) oh_no (oh_some (eh_neg eh_int))) (eh_lst false (ah_cons (eh_v 5 (pv 5)) ah_nil)))))))))))))
theorem sc_law_odd_rows : FnScope ["_law_name", "_law_found"] ["_law_name"] (defScope (top 75)) := ⟨rfl, rfl, rfl, by decide +kernel, rfl, by decide +kernel, by decide +kernel⟩
def d_law_odd_rows : SDen :=
  (sSeq (sAsg (bN 1) (dLst false (aCons (dC .non) (aCons (dC (.int 3)) (aCons (dTup aNil) (aCons (dC (.str "row")) (aCons (dDct false) (aCons (dC (.bl true)) (aCons (dLst false (aCons (dC .non) aNil)) (aCons (dLst false (aCons (dLst false aNil) aNil)) (aCons (dLst false (aCons (dTup (aCons (dC (.int 1)) aNil)) aNil)) (aCons (dLst false (aCons (dTup (aCons (dC (.int 1)) (aCons (dLst false aNil) aNil))) aNil)) (aCons (dLst false (aCons (dTup (aCons (dC (.int 0)) (aCons (dLst false (aCons (dTup (aCons (dV 0) (aCons (dTup (aCons (dC (.int 1)) (aCons (dC (.int 2)) aNil))) aNil))) aNil)) aNil))) aNil)) aNil)))))))))))))
  (sSeq (sAsg (bN 1) (d2 (fCat false) (dV 1) (dLst false (aCons (dLst false (aCons (dTup (aCons (d1 fNeg (dC (.int 1))) (aCons (dLst false (aCons (dTup (aCons (dV 0) (aCons (dTup (aCons (dC (.int 1)) (aCons (dC (.int 2)) aNil))) aNil))) aNil)) aNil))) aNil)) aNil))))
  (sSeq (sAsg (bN 1) (d2 (fCat false) (dV 1) (dLst false (aCons (dLst false (aCons (dTup (aCons (dC (.str "1")) (aCons (dLst false (aCons (dTup (aCons (dV 0) (aCons (dTup (aCons (dC (.int 1)) (aCons (dC (.int 2)) aNil))) aNil))) aNil)) aNil))) aNil)) (aCons (dLst false (aCons (dTup (aCons (dC (.int 1)) (aCons (dLst false (aCons (dTup (aCons (dV 0) (aCons (dTup (aCons (dC (.int 1)) (aCons (dC (.int 2)) aNil))) aNil))) aNil)) (aCons (dC (.int 0)) aNil)))) aNil)) (aCons (dLst false (aCons (dTup (aCons (dC (.int 1)) (aCons (dLst false (aCons (dTup (aCons (dV 0) aNil)) aNil)) aNil))) aNil)) aNil))))))
  (sSeq (sAsg (bN 1) (d2 (fCat false) (dV 1) (dLst false (aCons (dLst false (aCons (dTup (aCons (dC (.int 1)) (aCons (dLst false (aCons (dTup (aCons (dC .non) (aCons (dTup (aCons (dC (.int 1)) (aCons (dC (.int 2)) aNil))) aNil))) aNil)) aNil))) aNil)) aNil))))
  (sSeq (sAsg (bN 1) (d2 (fCat false) (dV 1) (dLst false (aCons (dLst false (aCons (dTup (aCons (dC (.int 1)) (aCons (dLst false (aCons (dTup (aCons (dC (.str "zz")) (aCons (dTup (aCons (dC (.int 1)) (aCons (dC (.int 2)) aNil))) aNil))) aNil)) aNil))) aNil)) (aCons (dLst false (aCons (dTup (aCons (dC (.int 1)) (aCons (dLst false (aCons (dTup (aCons (dV 0) (aCons (dTup (aCons (dC (.int 2)) (aCons (dC (.int 2)) aNil))) aNil))) aNil)) aNil))) aNil)) (aCons (dLst false (aCons (dTup (aCons (dC (.int 1)) (aCons (dLst false (aCons (dTup (aCons (dV 0) (aCons (dTup (aCons (dC (.int 0)) (aCons (dC (.int 1)) aNil))) aNil))) aNil)) aNil))) aNil)) aNil))))))
  (sSeq (sAsg (bN 1) (d2 (fCat false) (dV 1) (dLst false (aCons (dLst false (aCons (dTup (aCons (dC (.int 1)) (aCons (dLst false (aCons (dTup (aCons (dDct false) (aCons (dTup (aCons (dC (.int 1)) (aCons (dC (.int 2)) aNil))) aNil))) aNil)) aNil))) aNil)) aNil))))
  (sRet (d2 (fCat false) (dV 1) (dLst false (aCons (dLst false (aCons (dTup (aCons (dC (.int 1)) (aCons (dLst false (aCons (dTup (aCons (dV 0) (aCons (dTup (aCons (dC (.int 1)) (aCons (dC (.int 2)) aNil))) aNil))) (aCons (dC .non) aNil))) aNil))) aNil)) (aCons (dLst false (aCons (dTup (aCons (dC (.int 1)) (aCons (dDct false) aNil))) aNil)) (aCons (dLst false (aCons (dTup (aCons (dC (.int 1)) (aCons (dLst false (aCons (dTup (aCons (dV 0) (aCons (dC .non) aNil))) aNil)) aNil))) aNil)) (aCons (dLst false (aCons (dTup (aCons (dC (.int 1)) (aCons (dLst false (aCons (dTup (aCons (dV 0) (aCons (dTup (aCons (dC (.int 1)) (aCons (dLst false (aCons (dC (.int 2)) aNil)) aNil))) aNil))) aNil)) aNil))) aNil)) aNil)))))))))))))
theorem b_law_odd_rows {P : Program} {w : World} {K : PySem.W.Frag} {mg : Str → Option Value} {base : Heap} {f : Addr}  : BodyH P w K mg base ["_law_name", "_law_found"] 0 f "_law_odd_rows" (defScope (top 75)) (defBody (top 75)) d_law_odd_rows := fun cdv A outer s H E q tk pp => by
  have nd := sc_law_odd_rows.nd
  have hu1 := hu64 q.1
  have hu2 := hu65 q.1
  exact (ss_cons (sh_set (i := 1) nd rfl (by first | exact Or.inl rfl | exact Or.inr rfl) (eh_lst false (ah_cons eh_non (ah_cons eh_int (ah_cons (eh_tup ah_nil) (ah_cons eh_str (ah_cons (eh_dct false) (ah_cons eh_bl (ah_cons (eh_lst false (ah_cons eh_non ah_nil)) (ah_cons (eh_lst false (ah_cons (eh_lst false ah_nil) ah_nil)) (ah_cons (eh_lst false (ah_cons (eh_tup (ah_cons eh_int ah_nil)) ah_nil)) (ah_cons (eh_lst false (ah_cons (eh_tup (ah_cons eh_int (ah_cons (eh_lst false ah_nil) ah_nil))) ah_nil)) (ah_cons (eh_lst false (ah_cons (eh_tup (ah_cons eh_int (ah_cons (eh_lst false (ah_cons (eh_tup (ah_cons (eh_v 0 (pv 0)) (ah_cons (eh_tup (ah_cons eh_int (ah_cons eh_int ah_nil))) ah_nil))) ah_nil)) ah_nil))) ah_nil)) ah_nil)))))))))))))
  (ss_cons (sh_set (i := 1) nd rfl (by first | exact Or.inl rfl | exact Or.inr rfl) (eh_cat false (eh_v 1 (pv 1)) (eh_lst false (ah_cons (eh_lst false (ah_cons (eh_tup (ah_cons (eh_neg eh_int) (ah_cons (eh_lst false (ah_cons (eh_tup (ah_cons (eh_v 0 (pv 0)) (ah_cons (eh_tup (ah_cons eh_int (ah_cons eh_int ah_nil))) ah_nil))) ah_nil)) ah_nil))) ah_nil)) ah_nil))))
  (ss_cons (sh_set (i := 1) nd rfl (by first | exact Or.inl rfl | exact Or.inr rfl) (eh_cat false (eh_v 1 (pv 1)) (eh_lst false (ah_cons (eh_lst false (ah_cons (eh_tup (ah_cons eh_str (ah_cons (eh_lst false (ah_cons (eh_tup (ah_cons (eh_v 0 (pv 0)) (ah_cons (eh_tup (ah_cons eh_int (ah_cons eh_int ah_nil))) ah_nil))) ah_nil)) ah_nil))) ah_nil)) (ah_cons (eh_lst false (ah_cons (eh_tup (ah_cons eh_int (ah_cons (eh_lst false (ah_cons (eh_tup (ah_cons (eh_v 0 (pv 0)) (ah_cons (eh_tup (ah_cons eh_int (ah_cons eh_int ah_nil))) ah_nil))) ah_nil)) (ah_cons eh_int ah_nil)))) ah_nil)) (ah_cons (eh_lst false (ah_cons (eh_tup (ah_cons eh_int (ah_cons (eh_lst false (ah_cons (eh_tup (ah_cons (eh_v 0 (pv 0)) ah_nil)) ah_nil)) ah_nil))) ah_nil)) ah_nil))))))
  (ss_cons (sh_set (i := 1) nd rfl (by first | exact Or.inl rfl | exact Or.inr rfl) (eh_cat false (eh_v 1 (pv 1)) (eh_lst false (ah_cons (eh_lst false (ah_cons (eh_tup (ah_cons eh_int (ah_cons (eh_lst false (ah_cons (eh_tup (ah_cons eh_non (ah_cons (eh_tup (ah_cons eh_int (ah_cons eh_int ah_nil))) ah_nil))) ah_nil)) ah_nil))) ah_nil)) ah_nil))))
  (ss_cons (sh_set (i := 1) nd rfl (by first | exact Or.inl rfl | exact Or.inr rfl) (eh_cat false (eh_v 1 (pv 1)) (eh_lst false (ah_cons (eh_lst false (ah_cons (eh_tup (ah_cons eh_int (ah_cons (eh_lst false (ah_cons (eh_tup (ah_cons eh_str (ah_cons (eh_tup (ah_cons eh_int (ah_cons eh_int ah_nil))) ah_nil))) ah_nil)) ah_nil))) ah_nil)) (ah_cons (eh_lst false (ah_cons (eh_tup (ah_cons eh_int (ah_cons (eh_lst false (ah_cons (eh_tup (ah_cons (eh_v 0 (pv 0)) (ah_cons (eh_tup (ah_cons eh_int (ah_cons eh_int ah_nil))) ah_nil))) ah_nil)) ah_nil))) ah_nil)) (ah_cons (eh_lst false (ah_cons (eh_tup (ah_cons eh_int (ah_cons (eh_lst false (ah_cons (eh_tup (ah_cons (eh_v 0 (pv 0)) (ah_cons (eh_tup (ah_cons eh_int (ah_cons eh_int ah_nil))) ah_nil))) ah_nil)) ah_nil))) ah_nil)) ah_nil))))))
  (ss_cons (sh_set (i := 1) nd rfl (by first | exact Or.inl rfl | exact Or.inr rfl) (eh_cat false (eh_v 1 (pv 1)) (eh_lst false (ah_cons (eh_lst false (ah_cons (eh_tup (ah_cons eh_int (ah_cons (eh_lst false (ah_cons (eh_tup (ah_cons (eh_dct false) (ah_cons (eh_tup (ah_cons eh_int (ah_cons eh_int ah_nil))) ah_nil))) ah_nil)) ah_nil))) ah_nil)) ah_nil))))
  (ss_one (sh_ret (eh_cat false (eh_v 1 (pv 1)) (eh_lst false (ah_cons (eh_lst false (ah_cons (eh_tup (ah_cons eh_int (ah_cons (eh_lst false (ah_cons (eh_tup (ah_cons (eh_v 0 (pv 0)) (ah_cons (eh_tup (ah_cons eh_int (ah_cons eh_int ah_nil))) ah_nil))) (ah_cons eh_non ah_nil))) ah_nil))) ah_nil)) (ah_cons (eh_lst false (ah_cons (eh_tup (ah_cons eh_int (ah_cons (eh_dct false) ah_nil))) ah_nil)) (ah_cons (eh_lst false (ah_cons (eh_tup (ah_cons eh_int (ah_cons (eh_lst false (ah_cons (eh_tup (ah_cons (eh_v 0 (pv 0)) (ah_cons eh_non ah_nil))) ah_nil)) ah_nil))) ah_nil)) (ah_cons (eh_lst false (ah_cons (eh_tup (ah_cons eh_int (ah_cons (eh_lst false (ah_cons (eh_tup (ah_cons (eh_v 0 (pv 0)) (ah_cons (eh_tup (ah_cons eh_int (ah_cons (eh_lst false (ah_cons eh_int ah_nil)) ah_nil))) ah_nil))) ah_nil)) ah_nil))) ah_nil)) ah_nil))))))))))))))
theorem sc_law_refused : FnScope ["_law_works", "_law_held", "_law_name", "_law_bad", "_law_door"] ["_law_works", "_law_held", "_law_name"] (defScope (top 76)) := ⟨rfl, rfl, rfl, by decide +kernel, rfl, by decide +kernel, by decide +kernel⟩
def ce_law_refused_1 : Den :=
  (dCall 2 (runF 5 d_law_caught) [] (aCons (dV 4) (aCons (dLst false (aCons (dV 3) (aCons (dC .non) (aCons (dC .non) aNil)))) aNil)))
def lb_law_refused_2 : SDen :=
  (sIf (dBool (d2 (fEq true) (dLc false [4] (fun ρ => mbind ((aCons (dC (.int 5)) aNil) ρ) itR1) (bN 4) tdYes ce_law_refused_1) (d2 (fRepL false) (dLst false (aCons (dLst false (aCons (dC (.int 0)) (aCons (dCB fRepr (aCons (dV 3) aNil)) aNil))) aNil)) (dC (.int 5))))) (sRet (dC (.bl false))) sNil)
def ce_law_refused_3 : Den :=
  (dCall 2 (runF 5 d_law_caught) [] (aCons (dV 4) (aCons (dLst false (aCons (dV 0) (aCons (dV 3) (aCons (dC .non) aNil)))) aNil)))
def lb_law_refused_4 : SDen :=
  (sIf (dBool (d2 (fEq true) (dLc false [4] (fun ρ => mbind ((aCons (dC (.int 3)) aNil) ρ) itR1) (bN 4) tdYes ce_law_refused_3) (d2 (fRepL false) (dLst false (aCons (dLst false (aCons (dC (.int 1)) (aCons (dCB fRepr (aCons (dV 3) aNil)) aNil))) aNil)) (dC (.int 3))))) (sRet (dC (.bl false))) sNil)
def ce_law_refused_5 : Den :=
  (dCall 2 (runF 5 d_law_caught) [] (aCons (dV 4) (aCons (dLst false (aCons (dV 0) (aCons (dV 1) (aCons (dV 3) aNil)))) aNil)))
def lb_law_refused_6 : SDen :=
  (sSeq (sIf (dBool (d2 (fEq true) (dLcA false [4] (dLst false (aCons (dC (.int 0)) (aCons (dC (.int 1)) (aCons (dC (.int 3)) aNil)))) (bN 4) tdYes ce_law_refused_5) (d2 (fRepL false) (dLst false (aCons (dLst false (aCons (dC (.int 2)) (aCons (dCB fRepr (aCons (dV 3) aNil)) aNil))) aNil)) (dC (.int 3))))) (sRet (dC (.bl false))) sNil)
  (sIf (tdOr (dBool (d2 (fEq true) (dCall 2 (runF 5 d_law_caught) [] (aCons (dC (.int 2)) (aCons (dLst false (aCons (dV 0) (aCons (dV 1) (aCons (dV 3) aNil)))) aNil))) (dLst false (aCons (dC (.int 3)) (aCons (dC .non) aNil))))) (dBool (d2 (fIsB true) (dCall 3 (runF 4 d_is_row) [] (aCons (dV 0) (aCons (dV 1) (aCons (dV 3) aNil)))) (dC (.bl false))))) (sRet (dC (.bl false))) sNil))
def d_law_refused : SDen :=
  (sSeq (sForA (dLst false (aCons (dC .non) (aCons (dC (.int 3)) (aCons (dLst false aNil) (aCons (dTup aNil) (aCons (dDct false) (aCons (dC (.str "mill")) (aCons (dC (.bl true)) (aCons (dMeth (fun z => z == "Mill") "recipes" 1 (runF 1 d_Mill_recipes) [] (dV 0) aNil) aNil))))))))) (bN 3) lb_law_refused_2)
  (sSeq (sForA (dCall 2 (runF 6 d_law_odd_holdings) [] (aCons (dV 0) (aCons (dV 1) aNil))) (bN 3) lb_law_refused_4)
  (sSeq (sForA (dCall 1 (runF 2 d_law_odd_rows) [] (aCons (dV 2) aNil)) (bN 3) lb_law_refused_6)
  (sRet (dC (.bl true))))))
theorem b_law_refused {P : Program} {w : World} {K : PySem.W.Frag} {mg : Str → Option Value} {base : Heap} {f : Addr} (m_Mill_recipes : Mal P w K mg base "Mill" "recipes" 2 1 [] (runF 1 d_Mill_recipes)) (f_range : mg "range" = none) (k_law_caught : Cal P w K mg base "_law_caught" 9 2 [] (runF 5 d_law_caught)) (f_repr : mg "repr" = none) (sys : Xv.SysK K) (k_law_odd_holdings : Cal P w K mg base "_law_odd_holdings" 2 2 [] (runF 6 d_law_odd_holdings)) (k_law_odd_rows : Cal P w K mg base "_law_odd_rows" 1 1 [] (runF 2 d_law_odd_rows)) (k_is_row : Cal P w K mg base "is_row" 7 3 [] (runF 4 d_is_row)) : BodyH P w K mg base ["_law_works", "_law_held", "_law_name", "_law_bad", "_law_door"] 9 f "_law_refused" (defScope (top 76)) (defBody (top 76)) d_law_refused := fun cdv A outer s H E q tk pp => by
  have nd := sc_law_refused.nd
  have hu1 := hu64 q.1
  have hu2 := hu65 q.1
  exact (ss_cons (sh_forA pp (by rfl) (eh_lst false (ah_cons eh_non (ah_cons eh_int (ah_cons (eh_lst false ah_nil) (ah_cons (eh_tup ah_nil) (ah_cons (eh_dct false) (ah_cons eh_str (ah_cons eh_bl (ah_cons (eh_meth0K m_Mill_recipes q (by decide) tk (eh_v 0 (pv 0))) ah_nil))))))))) (gh_name 3 (pg_name nd rfl (by first | exact Or.inl rfl | exact Or.inr rfl))) (ss_one (sh_if (th_cmp (op_neD hu1) prNe (eh_lc (own := [("_law_door", 4)]) false (by rfl) nd (ih_range1 (by rfl) f_range (ah_cons eh_int ah_nil)) (blkOk_by (N := ["_law_works", "_law_held", "_law_name", "_law_bad", "_law_door"]) (sc := defScope (top 76)) (by decide +kernel)) (by decide) (fun _ _ _ _ _ => (gh_name 4 (pg_name nd rfl (by first | exact Or.inl rfl | exact Or.inr rfl)))) (fun _ _ _ _ _ => ts_nil) (fun _ _ _ _ _ => (eh_callK k_law_caught q (by decide) takes0 (by rfl) (ah_cons (eh_v 4 (pv 4)) (ah_cons (eh_lst false (ah_cons (eh_v 3 (pv 3)) (ah_cons eh_non (ah_cons eh_non ah_nil)))) ah_nil))))) (eh_repL false (eh_lst false (ah_cons (eh_lst false (ah_cons eh_int (ah_cons (eh_callB prRepr (Xv.call_repr sys q) (by rfl) f_repr (by first | rfl | decide +kernel) (ah_cons (eh_v 3 (pv 3)) ah_nil)) ah_nil))) ah_nil)) eh_int) (by rfl)) (ss_one (sh_ret eh_bl)) ss_nil)))
  (ss_cons (sh_forA pp (by rfl) (eh_callK k_law_odd_holdings q (by decide) tk (by rfl) (ah_cons (eh_v 0 (pv 0)) (ah_cons (eh_v 1 (pv 1)) ah_nil))) (gh_name 3 (pg_name nd rfl (by first | exact Or.inl rfl | exact Or.inr rfl))) (ss_one (sh_if (th_cmp (op_neD hu1) prNe (eh_lc (own := [("_law_door", 4)]) false (by rfl) nd (ih_range1 (by rfl) f_range (ah_cons eh_int ah_nil)) (blkOk_by (N := ["_law_works", "_law_held", "_law_name", "_law_bad", "_law_door"]) (sc := defScope (top 76)) (by decide +kernel)) (by decide) (fun _ _ _ _ _ => (gh_name 4 (pg_name nd rfl (by first | exact Or.inl rfl | exact Or.inr rfl)))) (fun _ _ _ _ _ => ts_nil) (fun _ _ _ _ _ => (eh_callK k_law_caught q (by decide) takes0 (by rfl) (ah_cons (eh_v 4 (pv 4)) (ah_cons (eh_lst false (ah_cons (eh_v 0 (pv 0)) (ah_cons (eh_v 3 (pv 3)) (ah_cons eh_non ah_nil)))) ah_nil))))) (eh_repL false (eh_lst false (ah_cons (eh_lst false (ah_cons eh_int (ah_cons (eh_callB prRepr (Xv.call_repr sys q) (by rfl) f_repr (by first | rfl | decide +kernel) (ah_cons (eh_v 3 (pv 3)) ah_nil)) ah_nil))) ah_nil)) eh_int) (by rfl)) (ss_one (sh_ret eh_bl)) ss_nil)))
  (ss_cons (sh_forA pp (by rfl) (eh_callK k_law_odd_rows q (by decide) tk (by rfl) (ah_cons (eh_v 2 (pv 2)) ah_nil)) (gh_name 3 (pg_name nd rfl (by first | exact Or.inl rfl | exact Or.inr rfl))) (ss_cons (sh_if (th_cmp (op_neD hu1) prNe (eh_lcA (own := [("_law_door", 4)]) false (by rfl) nd (eh_lst false (ah_cons eh_int (ah_cons eh_int (ah_cons eh_int ah_nil)))) (blkOk_by (N := ["_law_works", "_law_held", "_law_name", "_law_bad", "_law_door"]) (sc := defScope (top 76)) (by decide +kernel)) (by decide) (fun _ _ _ _ _ => (gh_name 4 (pg_name nd rfl (by first | exact Or.inl rfl | exact Or.inr rfl)))) (fun _ _ _ _ _ => ts_nil) (fun _ _ _ _ _ => (eh_callK k_law_caught q (by decide) takes0 (by rfl) (ah_cons (eh_v 4 (pv 4)) (ah_cons (eh_lst false (ah_cons (eh_v 0 (pv 0)) (ah_cons (eh_v 1 (pv 1)) (ah_cons (eh_v 3 (pv 3)) ah_nil)))) ah_nil))))) (eh_repL false (eh_lst false (ah_cons (eh_lst false (ah_cons eh_int (ah_cons (eh_callB prRepr (Xv.call_repr sys q) (by rfl) f_repr (by first | rfl | decide +kernel) (ah_cons (eh_v 3 (pv 3)) ah_nil)) ah_nil))) ah_nil)) eh_int) (by rfl)) (ss_one (sh_ret eh_bl)) ss_nil)
  (ss_one (sh_if (th_bor (wh_or (th_cmp (op_neD hu1) prNe (eh_callK k_law_caught q (by decide) tk (by rfl) (ah_cons eh_int (ah_cons (eh_lst false (ah_cons (eh_v 0 (pv 0)) (ah_cons (eh_v 1 (pv 1)) (ah_cons (eh_v 3 (pv 3)) ah_nil)))) ah_nil))) (eh_lst false (ah_cons eh_int (ah_cons eh_non ah_nil))) (by rfl)) (wh_or1 (th_cmp op_notBl prNotB (eh_callK k_is_row q (by decide) tk (by rfl) (ah_cons (eh_v 0 (pv 0)) (ah_cons (eh_v 1 (pv 1)) (ah_cons (eh_v 3 (pv 3)) ah_nil)))) eh_bl (by rfl))))) (ss_one (sh_ret eh_bl)) ss_nil))))
  (ss_one (sh_ret eh_bl)))))
theorem sc_Mill_eq : FnScope ["self", "other"] ["self", "other"] (defScope (inClass (top 41) 1)) := ⟨rfl, rfl, rfl, by decide +kernel, rfl, by decide +kernel, by decide +kernel⟩
def d_Mill_eq : SDen :=
  (sRet (dAnd (dCB (fIs oc xc kq) (aCons (dV 1) (aCons (dC (.cls "Mill")) aNil))) (dAnd (d2 (fEq false) (d1 (fFld oA__stuffs "_stuffs") (dV 0)) (d1 (fFld oA__stuffs "_stuffs") (dV 1))) (d2 (fEq false) (d1 (fFld oA__recipes "_recipes") (dV 0)) (d1 (fFld oA__recipes "_recipes") (dV 1))))))
theorem b_Mill_eq {P : Program} {w : World} {K : PySem.W.Frag} {mg : Str → Option Value} {base : Heap} {f : Addr} (g_Mill : mg "Mill" = some (.ref (He.ga K "Mill"))) (f_isinstance : mg "isinstance" = none) (tis : IsK K oc xc kq) (a__stuffs : ∀ c, oA__stuffs c = true → Cls K (He.ga K c) ∧ NoAttr K (He.ga K c) "_stuffs") (a__recipes : ∀ c, oA__recipes c = true → Cls K (He.ga K c) ∧ NoAttr K (He.ga K c) "_recipes") : BodyH P w K mg base ["self", "other"] 0 f "Mill.__eq__" (defScope (inClass (top 41) 1)) (defBody (inClass (top 41) 1)) d_Mill_eq := fun cdv A outer s H E q tk pp => by
  have nd := sc_Mill_eq.nd
  have hu1 := hu64 q.1
  have hu2 := hu65 q.1
  exact (ss_one (sh_ret (eh_and (eh_callB (prIs tis) (call_isAll tis.all) (by rfl) f_isinstance (by first | rfl | decide +kernel) (ah_cons (eh_v 1 (pv 1)) (ah_cons (eh_cls (by rfl) g_Mill) ah_nil))) (eh_and (eh_eq hu1 (eh_fld a__stuffs (eh_v 0 (pv 0))) (eh_fld a__stuffs (eh_v 1 (pv 1)))) (eh_one (eh_eq hu1 (eh_fld a__recipes (eh_v 0 (pv 0))) (eh_fld a__recipes (eh_v 1 (pv 1)))))))))
theorem sc_law : FnScope ["_law_script", "_law_index", "_law_generator_here", "_law_parts", "_law_works", "_law_held", "_law_small", "_law_late", "_law_door"] ["_law_script"] (defScope (top 77)) := ⟨rfl, rfl, rfl, by decide +kernel, rfl, by decide +kernel, by decide +kernel⟩
def lb_law_1 : SDen :=
  (sSeq (sAsg (bN 2) (dCall 2 (runB 3 d_law_generator) [] (aCons (dV 0) (aCons (dV 1) aNil))))
  (sSeq (sAsg (bN 3) (dCall 3 (runC 12 d_law_mill_drawn) [] (aCons (dV 2) (aCons (dAdd (dC (.int 1)) (dCall 2 (runC 4 d_law_random) [] (aCons (dV 2) (aCons (dC (.int 3)) aNil)))) (aCons (dAdd (dC (.int 1)) (dCall 2 (runC 4 d_law_random) [] (aCons (dV 2) (aCons (dC (.int 3)) aNil)))) aNil)))))
  (sSeq (sPar 4 5 (aCons (dFrz (dMake "Mill" 3 (runC 5 d_Mill_init) [] (aCons (d2 fIx (dV 3) (dC (.int 0))) (aCons (d2 fIx (dV 3) (dC (.int 1))) aNil)))) (aCons (dCall 2 (runC 6 d_law_held_drawn) [] (aCons (dV 2) (aCons (d2 fIx (dV 3) (dC (.int 0))) aNil))) aNil)))
  (sIf (tdNot (dTru (dCall 3 (runF 5 d_law_refused) [] (aCons (dV 4) (aCons (dV 5) (aCons (d2 fIx (d2 fIx (d2 fIx (dV 3) (dC (.int 1))) (dC (.int 0))) (dC (.int 0))) aNil)))))) (sRet (dC (.bl false))) sNil))))
def ce_law_2 : Den :=
  (dCall 2 (runF 5 d_law_caught) [] (aCons (dV 8) (aCons (dLst false (aCons (dV 6) (aCons (dLst false (aCons (dTup (aCons (dC (.int 1)) (aCons (dC (.int 1)) aNil))) aNil)) (aCons (dV 7) aNil)))) aNil)))
def d_law : SDen :=
  (sSeq (sFor (fun ρ => mbind ((aCons (dC (.int 2)) aNil) ρ) itR1) (bN 1) lb_law_1)
  (sSeq (sAsg (bN 6) (dFrz (dMakeW "Mill" 2 2 [1, 0] (runC 5 d_Mill_init) (aCons (dLst false (aCons (dTup (aCons (dC (.str "r")) (aCons (dLst false (aCons (dTup (aCons (dC (.str "a")) (aCons (dC (.int 1)) aNil))) aNil)) (aCons (dLst false aNil) aNil)))) aNil)) (aCons (dLst false (aCons (dTup (aCons (dC (.str "a")) (aCons (dC (.int 2)) aNil))) aNil)) aNil)))))
  (sSeq (sAsg (bN 7) (dLst false (aCons (dTup (aCons (dC (.int 3)) (aCons (dLst false (aCons (dTup (aCons (dC (.str "r")) (aCons (dTup (aCons (dC (.int 1)) (aCons (dC (.int 2)) aNil))) aNil))) aNil)) aNil))) aNil)))
  (sSeq (sIf (dBool (d2 (fEq true) (dLc false [8] (fun ρ => mbind ((aCons (dC (.int 4)) aNil) ρ) itR1) (bN 8) tdYes ce_law_2) (d2 (fCat false) (d2 (fRepL false) (dLst false (aCons (dLst false (aCons (dC (.int 2)) (aCons (dCB fRepr (aCons (dV 7) aNil)) aNil))) aNil)) (dC (.int 2))) (d2 (fRepL false) (dLst false (aCons (dLst false (aCons (dC (.int 3)) (aCons (dC .non) aNil))) aNil)) (dC (.int 2)))))) (sRet (dC (.bl false))) sNil)
  (sSeq (sIf (dBool (d2 (fEq true) (dCallW 3 3 [2, 1, 0] (runF 3 d_led) (aCons (dV 7) (aCons (dLst false (aCons (dTup (aCons (dC (.int 2)) (aCons (dC (.int 1)) aNil))) aNil)) (aCons (dV 6) aNil)))) (dLst false (aCons (dTup (aCons (dC (.int 1)) (aCons (dC (.int 2)) aNil))) aNil)))) (sRet (dC (.bl false))) sNil)
  (sSeq (sIf (dBool (d2 (fEq true) (dCallW 3 3 [2, 1, 0] (runF 3 d_narrows) (aCons (dV 7) (aCons (dLst false (aCons (dTup (aCons (dC (.int 2)) (aCons (dC (.int 1)) aNil))) aNil)) (aCons (dV 6) aNil)))) (dLst false (aCons (dTup (aCons (dTup (aCons (dC (.int 1)) (aCons (dC (.int 2)) aNil))) (aCons (dTup (aCons (dC (.int 2)) (aCons (dC (.int 1)) aNil))) aNil))) aNil)))) (sRet (dC (.bl false))) sNil)
  (sSeq (sIf (tdOr (dBool (d2 (fEq true) (dCallW 2 2 [1, 0] (runF 3 d_done) (aCons (dV 7) (aCons (dV 6) aNil))) (dLst false (aCons (dTup (aCons (dC (.int 3)) (aCons (dC (.int 2)) aNil))) aNil)))) (dBool (d2 (fEqO true "Mill" (runP (runF 2 d_Mill_eq))) (dCallW 1 1 [0] (runF 4 d_turned) (aCons (dV 6) aNil)) (dFrz (dMake "Mill" 3 (runC 5 d_Mill_init) [] (aCons (dLst false (aCons (dTup (aCons (dC (.str "a")) (aCons (dC (.int 2)) aNil))) aNil)) (aCons (dLst false (aCons (dTup (aCons (dC (.str "r")) (aCons (dLst false aNil) (aCons (dLst false (aCons (dTup (aCons (dC (.str "a")) (aCons (dC (.int 1)) aNil))) aNil)) aNil)))) aNil)) aNil))))))) (sRet (dC (.bl false))) sNil)
  (sRet (d2 (fIsB false) (dCallW 3 3 [2, 1, 0] (runF 4 d_is_row) (aCons (dV 7) (aCons (dLst false (aCons (dTup (aCons (dC (.int 2)) (aCons (dC (.int 1)) aNil))) aNil)) (aCons (dV 6) aNil)))) (dC (.bl true)))))))))))
theorem b_law {P : Program} {w : World} {K : PySem.W.Frag} {mg : Str → Option Value} {base : Heap} {f : Addr} (f_range : mg "range" = none) (k_law_generatorB : Cal P w K mg base "_law_generator" 2 2 [] (runB 3 d_law_generator)) (k_law_randomC : Cal P w K mg base "_law_random" 2 2 [] (runC 4 d_law_random)) (k_law_mill_drawnC : Cal P w K mg base "_law_mill_drawn" 4 3 [] (runC 12 d_law_mill_drawn)) (k_law_held_drawnC : Cal P w K mg base "_law_held_drawn" 4 2 [] (runC 6 d_law_held_drawn)) (k_MillC : Kal P w K mg base "Mill" 6 3 [] (runC 5 d_Mill_init)) (k_law_refused : Cal P w K mg base "_law_refused" 10 3 [] (runF 5 d_law_refused)) (k_MillC_w10 : KalW P w K mg base "Mill" 6 ["recipes", "stuffs"] [1, 0] (runC 5 d_Mill_init)) (k_law_caught : Cal P w K mg base "_law_caught" 9 2 [] (runF 5 d_law_caught)) (f_repr : mg "repr" = none) (sys : Xv.SysK K) (k_led_w210 : CalW P w K mg base "led" 8 ["row", "have", "mill"] [2, 1, 0] (runF 3 d_led)) (k_narrows_w210 : CalW P w K mg base "narrows" 8 ["row", "have", "mill"] [2, 1, 0] (runF 3 d_narrows)) (k_done_w10 : CalW P w K mg base "done" 7 ["row", "mill"] [1, 0] (runF 3 d_done)) (k_turned_w0 : CalW P w K mg base "turned" 8 ["mill"] [0] (runF 4 d_turned)) (o_Mill : OwnEqK P w K mg base "Mill" 1 (runP (runF 2 d_Mill_eq))) (k_is_row_w210 : CalW P w K mg base "is_row" 7 ["value", "have", "mill"] [2, 1, 0] (runF 4 d_is_row)) : BodyH P w K mg base ["_law_script", "_law_index", "_law_generator_here", "_law_parts", "_law_works", "_law_held", "_law_small", "_law_late", "_law_door"] 10 f "law" (defScope (top 77)) (defBody (top 77)) d_law := fun cdv A outer s H E q tk pp => by
  have nd := sc_law.nd
  have hu1 := hu64 q.1
  have hu2 := hu65 q.1
  exact (ss_cons (sh_for pp (by rfl) (ih_range1 (by rfl) f_range (ah_cons eh_int ah_nil)) (gh_name 1 (pg_name nd rfl (by first | exact Or.inl rfl | exact Or.inr rfl))) (ss_cons (sh_set (i := 2) nd rfl (by first | exact Or.inl rfl | exact Or.inr rfl) (eh_callK k_law_generatorB q (by decide) tk (by rfl) (ah_cons (eh_v 0 (pv 0)) (ah_cons (eh_v 1 (pv 1)) ah_nil))))
  (ss_cons (sh_set (i := 3) nd rfl (by first | exact Or.inl rfl | exact Or.inr rfl) (eh_callK k_law_mill_drawnC q (by decide) tk (by rfl) (ah_cons (eh_v 2 (pv 2)) (ah_cons (eh_add eh_int (eh_callK k_law_randomC q (by decide) tk (by rfl) (ah_cons (eh_v 2 (pv 2)) (ah_cons eh_int ah_nil)))) (ah_cons (eh_add eh_int (eh_callK k_law_randomC q (by decide) tk (by rfl) (ah_cons (eh_v 2 (pv 2)) (ah_cons eh_int ah_nil)))) ah_nil)))))
  (ss_cons (sh_par (i := 4) (j := 5) (by rfl) nd rfl rfl (by decide) rfl rfl (ah_cons (eh_frz (eh_makeK k_MillC q (by decide) tk (by rfl) (ah_cons (eh_ix (eh_v 3 (pv 3)) eh_int (fun _ _ => rfl)) (ah_cons (eh_ix (eh_v 3 (pv 3)) eh_int (fun _ _ => rfl)) ah_nil)))) (ah_cons (eh_callK k_law_held_drawnC q (by decide) tk (by rfl) (ah_cons (eh_v 2 (pv 2)) (ah_cons (eh_ix (eh_v 3 (pv 3)) eh_int (fun _ _ => rfl)) ah_nil))) ah_nil)) (by rfl))
  (ss_one (sh_if (th_not (th_tru (eh_callK k_law_refused q (by decide) tk (by rfl) (ah_cons (eh_v 4 (pv 4)) (ah_cons (eh_v 5 (pv 5)) (ah_cons (eh_ix (eh_ix (eh_ix (eh_v 3 (pv 3)) eh_int (fun _ _ => rfl)) eh_int (fun _ _ => rfl)) eh_int (fun _ _ => rfl)) ah_nil)))))) (ss_one (sh_ret eh_bl)) ss_nil))))))
  (ss_cons (sh_set (i := 6) nd rfl (by first | exact Or.inl rfl | exact Or.inr rfl) (eh_frz (eh_makeW k_MillC_w10 q (by decide) tk (by rfl) (kh_cons (eh_lst false (ah_cons (eh_tup (ah_cons eh_str (ah_cons (eh_lst false (ah_cons (eh_tup (ah_cons eh_str (ah_cons eh_int ah_nil))) ah_nil)) (ah_cons (eh_lst false ah_nil) ah_nil)))) ah_nil)) (kh_cons (eh_lst false (ah_cons (eh_tup (ah_cons eh_str (ah_cons eh_int ah_nil))) ah_nil)) kh_nil)))))
  (ss_cons (sh_set (i := 7) nd rfl (by first | exact Or.inl rfl | exact Or.inr rfl) (eh_lst false (ah_cons (eh_tup (ah_cons eh_int (ah_cons (eh_lst false (ah_cons (eh_tup (ah_cons eh_str (ah_cons (eh_tup (ah_cons eh_int (ah_cons eh_int ah_nil))) ah_nil))) ah_nil)) ah_nil))) ah_nil)))
  (ss_cons (sh_if (th_cmp (op_neD hu1) prNe (eh_lc (own := [("_law_door", 8)]) false (by rfl) nd (ih_range1 (by rfl) f_range (ah_cons eh_int ah_nil)) (blkOk_by (N := ["_law_script", "_law_index", "_law_generator_here", "_law_parts", "_law_works", "_law_held", "_law_small", "_law_late", "_law_door"]) (sc := defScope (top 77)) (by decide +kernel)) (by decide) (fun _ _ _ _ _ => (gh_name 8 (pg_name nd rfl (by first | exact Or.inl rfl | exact Or.inr rfl)))) (fun _ _ _ _ _ => ts_nil) (fun _ _ _ _ _ => (eh_callK k_law_caught q (by decide) takes0 (by rfl) (ah_cons (eh_v 8 (pv 8)) (ah_cons (eh_lst false (ah_cons (eh_v 6 (pv 6)) (ah_cons (eh_lst false (ah_cons (eh_tup (ah_cons eh_int (ah_cons eh_int ah_nil))) ah_nil)) (ah_cons (eh_v 7 (pv 7)) ah_nil)))) ah_nil))))) (eh_cat false (eh_repL false (eh_lst false (ah_cons (eh_lst false (ah_cons eh_int (ah_cons (eh_callB prRepr (Xv.call_repr sys q) (by rfl) f_repr (by first | rfl | decide +kernel) (ah_cons (eh_v 7 (pv 7)) ah_nil)) ah_nil))) ah_nil)) eh_int) (eh_repL false (eh_lst false (ah_cons (eh_lst false (ah_cons eh_int (ah_cons eh_non ah_nil))) ah_nil)) eh_int)) (by rfl)) (ss_one (sh_ret eh_bl)) ss_nil)
  (ss_cons (sh_if (th_cmp (op_neD hu1) prNe (eh_callW k_led_w210 q (by decide) tk (by rfl) (kh_cons (eh_v 7 (pv 7)) (kh_cons (eh_lst false (ah_cons (eh_tup (ah_cons eh_int (ah_cons eh_int ah_nil))) ah_nil)) (kh_cons (eh_v 6 (pv 6)) kh_nil)))) (eh_lst false (ah_cons (eh_tup (ah_cons eh_int (ah_cons eh_int ah_nil))) ah_nil)) (by rfl)) (ss_one (sh_ret eh_bl)) ss_nil)
  (ss_cons (sh_if (th_cmp (op_neD hu1) prNe (eh_callW k_narrows_w210 q (by decide) tk (by rfl) (kh_cons (eh_v 7 (pv 7)) (kh_cons (eh_lst false (ah_cons (eh_tup (ah_cons eh_int (ah_cons eh_int ah_nil))) ah_nil)) (kh_cons (eh_v 6 (pv 6)) kh_nil)))) (eh_lst false (ah_cons (eh_tup (ah_cons (eh_tup (ah_cons eh_int (ah_cons eh_int ah_nil))) (ah_cons (eh_tup (ah_cons eh_int (ah_cons eh_int ah_nil))) ah_nil))) ah_nil)) (by rfl)) (ss_one (sh_ret eh_bl)) ss_nil)
  (ss_cons (sh_if (th_bor (wh_or (th_cmp (op_neD hu1) prNe (eh_callW k_done_w10 q (by decide) tk (by rfl) (kh_cons (eh_v 7 (pv 7)) (kh_cons (eh_v 6 (pv 6)) kh_nil))) (eh_lst false (ah_cons (eh_tup (ah_cons eh_int (ah_cons eh_int ah_nil))) ah_nil)) (by rfl)) (wh_or1 (th_neO hu1 o_Mill q (by decide) (eh_callW k_turned_w0 q (by decide) tk (by rfl) (kh_cons (eh_v 6 (pv 6)) kh_nil)) (eh_frz (eh_makeK k_MillC q (by decide) tk (by rfl) (ah_cons (eh_lst false (ah_cons (eh_tup (ah_cons eh_str (ah_cons eh_int ah_nil))) ah_nil)) (ah_cons (eh_lst false (ah_cons (eh_tup (ah_cons eh_str (ah_cons (eh_lst false ah_nil) (ah_cons (eh_lst false (ah_cons (eh_tup (ah_cons eh_str (ah_cons eh_int ah_nil))) ah_nil)) ah_nil)))) ah_nil)) ah_nil)))))))) (ss_one (sh_ret eh_bl)) ss_nil)
  (ss_one (sh_ret (eh_isB (eh_callW k_is_row_w210 q (by decide) tk (by rfl) (kh_cons (eh_v 7 (pv 7)) (kh_cons (eh_lst false (ah_cons (eh_tup (ah_cons eh_int (ah_cons eh_int ah_nil))) ah_nil)) (kh_cons (eh_v 6 (pv 6)) kh_nil)))) eh_bl))))))))))
end K13
end
section
namespace K13
open PySem PySem.Spec PyProof.Rows L2 L2.Hy L2.Xv He
def D0 : DefD := ⟨("InvalidList", some "__init__"), "__init__", "InvalidList.__init__", defArgs (inClass (top 4) 0), defBody (inClass (top 4) 0), defScope (inClass (top 4) 0), [.non], []⟩
def D1 : DefD := ⟨("InvalidItem", some "__init__"), "__init__", "InvalidItem.__init__", defArgs (inClass (top 5) 0), defBody (inClass (top 5) 0), defScope (inClass (top 5) 0), [.non], []⟩
def D2 : DefD := ⟨("InvalidMill", some "__init__"), "__init__", "InvalidMill.__init__", defArgs (inClass (top 6) 0), defBody (inClass (top 6) 0), defScope (inClass (top 6) 0), [.non], []⟩
def D3 : DefD := ⟨("InvalidHoldings", some "__init__"), "__init__", "InvalidHoldings.__init__", defArgs (inClass (top 7) 0), defBody (inClass (top 7) 0), defScope (inClass (top 7) 0), [.non], []⟩
def D4 : DefD := ⟨("InvalidRow", some "__init__"), "__init__", "InvalidRow.__init__", defArgs (inClass (top 8) 0), defBody (inClass (top 8) 0), defScope (inClass (top 8) 0), [.non], []⟩
def D5 : DefD := ⟨("_law_cell", none), "_law_cell", "_law_cell", defArgs (top 71), defBody (top 71), defScope (top 71), [], []⟩
def D6 : DefD := ⟨("_law_generator", none), "_law_generator", "_law_generator", defArgs (top 72), defBody (top 72), defScope (top 72), [], []⟩
def D7 : DefD := ⟨("_law_hash", none), "_law_hash", "_law_hash", defArgs (top 65), defBody (top 65), defScope (top 65), [], []⟩
def D8 : DefD := ⟨("_law_random", none), "_law_random", "_law_random", defArgs (top 66), defBody (top 66), defScope (top 66), [], []⟩
def D9 : DefD := ⟨("_law_parts_drawn", none), "_law_parts_drawn", "_law_parts_drawn", defArgs (top 69), defBody (top 69), defScope (top 69), [], []⟩
def D10 : DefD := ⟨("_law_mill_drawn", none), "_law_mill_drawn", "_law_mill_drawn", defArgs (top 70), defBody (top 70), defScope (top 70), [], []⟩
def D11 : DefD := ⟨("_law_common", none), "_law_common", "_law_common", defArgs (top 63), defBody (top 63), defScope (top 63), [], []⟩
def D12 : DefD := ⟨("_law_part", none), "_law_part", "_law_part", defArgs (top 64), defBody (top 64), defScope (top 64), [], []⟩
def D13 : DefD := ⟨("_law_amount_drawn", none), "_law_amount_drawn", "_law_amount_drawn", defArgs (top 67), defBody (top 67), defScope (top 67), [], []⟩
def D14 : DefD := ⟨("_law_less", none), "_law_less", "_law_less", defArgs (top 62), defBody (top 62), defScope (top 62), [], []⟩
def D15 : DefD := ⟨("_law_held_drawn", none), "_law_held_drawn", "_law_held_drawn", defArgs (top 68), defBody (top 68), defScope (top 68), [], []⟩
def D16 : DefD := ⟨("is_list_within", none), "is_list_within", "is_list_within", defArgs (top 23), defBody (top 23), defScope (top 23), [], []⟩
def D17 : DefD := ⟨("is_tuple_of", none), "is_tuple_of", "is_tuple_of", defArgs (top 24), defBody (top 24), defScope (top 24), [], []⟩
def D18 : DefD := ⟨("is_name", none), "is_name", "is_name", defArgs (top 21), defBody (top 21), defScope (top 21), [], []⟩
def D19 : DefD := ⟨("is_whole", none), "is_whole", "is_whole", defArgs (top 16), defBody (top 16), defScope (top 16), [], []⟩
def D20 : DefD := ⟨("is_whole_within", none), "is_whole_within", "is_whole_within", defArgs (top 17), defBody (top 17), defScope (top 17), [], []⟩
def D21 : DefD := ⟨("is_stuff", none), "is_stuff", "is_stuff", defArgs (top 44), defBody (top 44), defScope (top 44), [], []⟩
def D22 : DefD := ⟨("_need_stuffs", none), "_need_stuffs", "_need_stuffs", defArgs (top 47), defBody (top 47), defScope (top 47), [], []⟩
def D23 : DefD := ⟨("_is_side", none), "_is_side", "_is_side", defArgs (top 49), defBody (top 49), defScope (top 49), [], []⟩
def D24 : DefD := ⟨("is_recipe", none), "is_recipe", "is_recipe", defArgs (top 45), defBody (top 45), defScope (top 45), [], []⟩
def D25 : DefD := ⟨("_need_recipes", none), "_need_recipes", "_need_recipes", defArgs (top 48), defBody (top 48), defScope (top 48), [], []⟩
def D26 : DefD := ⟨("_copied", none), "_copied", "_copied", defArgs (top 46), defBody (top 46), defScope (top 46), [], []⟩
def D27 : DefD := ⟨("Mill", some "__init__"), "__init__", "Mill.__init__", defArgs (inClass (top 41) 0), defBody (inClass (top 41) 0), defScope (inClass (top 41) 0), [], []⟩
def D28 : DefD := ⟨("Mill", some "recipes"), "recipes", "Mill.recipes", defArgs (inClass (top 41) 3), defBody (inClass (top 41) 3), defScope (inClass (top 41) 3), [], []⟩
def D29 : DefD := ⟨("need_mill", none), "need_mill", "need_mill", defArgs (top 43), defBody (top 43), defScope (top 43), [], []⟩
def D30 : DefD := ⟨("Mill", some "stuffs"), "stuffs", "Mill.stuffs", defArgs (inClass (top 41) 2), defBody (inClass (top 41) 2), defScope (inClass (top 41) 2), [], []⟩
def D31 : DefD := ⟨("_numbered", none), "_numbered", "_numbered", defArgs (top 53), defBody (top 53), defScope (top 53), [], []⟩
def D32 : DefD := ⟨("Mill", some "names"), "names", "Mill.names", defArgs (inClass (top 41) 4), defBody (inClass (top 41) 4), defScope (inClass (top 41) 4), [], []⟩
def D33 : DefD := ⟨("_net", none), "_net", "_net", defArgs (top 54), defBody (top 54), defScope (top 54), [], []⟩
def D34 : DefD := ⟨("Tables", some "__init__"), "__init__", "Tables.__init__", defArgs (inClass (top 51) 0), defBody (inClass (top 51) 0), defScope (inClass (top 51) 0), [], []⟩
def D35 : DefD := ⟨("tables_of", none), "tables_of", "tables_of", defArgs (top 52), defBody (top 52), defScope (top 52), [], []⟩
def D36 : DefD := ⟨("is_list_of", none), "is_list_of", "is_list_of", defArgs (top 22), defBody (top 22), defScope (top 22), [], []⟩
def D37 : DefD := ⟨("is_fraction", none), "is_fraction", "is_fraction", defArgs (top 18), defBody (top 18), defScope (top 18), [], []⟩
def D38 : DefD := ⟨("is_amount", none), "is_amount", "is_amount", defArgs (top 19), defBody (top 19), defScope (top 19), [], []⟩
def D39 : DefD := ⟨("is_less", none), "is_less", "is_less", defArgs (top 11), defBody (top 11), defScope (top 11), [], []⟩
def D40 : DefD := ⟨("fits_room", none), "fits_room", "fits_room", defArgs (top 27), defBody (top 27), defScope (top 27), [], []⟩
def D41 : DefD := ⟨("is_holdings", none), "is_holdings", "is_holdings", defArgs (top 28), defBody (top 28), defScope (top 28), [], []⟩
def D42 : DefD := ⟨("need_holdings", none), "need_holdings", "need_holdings", defArgs (top 29), defBody (top 29), defScope (top 29), [], []⟩
def D43 : DefD := ⟨("is_above_nothing", none), "is_above_nothing", "is_above_nothing", defArgs (top 20), defBody (top 20), defScope (top 20), [], []⟩
def D44 : DefD := ⟨("is_step", none), "is_step", "is_step", defArgs (top 30), defBody (top 30), defScope (top 30), [], []⟩
def D45 : DefD := ⟨("is_block", none), "is_block", "is_block", defArgs (top 31), defBody (top 31), defScope (top 31), [], []⟩
def D46 : DefD := ⟨("is_row_of", none), "is_row_of", "is_row_of", defArgs (top 32), defBody (top 32), defScope (top 32), [], []⟩
def D47 : DefD := ⟨("_common_under", none), "_common_under", "_common_under", defArgs (top 34), defBody (top 34), defScope (top 34), [], []⟩
def D48 : DefD := ⟨("_over", none), "_over", "_over", defArgs (top 35), defBody (top 35), defScope (top 35), [], []⟩
def D49 : DefD := ⟨("Tables", some "place_of"), "place_of", "Tables.place_of", defArgs (inClass (top 51) 1), defBody (inClass (top 51) 1), defScope (inClass (top 51) 1), [], []⟩
def D50 : DefD := ⟨("_added", none), "_added", "_added", defArgs (top 36), defBody (top 36), defScope (top 36), [], []⟩
def D51 : DefD := ⟨("Trip", some "_go_turn"), "_go_turn", "Trip._go_turn", defArgs (inClass (top 26) 5), defBody (inClass (top 26) 5), defScope (inClass (top 26) 5), [], []⟩
def D52 : DefD := ⟨("Trip", some "_go_block"), "_go_block", "Trip._go_block", defArgs (inClass (top 26) 4), defBody (inClass (top 26) 4), defScope (inClass (top 26) 4), [], []⟩
def D53 : DefD := ⟨("Trip", some "__init__"), "__init__", "Trip.__init__", defArgs (inClass (top 26) 0), defBody (inClass (top 26) 0), defScope (inClass (top 26) 0), [], []⟩
def D54 : DefD := ⟨("Trip", some "can_be_done"), "can_be_done", "Trip.can_be_done", defArgs (inClass (top 26) 1), defBody (inClass (top 26) 1), defScope (inClass (top 26) 1), [], []⟩
def D55 : DefD := ⟨("_need_trip", none), "_need_trip", "_need_trip", defArgs (top 60), defBody (top 60), defScope (top 60), [], []⟩
def D56 : DefD := ⟨("fraction", none), "fraction", "fraction", defArgs (top 10), defBody (top 10), defScope (top 10), [], []⟩
def D57 : DefD := ⟨("Trip", some "end"), "end", "Trip.end", defArgs (inClass (top 26) 2), defBody (inClass (top 26) 2), defScope (inClass (top 26) 2), [], []⟩
def D58 : DefD := ⟨("led", none), "led", "led", defArgs (top 56), defBody (top 56), defScope (top 56), [], []⟩
def D59 : DefD := ⟨("Trip", some "narrows"), "narrows", "Trip.narrows", defArgs (inClass (top 26) 3), defBody (inClass (top 26) 3), defScope (inClass (top 26) 3), [], []⟩
def D60 : DefD := ⟨("narrows", none), "narrows", "narrows", defArgs (top 58), defBody (top 58), defScope (top 58), [], []⟩
def D61 : DefD := ⟨("is_row", none), "is_row", "is_row", defArgs (top 57), defBody (top 57), defScope (top 57), [], []⟩
def D62 : DefD := ⟨("sums_done", none), "sums_done", "sums_done", defArgs (top 33), defBody (top 33), defScope (top 33), [], []⟩
def D63 : DefD := ⟨("done", none), "done", "done", defArgs (top 59), defBody (top 59), defScope (top 59), [], []⟩
def D64 : DefD := ⟨("turned", none), "turned", "turned", defArgs (top 42), defBody (top 42), defScope (top 42), [], []⟩
def D65 : DefD := ⟨("_law_caught", none), "_law_caught", "_law_caught", defArgs (top 73), defBody (top 73), defScope (top 73), [], []⟩
def D66 : DefD := ⟨("_law_odd_holdings", none), "_law_odd_holdings", "_law_odd_holdings", defArgs (top 74), defBody (top 74), defScope (top 74), [], []⟩
def D67 : DefD := ⟨("_law_odd_rows", none), "_law_odd_rows", "_law_odd_rows", defArgs (top 75), defBody (top 75), defScope (top 75), [], []⟩
def D68 : DefD := ⟨("_law_refused", none), "_law_refused", "_law_refused", defArgs (top 76), defBody (top 76), defScope (top 76), [], []⟩
def D69 : DefD := ⟨("Mill", some "__eq__"), "__eq__", "Mill.__eq__", defArgs (inClass (top 41) 1), defBody (inClass (top 41) 1), defScope (inClass (top 41) 1), [], []⟩
def D70 : DefD := ⟨("law", none), "law", "law", defArgs (top 77), defBody (top 77), defScope (top 77), [], []⟩
def fn0 : List DefD := [D0, D1, D2, D3, D4, D5, D6, D7, D8, D9]
def fn1 : List DefD := [D10, D11, D12, D13, D14, D15, D16, D17, D18, D19]
def fn2 : List DefD := [D20, D21, D22, D23, D24, D25, D26, D27, D28, D29]
def fn3 : List DefD := [D30, D31, D32, D33, D34, D35, D36, D37, D38, D39]
def fn4 : List DefD := [D40, D41, D42, D43, D44, D45, D46, D47, D48, D49]
def fn5 : List DefD := [D50, D51, D52, D53, D54, D55, D56, D57, D58, D59]
def fn6 : List DefD := [D60, D61, D62, D63, D64, D65, D66, D67, D68, D69]
def fn7 : List DefD := [D70]
def fg0 : List DefD := List.flatten [fn0, fn1, fn2, fn3]
def fg1 : List DefD := List.flatten [fn4, fn5, fn6, fn7]
def fn : List DefD := fg0 ++ (fg1)
def ck0 (K : PySem.W.Frag) : Bool := xallB K && (sysB K && (gloB K "MillError" && (gloB K "InvalidList" && (xclsB K (ga K "InvalidList") && (raiseChk K "InvalidList" && (gloB K "InvalidItem" && (xclsB K (ga K "InvalidItem"))))))))
def ck1 (K : PySem.W.Frag) : Bool := raiseChk K "InvalidItem" && (gloB K "InvalidMill" && (xclsB K (ga K "InvalidMill") && (raiseChk K "InvalidMill" && (gloB K "InvalidHoldings" && (xclsB K (ga K "InvalidHoldings") && (raiseChk K "InvalidHoldings" && (gloB K "InvalidRow")))))))
def ck2 (K : PySem.W.Frag) : Bool := xclsB K (ga K "InvalidRow") && (raiseChk K "InvalidRow" && (ooN (PySem.W.findIn K (.ref (ga K "InvalidList")) "value") && (ooN (PySem.W.findIn K (.ref (ga K "InvalidItem")) "value") && (ooN (PySem.W.findIn K (.ref (ga K "InvalidMill")) "value") && (ooN (PySem.W.findIn K (.ref (ga K "InvalidHoldings")) "value") && (ooN (PySem.W.findIn K (.ref (ga K "InvalidRow")) "value") && (ooN (PySem.W.findIn K (.ref (ga K "InvalidList")) "value"))))))))
def ck3 (K : PySem.W.Frag) : Bool := ooN (PySem.W.findIn K (.ref (ga K "InvalidItem")) "value") && (ooN (PySem.W.findIn K (.ref (ga K "InvalidMill")) "value") && (ooN (PySem.W.findIn K (.ref (ga K "InvalidHoldings")) "value") && (ooN (PySem.W.findIn K (.ref (ga K "InvalidRow")) "value") && (gloB K "Trip" && (clsChk K (ga K "Trip") && (mkChk K (ga K "Trip") && (gloB K "Mill")))))))
def ck4 (K : PySem.W.Frag) : Bool := clsChk K (ga K "Mill") && (mkChk K (ga K "Mill") && (ownChk K (ga K "Mill") && (gloB K "Tables" && (clsChk K (ga K "Tables") && (mkChk K (ga K "Tables") && (gloB K "_law_cell" && (gloB K "_law_generator")))))))
def ck5 (K : PySem.W.Frag) : Bool := gloB K "_law_hash" && (gloB K "_law_random" && (gloB K "_law_parts_drawn" && (gloB K "_law_mill_drawn" && (gloB K "_law_common" && (gloB K "_law_part" && (gloB K "_law_amount_drawn" && (gloB K "_law_less")))))))
def ck6 (K : PySem.W.Frag) : Bool := gloB K "_law_held_drawn" && (gloB K "is_list_within" && (gloB K "is_tuple_of" && (gloB K "is_name" && (gloB K "is_whole" && (gloB K "is_whole_within" && (gloB K "is_stuff" && (gloB K "_need_stuffs")))))))
def ck7 (K : PySem.W.Frag) : Bool := gloB K "_is_side" && (gloB K "is_recipe" && (gloB K "_need_recipes" && (gloB K "_copied" && (methChk K (ga K "Mill") "__init__" && (methChk K (ga K "Mill") "recipes" && (gloB K "need_mill" && (methChk K (ga K "Mill") "stuffs")))))))
def ck8 (K : PySem.W.Frag) : Bool := gloB K "_numbered" && (methChk K (ga K "Mill") "names" && (gloB K "_net" && (methChk K (ga K "Tables") "__init__" && (gloB K "tables_of" && (gloB K "is_list_of" && (gloB K "is_fraction" && (gloB K "is_amount")))))))
def ck9 (K : PySem.W.Frag) : Bool := gloB K "is_less" && (gloB K "fits_room" && (gloB K "is_holdings" && (gloB K "need_holdings" && (gloB K "is_above_nothing" && (gloB K "is_step" && (gloB K "is_block" && (gloB K "is_row_of")))))))
def ck10 (K : PySem.W.Frag) : Bool := gloB K "_common_under" && (gloB K "_over" && (methChk K (ga K "Tables") "place_of" && (gloB K "_added" && (methChk K (ga K "Trip") "_go_turn" && (methChk K (ga K "Trip") "_go_block" && (methChk K (ga K "Trip") "__init__" && (methChk K (ga K "Trip") "can_be_done")))))))
def ck11 (K : PySem.W.Frag) : Bool := gloB K "_need_trip" && (gloB K "fraction" && (methChk K (ga K "Trip") "end" && (gloB K "led" && (methChk K (ga K "Trip") "narrows" && (gloB K "narrows" && (gloB K "is_row" && (gloB K "sums_done")))))))
def ck12 (K : PySem.W.Frag) : Bool := gloB K "done" && (gloB K "turned" && (gloB K "_law_caught" && (gloB K "_law_odd_holdings" && (gloB K "_law_odd_rows" && (gloB K "_law_refused" && (methChk K (ga K "Mill") "__eq__" && (gloB K "law")))))))
def ck13 (K : PySem.W.Frag) : Bool := noChk K (ga K "Trip") "_recipes" && (noChk K (ga K "Mill") "_recipes" && (noChk K (ga K "Tables") "_recipes" && (noChk K (ga K "Trip") "_stuffs" && (noChk K (ga K "Mill") "_stuffs" && (noChk K (ga K "Tables") "_stuffs" && (noChk K (ga K "Trip") "gives" && (noChk K (ga K "Mill") "gives")))))))
def ck14 (K : PySem.W.Frag) : Bool := noChk K (ga K "Tables") "gives" && (noChk K (ga K "Trip") "nets" && (noChk K (ga K "Mill") "nets" && (noChk K (ga K "Tables") "nets" && (noChk K (ga K "Trip") "now" && (noChk K (ga K "Mill") "now" && (noChk K (ga K "Tables") "now" && (noChk K (ga K "Trip") "recipe_names")))))))
def ck15 (K : PySem.W.Frag) : Bool := noChk K (ga K "Mill") "recipe_names" && (noChk K (ga K "Tables") "recipe_names" && (noChk K (ga K "Trip") "rooms" && (noChk K (ga K "Mill") "rooms" && (noChk K (ga K "Tables") "rooms" && (noChk K (ga K "Trip") "seen" && (noChk K (ga K "Mill") "seen" && (noChk K (ga K "Tables") "seen")))))))
def ck16 (K : PySem.W.Frag) : Bool := noChk K (ga K "Trip") "start" && (noChk K (ga K "Mill") "start" && (noChk K (ga K "Tables") "start" && (noChk K (ga K "Trip") "stuff_names" && (noChk K (ga K "Mill") "stuff_names" && (noChk K (ga K "Tables") "stuff_names" && (noChk K (ga K "Trip") "tables" && (noChk K (ga K "Mill") "tables")))))))
def ck17 (K : PySem.W.Frag) : Bool := noChk K (ga K "Tables") "tables" && (noChk K (ga K "Trip") "takes" && (noChk K (ga K "Mill") "takes" && (noChk K (ga K "Tables") "takes" && (noChk K (ga K "Trip") "under" && (noChk K (ga K "Mill") "under" && (noChk K (ga K "Tables") "under" && (freeB K "len")))))))
def ck18 (K : PySem.W.Frag) : Bool := freeB K "int" && (freeB K "max" && (freeB K "range" && (freeB K "abs" && (freeB K "list" && (freeB K "isinstance" && (freeB K "tuple" && (freeB K "str")))))))
def ck19 (K : PySem.W.Frag) : Bool := freeB K "all" && (freeB K "bool" && (freeB K "zip" && (freeB K "any" && (freeB K "min" && (freeB K "repr" && (conChk K "LONGEST_NAME" (.int 8) && (conChk K "LETTERS" (.str "abcdefghijklmnopqrstuvwxyz"))))))))
def ck20 (K : PySem.W.Frag) : Bool := conChk K "SIGNS" (.str "abcdefghijklmnopqrstuvwxyz0123456789") && (conChk K "GREATEST" (.int 1000000) && (conChk K "MOST_STUFFS" (.int 8) && (conChk K "MOST_RECIPES" (.int 8) && (biChk K "gcd" "math.gcd" && (biChk K "lcm" "math.lcm" && (kqChk K kqTab && (isO (PySem.W.exmOne K (.ref (ga K "InvalidList")) (.ref (ga K "MillError"))) (some true))))))))
def ck21 (K : PySem.W.Frag) : Bool := isO (PySem.W.exmOne K (.ref (ga K "InvalidItem")) (.ref (ga K "MillError"))) (some true) && (isO (PySem.W.exmOne K (.ref (ga K "InvalidMill")) (.ref (ga K "MillError"))) (some true) && (isO (PySem.W.exmOne K (.ref (ga K "InvalidHoldings")) (.ref (ga K "MillError"))) (some true) && (isO (PySem.W.exmOne K (.ref (ga K "InvalidRow")) (.ref (ga K "MillError"))) (some true))))
def cg0 (K : PySem.W.Frag) : Bool := ck0 K && (ck1 K && (ck2 K && (ck3 K && (ck4 K && (ck5 K && (ck6 K && (ck7 K && (ck8 K && (ck9 K && (ck10 K))))))))))
def cg1 (K : PySem.W.Frag) : Bool := ck11 K && (ck12 K && (ck13 K && (ck14 K && (ck15 K && (ck16 K && (ck17 K && (ck18 K && (ck19 K && (ck20 K && (ck21 K))))))))))
def ck (K : PySem.W.Frag) : Bool := cg0 K && (cg1 K)
abbrev R : PySem.W.OpenRow := PySem.W.OpenLaw.row PySem.Challenge.rw_millpapers_k13_rows_refused
abbrev hk : PySem.W.Hook := hookX 4 ck fn
def ob (s : PySem.W.SharedT) : Bool × AlD := obsX 4 ck fn (HandSHeadRun.getT s)
theorem ob_eq (s : PySem.W.SharedT) : ob s = hk.obs s.abs := obsX_eq (HandSHeadRun.getT_eq s)
def loose0 : List Str := ["MillError", "InvalidList", "InvalidItem", "InvalidMill", "InvalidHoldings", "InvalidRow", "Trip", "Mill", "Tables", "_wall", "fraction", "is_less"]
def loose1 : List Str := ["is_whole", "is_whole_within", "is_fraction", "is_amount", "is_above_nothing", "is_name", "is_list_of", "is_list_within", "is_tuple_of", "fits_room", "is_holdings", "need_holdings"]
def loose2 : List Str := ["is_step", "is_block", "is_row_of", "sums_done", "_common_under", "_over", "_added", "turned", "need_mill", "is_stuff", "is_recipe", "_copied"]
def loose3 : List Str := ["_need_stuffs", "_need_recipes", "_is_side", "tables_of", "_numbered", "_net", "led", "is_row", "narrows", "done", "_need_trip", "_law_less"]
def loose4 : List Str := ["_law_common", "_law_part", "_law_hash", "_law_random", "_law_amount_drawn", "_law_held_drawn", "_law_parts_drawn", "_law_mill_drawn", "_law_cell", "_law_generator", "_law_caught", "_law_odd_holdings"]
def loose5 : List Str := ["_law_odd_rows", "_law_refused", "LETTERS", "SIGNS", "LONGEST_NAME", "MOST_STUFFS", "MOST_RECIPES", "GREATEST"]
def loose : List Str := List.flatten [loose0, loose1, loose2, loose3, loose4, loose5]
open PySem.W PySem.W.X HandSHeadRun in
theorem run0 (w : World) : (HandSHeadRun.wholeF (fun p => HandSHeadRun.stepQ (HandSHeadRun.denQ HandSHeadRun.tabQ) p w) HandSHeadRun.fenceQ 20000 R.prog).map (fun x => (HandSHeadRun.looksF R.prog x.1.heap x.2.abs, HandSHeadRun.seenQ (PySem.W.view R.prog [0, 77]) loose (importedModules R.prog.main.body) (fun s => xlAt (PySem.W.view R.prog [0, 77]) [] s && recOk R.toRowW.records s) x.2.abs)) = some (true, openGood (PySem.W.view R.prog [0, 77]) loose) := by kernel_rfl
theorem run1 (w : World) : (HandSHeadRun.wholeF (fun p => HandSHeadRun.stepQ (HandSHeadRun.denQ HandSHeadRun.tabQ) p w) HandSHeadRun.fenceQ 20000 R.prog).map (fun x => (fun K => (cg0 K && fg0.all fun d => d.ok K, fg0.map fun d => fnW K d.at_)) (partG 4 (HandSHeadRun.getT x.2))) = some (true, fg0.map DefD.val) := by kernel_rfl
theorem run2 (w : World) : (HandSHeadRun.wholeF (fun p => HandSHeadRun.stepQ (HandSHeadRun.denQ HandSHeadRun.tabQ) p w) HandSHeadRun.fenceQ 20000 R.prog).map (fun x => (fun K => (cg1 K && fg1.all fun d => d.ok K, fg1.map fun d => fnW K d.at_)) (partG 4 (HandSHeadRun.getT x.2))) = some (true, fg1.map DefD.val) := by kernel_rfl
theorem run (w : World) : HandSHeadRun.RunEqI R (PySem.W.view R.prog [0, 77]) hk ob 20000 loose w := by
  unfold HandSHeadRun.RunEqI
  obtain ⟨x, e, h0⟩ := Option.map_eq_some_iff.mp (run0 w)
  have h1 := run1 w
  rw [e] at h1
  obtain ⟨p1, q1⟩ := Prod.mk.inj (Option.some.inj h1)
  obtain ⟨u1, v1⟩ := Bool.and_eq_true_iff.mp p1
  have h2 := run2 w
  rw [e] at h2
  obtain ⟨p2, q2⟩ := Prod.mk.inj (Option.some.inj h2)
  obtain ⟨u2, v2⟩ := Bool.and_eq_true_iff.mp p2
  rw [e]
  obtain ⟨z1, z2⟩ := Prod.mk.inj h0
  have eo : ob x.2 = hk.val w := by
    show ((ck (partG 4 (HandSHeadRun.getT x.2)), (true && fn.all fun d => d.ok (partG 4 (HandSHeadRun.getT x.2)), fn.map fun d => fnW (partG 4 (HandSHeadRun.getT x.2)) d.at_)) : Bool × AlD) = (true, true, fn.map DefD.val)
    unfold ck fn
    simp only [List.all_append, List.map_append, u1, v1, q1, u2, v2, q2, Bool.and_self, Bool.true_and]
  show some (_, _, _) = _
  rw [eo]
  exact congrArg some (Prod.ext z1 (Prod.ext z2 rfl))
end K13
end
section
namespace K13
open PySem PySem.Spec PyProof.Rows L2 L2.Hy L2.Xv He
structure Ck (K : PySem.W.Frag) : Prop where
  xall : xallB K = true
  sys : sysB K = true
  glo_MillError : gloB K "MillError" = true
  glo_InvalidList : gloB K "InvalidList" = true
  xcl_InvalidList : xclsB K (ga K "InvalidList") = true
  rse_InvalidList : raiseChk K "InvalidList" = true
  glo_InvalidItem : gloB K "InvalidItem" = true
  xcl_InvalidItem : xclsB K (ga K "InvalidItem") = true
  rse_InvalidItem : raiseChk K "InvalidItem" = true
  glo_InvalidMill : gloB K "InvalidMill" = true
  xcl_InvalidMill : xclsB K (ga K "InvalidMill") = true
  rse_InvalidMill : raiseChk K "InvalidMill" = true
  glo_InvalidHoldings : gloB K "InvalidHoldings" = true
  xcl_InvalidHoldings : xclsB K (ga K "InvalidHoldings") = true
  rse_InvalidHoldings : raiseChk K "InvalidHoldings" = true
  glo_InvalidRow : gloB K "InvalidRow" = true
  xcl_InvalidRow : xclsB K (ga K "InvalidRow") = true
  rse_InvalidRow : raiseChk K "InvalidRow" = true
  nof_InvalidList : ooN (PySem.W.findIn K (.ref (ga K "InvalidList")) "value") = true
  nof_InvalidItem : ooN (PySem.W.findIn K (.ref (ga K "InvalidItem")) "value") = true
  nof_InvalidMill : ooN (PySem.W.findIn K (.ref (ga K "InvalidMill")) "value") = true
  nof_InvalidHoldings : ooN (PySem.W.findIn K (.ref (ga K "InvalidHoldings")) "value") = true
  nof_InvalidRow : ooN (PySem.W.findIn K (.ref (ga K "InvalidRow")) "value") = true
  xfl_value_InvalidList : ooN (PySem.W.findIn K (.ref (ga K "InvalidList")) "value") = true
  xfl_value_InvalidItem : ooN (PySem.W.findIn K (.ref (ga K "InvalidItem")) "value") = true
  xfl_value_InvalidMill : ooN (PySem.W.findIn K (.ref (ga K "InvalidMill")) "value") = true
  xfl_value_InvalidHoldings : ooN (PySem.W.findIn K (.ref (ga K "InvalidHoldings")) "value") = true
  xfl_value_InvalidRow : ooN (PySem.W.findIn K (.ref (ga K "InvalidRow")) "value") = true
  glo_Trip : gloB K "Trip" = true
  cls_Trip : clsChk K (ga K "Trip") = true
  mk_Trip : mkChk K (ga K "Trip") = true
  glo_Mill : gloB K "Mill" = true
  cls_Mill : clsChk K (ga K "Mill") = true
  mk_Mill : mkChk K (ga K "Mill") = true
  own_Mill : ownChk K (ga K "Mill") = true
  glo_Tables : gloB K "Tables" = true
  cls_Tables : clsChk K (ga K "Tables") = true
  mk_Tables : mkChk K (ga K "Tables") = true
  fun__law_cell : gloB K "_law_cell" = true
  fun__law_generator : gloB K "_law_generator" = true
  fun__law_hash : gloB K "_law_hash" = true
  fun__law_random : gloB K "_law_random" = true
  fun__law_parts_drawn : gloB K "_law_parts_drawn" = true
  fun__law_mill_drawn : gloB K "_law_mill_drawn" = true
  fun__law_common : gloB K "_law_common" = true
  fun__law_part : gloB K "_law_part" = true
  fun__law_amount_drawn : gloB K "_law_amount_drawn" = true
  fun__law_less : gloB K "_law_less" = true
  fun__law_held_drawn : gloB K "_law_held_drawn" = true
  fun_is_list_within : gloB K "is_list_within" = true
  fun_is_tuple_of : gloB K "is_tuple_of" = true
  fun_is_name : gloB K "is_name" = true
  fun_is_whole : gloB K "is_whole" = true
  fun_is_whole_within : gloB K "is_whole_within" = true
  fun_is_stuff : gloB K "is_stuff" = true
  fun__need_stuffs : gloB K "_need_stuffs" = true
  fun__is_side : gloB K "_is_side" = true
  fun_is_recipe : gloB K "is_recipe" = true
  fun__need_recipes : gloB K "_need_recipes" = true
  fun__copied : gloB K "_copied" = true
  mth_Mill___init__ : methChk K (ga K "Mill") "__init__" = true
  mth_Mill_recipes : methChk K (ga K "Mill") "recipes" = true
  fun_need_mill : gloB K "need_mill" = true
  mth_Mill_stuffs : methChk K (ga K "Mill") "stuffs" = true
  fun__numbered : gloB K "_numbered" = true
  mth_Mill_names : methChk K (ga K "Mill") "names" = true
  fun__net : gloB K "_net" = true
  mth_Tables___init__ : methChk K (ga K "Tables") "__init__" = true
  fun_tables_of : gloB K "tables_of" = true
  fun_is_list_of : gloB K "is_list_of" = true
  fun_is_fraction : gloB K "is_fraction" = true
  fun_is_amount : gloB K "is_amount" = true
  fun_is_less : gloB K "is_less" = true
  fun_fits_room : gloB K "fits_room" = true
  fun_is_holdings : gloB K "is_holdings" = true
  fun_need_holdings : gloB K "need_holdings" = true
  fun_is_above_nothing : gloB K "is_above_nothing" = true
  fun_is_step : gloB K "is_step" = true
  fun_is_block : gloB K "is_block" = true
  fun_is_row_of : gloB K "is_row_of" = true
  fun__common_under : gloB K "_common_under" = true
  fun__over : gloB K "_over" = true
  mth_Tables_place_of : methChk K (ga K "Tables") "place_of" = true
  fun__added : gloB K "_added" = true
  mth_Trip__go_turn : methChk K (ga K "Trip") "_go_turn" = true
  mth_Trip__go_block : methChk K (ga K "Trip") "_go_block" = true
  mth_Trip___init__ : methChk K (ga K "Trip") "__init__" = true
  mth_Trip_can_be_done : methChk K (ga K "Trip") "can_be_done" = true
  fun__need_trip : gloB K "_need_trip" = true
  fun_fraction : gloB K "fraction" = true
  mth_Trip_end : methChk K (ga K "Trip") "end" = true
  fun_led : gloB K "led" = true
  mth_Trip_narrows : methChk K (ga K "Trip") "narrows" = true
  fun_narrows : gloB K "narrows" = true
  fun_is_row : gloB K "is_row" = true
  fun_sums_done : gloB K "sums_done" = true
  fun_done : gloB K "done" = true
  fun_turned : gloB K "turned" = true
  fun__law_caught : gloB K "_law_caught" = true
  fun__law_odd_holdings : gloB K "_law_odd_holdings" = true
  fun__law_odd_rows : gloB K "_law_odd_rows" = true
  fun__law_refused : gloB K "_law_refused" = true
  mth_Mill___eq__ : methChk K (ga K "Mill") "__eq__" = true
  fun_law : gloB K "law" = true
  at__recipes_Trip : noChk K (ga K "Trip") "_recipes" = true
  at__recipes_Mill : noChk K (ga K "Mill") "_recipes" = true
  at__recipes_Tables : noChk K (ga K "Tables") "_recipes" = true
  at__stuffs_Trip : noChk K (ga K "Trip") "_stuffs" = true
  at__stuffs_Mill : noChk K (ga K "Mill") "_stuffs" = true
  at__stuffs_Tables : noChk K (ga K "Tables") "_stuffs" = true
  at_gives_Trip : noChk K (ga K "Trip") "gives" = true
  at_gives_Mill : noChk K (ga K "Mill") "gives" = true
  at_gives_Tables : noChk K (ga K "Tables") "gives" = true
  at_nets_Trip : noChk K (ga K "Trip") "nets" = true
  at_nets_Mill : noChk K (ga K "Mill") "nets" = true
  at_nets_Tables : noChk K (ga K "Tables") "nets" = true
  at_now_Trip : noChk K (ga K "Trip") "now" = true
  at_now_Mill : noChk K (ga K "Mill") "now" = true
  at_now_Tables : noChk K (ga K "Tables") "now" = true
  at_recipe_names_Trip : noChk K (ga K "Trip") "recipe_names" = true
  at_recipe_names_Mill : noChk K (ga K "Mill") "recipe_names" = true
  at_recipe_names_Tables : noChk K (ga K "Tables") "recipe_names" = true
  at_rooms_Trip : noChk K (ga K "Trip") "rooms" = true
  at_rooms_Mill : noChk K (ga K "Mill") "rooms" = true
  at_rooms_Tables : noChk K (ga K "Tables") "rooms" = true
  at_seen_Trip : noChk K (ga K "Trip") "seen" = true
  at_seen_Mill : noChk K (ga K "Mill") "seen" = true
  at_seen_Tables : noChk K (ga K "Tables") "seen" = true
  at_start_Trip : noChk K (ga K "Trip") "start" = true
  at_start_Mill : noChk K (ga K "Mill") "start" = true
  at_start_Tables : noChk K (ga K "Tables") "start" = true
  at_stuff_names_Trip : noChk K (ga K "Trip") "stuff_names" = true
  at_stuff_names_Mill : noChk K (ga K "Mill") "stuff_names" = true
  at_stuff_names_Tables : noChk K (ga K "Tables") "stuff_names" = true
  at_tables_Trip : noChk K (ga K "Trip") "tables" = true
  at_tables_Mill : noChk K (ga K "Mill") "tables" = true
  at_tables_Tables : noChk K (ga K "Tables") "tables" = true
  at_takes_Trip : noChk K (ga K "Trip") "takes" = true
  at_takes_Mill : noChk K (ga K "Mill") "takes" = true
  at_takes_Tables : noChk K (ga K "Tables") "takes" = true
  at_under_Trip : noChk K (ga K "Trip") "under" = true
  at_under_Mill : noChk K (ga K "Mill") "under" = true
  at_under_Tables : noChk K (ga K "Tables") "under" = true
  fre_len : freeB K "len" = true
  fre_int : freeB K "int" = true
  fre_max : freeB K "max" = true
  fre_range : freeB K "range" = true
  fre_abs : freeB K "abs" = true
  fre_list : freeB K "list" = true
  fre_isinstance : freeB K "isinstance" = true
  fre_tuple : freeB K "tuple" = true
  fre_str : freeB K "str" = true
  fre_all : freeB K "all" = true
  fre_bool : freeB K "bool" = true
  fre_zip : freeB K "zip" = true
  fre_any : freeB K "any" = true
  fre_min : freeB K "min" = true
  fre_repr : freeB K "repr" = true
  con_LONGEST_NAME : conChk K "LONGEST_NAME" (.int 8) = true
  con_LETTERS : conChk K "LETTERS" (.str "abcdefghijklmnopqrstuvwxyz") = true
  con_SIGNS : conChk K "SIGNS" (.str "abcdefghijklmnopqrstuvwxyz0123456789") = true
  con_GREATEST : conChk K "GREATEST" (.int 1000000) = true
  con_MOST_STUFFS : conChk K "MOST_STUFFS" (.int 8) = true
  con_MOST_RECIPES : conChk K "MOST_RECIPES" (.int 8) = true
  bi_gcd : biChk K "gcd" "math.gcd" = true
  bi_lcm : biChk K "lcm" "math.lcm" = true
  kqt : kqChk K kqTab = true
  exm_MillError_InvalidList : isO (PySem.W.exmOne K (.ref (ga K "InvalidList")) (.ref (ga K "MillError"))) (some true) = true
  exm_MillError_InvalidItem : isO (PySem.W.exmOne K (.ref (ga K "InvalidItem")) (.ref (ga K "MillError"))) (some true) = true
  exm_MillError_InvalidMill : isO (PySem.W.exmOne K (.ref (ga K "InvalidMill")) (.ref (ga K "MillError"))) (some true) = true
  exm_MillError_InvalidHoldings : isO (PySem.W.exmOne K (.ref (ga K "InvalidHoldings")) (.ref (ga K "MillError"))) (some true) = true
  exm_MillError_InvalidRow : isO (PySem.W.exmOne K (.ref (ga K "InvalidRow")) (.ref (ga K "MillError"))) (some true) = true
theorem cks {K : PySem.W.Frag} (c : ck K = true) : Ck K := by
  obtain ⟨g0, c⟩ := ba c
  have g1 := c
  obtain ⟨h0, g0⟩ := ba g0
  obtain ⟨h1, g0⟩ := ba g0
  obtain ⟨h2, g0⟩ := ba g0
  obtain ⟨h3, g0⟩ := ba g0
  obtain ⟨h4, g0⟩ := ba g0
  obtain ⟨h5, g0⟩ := ba g0
  obtain ⟨h6, g0⟩ := ba g0
  obtain ⟨h7, g0⟩ := ba g0
  obtain ⟨h8, g0⟩ := ba g0
  obtain ⟨h9, g0⟩ := ba g0
  have h10 := g0
  obtain ⟨h11, g1⟩ := ba g1
  obtain ⟨h12, g1⟩ := ba g1
  obtain ⟨h13, g1⟩ := ba g1
  obtain ⟨h14, g1⟩ := ba g1
  obtain ⟨h15, g1⟩ := ba g1
  obtain ⟨h16, g1⟩ := ba g1
  obtain ⟨h17, g1⟩ := ba g1
  obtain ⟨h18, g1⟩ := ba g1
  obtain ⟨h19, g1⟩ := ba g1
  obtain ⟨h20, g1⟩ := ba g1
  have h21 := g1
  obtain ⟨q0_0, h0⟩ := ba h0
  obtain ⟨q0_1, h0⟩ := ba h0
  obtain ⟨q0_2, h0⟩ := ba h0
  obtain ⟨q0_3, h0⟩ := ba h0
  obtain ⟨q0_4, h0⟩ := ba h0
  obtain ⟨q0_5, h0⟩ := ba h0
  obtain ⟨q0_6, h0⟩ := ba h0
  have q0_7 := h0
  obtain ⟨q1_0, h1⟩ := ba h1
  obtain ⟨q1_1, h1⟩ := ba h1
  obtain ⟨q1_2, h1⟩ := ba h1
  obtain ⟨q1_3, h1⟩ := ba h1
  obtain ⟨q1_4, h1⟩ := ba h1
  obtain ⟨q1_5, h1⟩ := ba h1
  obtain ⟨q1_6, h1⟩ := ba h1
  have q1_7 := h1
  obtain ⟨q2_0, h2⟩ := ba h2
  obtain ⟨q2_1, h2⟩ := ba h2
  obtain ⟨q2_2, h2⟩ := ba h2
  obtain ⟨q2_3, h2⟩ := ba h2
  obtain ⟨q2_4, h2⟩ := ba h2
  obtain ⟨q2_5, h2⟩ := ba h2
  obtain ⟨q2_6, h2⟩ := ba h2
  have q2_7 := h2
  obtain ⟨q3_0, h3⟩ := ba h3
  obtain ⟨q3_1, h3⟩ := ba h3
  obtain ⟨q3_2, h3⟩ := ba h3
  obtain ⟨q3_3, h3⟩ := ba h3
  obtain ⟨q3_4, h3⟩ := ba h3
  obtain ⟨q3_5, h3⟩ := ba h3
  obtain ⟨q3_6, h3⟩ := ba h3
  have q3_7 := h3
  obtain ⟨q4_0, h4⟩ := ba h4
  obtain ⟨q4_1, h4⟩ := ba h4
  obtain ⟨q4_2, h4⟩ := ba h4
  obtain ⟨q4_3, h4⟩ := ba h4
  obtain ⟨q4_4, h4⟩ := ba h4
  obtain ⟨q4_5, h4⟩ := ba h4
  obtain ⟨q4_6, h4⟩ := ba h4
  have q4_7 := h4
  obtain ⟨q5_0, h5⟩ := ba h5
  obtain ⟨q5_1, h5⟩ := ba h5
  obtain ⟨q5_2, h5⟩ := ba h5
  obtain ⟨q5_3, h5⟩ := ba h5
  obtain ⟨q5_4, h5⟩ := ba h5
  obtain ⟨q5_5, h5⟩ := ba h5
  obtain ⟨q5_6, h5⟩ := ba h5
  have q5_7 := h5
  obtain ⟨q6_0, h6⟩ := ba h6
  obtain ⟨q6_1, h6⟩ := ba h6
  obtain ⟨q6_2, h6⟩ := ba h6
  obtain ⟨q6_3, h6⟩ := ba h6
  obtain ⟨q6_4, h6⟩ := ba h6
  obtain ⟨q6_5, h6⟩ := ba h6
  obtain ⟨q6_6, h6⟩ := ba h6
  have q6_7 := h6
  obtain ⟨q7_0, h7⟩ := ba h7
  obtain ⟨q7_1, h7⟩ := ba h7
  obtain ⟨q7_2, h7⟩ := ba h7
  obtain ⟨q7_3, h7⟩ := ba h7
  obtain ⟨q7_4, h7⟩ := ba h7
  obtain ⟨q7_5, h7⟩ := ba h7
  obtain ⟨q7_6, h7⟩ := ba h7
  have q7_7 := h7
  obtain ⟨q8_0, h8⟩ := ba h8
  obtain ⟨q8_1, h8⟩ := ba h8
  obtain ⟨q8_2, h8⟩ := ba h8
  obtain ⟨q8_3, h8⟩ := ba h8
  obtain ⟨q8_4, h8⟩ := ba h8
  obtain ⟨q8_5, h8⟩ := ba h8
  obtain ⟨q8_6, h8⟩ := ba h8
  have q8_7 := h8
  obtain ⟨q9_0, h9⟩ := ba h9
  obtain ⟨q9_1, h9⟩ := ba h9
  obtain ⟨q9_2, h9⟩ := ba h9
  obtain ⟨q9_3, h9⟩ := ba h9
  obtain ⟨q9_4, h9⟩ := ba h9
  obtain ⟨q9_5, h9⟩ := ba h9
  obtain ⟨q9_6, h9⟩ := ba h9
  have q9_7 := h9
  obtain ⟨q10_0, h10⟩ := ba h10
  obtain ⟨q10_1, h10⟩ := ba h10
  obtain ⟨q10_2, h10⟩ := ba h10
  obtain ⟨q10_3, h10⟩ := ba h10
  obtain ⟨q10_4, h10⟩ := ba h10
  obtain ⟨q10_5, h10⟩ := ba h10
  obtain ⟨q10_6, h10⟩ := ba h10
  have q10_7 := h10
  obtain ⟨q11_0, h11⟩ := ba h11
  obtain ⟨q11_1, h11⟩ := ba h11
  obtain ⟨q11_2, h11⟩ := ba h11
  obtain ⟨q11_3, h11⟩ := ba h11
  obtain ⟨q11_4, h11⟩ := ba h11
  obtain ⟨q11_5, h11⟩ := ba h11
  obtain ⟨q11_6, h11⟩ := ba h11
  have q11_7 := h11
  obtain ⟨q12_0, h12⟩ := ba h12
  obtain ⟨q12_1, h12⟩ := ba h12
  obtain ⟨q12_2, h12⟩ := ba h12
  obtain ⟨q12_3, h12⟩ := ba h12
  obtain ⟨q12_4, h12⟩ := ba h12
  obtain ⟨q12_5, h12⟩ := ba h12
  obtain ⟨q12_6, h12⟩ := ba h12
  have q12_7 := h12
  obtain ⟨q13_0, h13⟩ := ba h13
  obtain ⟨q13_1, h13⟩ := ba h13
  obtain ⟨q13_2, h13⟩ := ba h13
  obtain ⟨q13_3, h13⟩ := ba h13
  obtain ⟨q13_4, h13⟩ := ba h13
  obtain ⟨q13_5, h13⟩ := ba h13
  obtain ⟨q13_6, h13⟩ := ba h13
  have q13_7 := h13
  obtain ⟨q14_0, h14⟩ := ba h14
  obtain ⟨q14_1, h14⟩ := ba h14
  obtain ⟨q14_2, h14⟩ := ba h14
  obtain ⟨q14_3, h14⟩ := ba h14
  obtain ⟨q14_4, h14⟩ := ba h14
  obtain ⟨q14_5, h14⟩ := ba h14
  obtain ⟨q14_6, h14⟩ := ba h14
  have q14_7 := h14
  obtain ⟨q15_0, h15⟩ := ba h15
  obtain ⟨q15_1, h15⟩ := ba h15
  obtain ⟨q15_2, h15⟩ := ba h15
  obtain ⟨q15_3, h15⟩ := ba h15
  obtain ⟨q15_4, h15⟩ := ba h15
  obtain ⟨q15_5, h15⟩ := ba h15
  obtain ⟨q15_6, h15⟩ := ba h15
  have q15_7 := h15
  obtain ⟨q16_0, h16⟩ := ba h16
  obtain ⟨q16_1, h16⟩ := ba h16
  obtain ⟨q16_2, h16⟩ := ba h16
  obtain ⟨q16_3, h16⟩ := ba h16
  obtain ⟨q16_4, h16⟩ := ba h16
  obtain ⟨q16_5, h16⟩ := ba h16
  obtain ⟨q16_6, h16⟩ := ba h16
  have q16_7 := h16
  obtain ⟨q17_0, h17⟩ := ba h17
  obtain ⟨q17_1, h17⟩ := ba h17
  obtain ⟨q17_2, h17⟩ := ba h17
  obtain ⟨q17_3, h17⟩ := ba h17
  obtain ⟨q17_4, h17⟩ := ba h17
  obtain ⟨q17_5, h17⟩ := ba h17
  obtain ⟨q17_6, h17⟩ := ba h17
  have q17_7 := h17
  obtain ⟨q18_0, h18⟩ := ba h18
  obtain ⟨q18_1, h18⟩ := ba h18
  obtain ⟨q18_2, h18⟩ := ba h18
  obtain ⟨q18_3, h18⟩ := ba h18
  obtain ⟨q18_4, h18⟩ := ba h18
  obtain ⟨q18_5, h18⟩ := ba h18
  obtain ⟨q18_6, h18⟩ := ba h18
  have q18_7 := h18
  obtain ⟨q19_0, h19⟩ := ba h19
  obtain ⟨q19_1, h19⟩ := ba h19
  obtain ⟨q19_2, h19⟩ := ba h19
  obtain ⟨q19_3, h19⟩ := ba h19
  obtain ⟨q19_4, h19⟩ := ba h19
  obtain ⟨q19_5, h19⟩ := ba h19
  obtain ⟨q19_6, h19⟩ := ba h19
  have q19_7 := h19
  obtain ⟨q20_0, h20⟩ := ba h20
  obtain ⟨q20_1, h20⟩ := ba h20
  obtain ⟨q20_2, h20⟩ := ba h20
  obtain ⟨q20_3, h20⟩ := ba h20
  obtain ⟨q20_4, h20⟩ := ba h20
  obtain ⟨q20_5, h20⟩ := ba h20
  obtain ⟨q20_6, h20⟩ := ba h20
  have q20_7 := h20
  obtain ⟨q21_0, h21⟩ := ba h21
  obtain ⟨q21_1, h21⟩ := ba h21
  obtain ⟨q21_2, h21⟩ := ba h21
  have q21_3 := h21
  exact ⟨q0_0, q0_1, q0_2, q0_3, q0_4, q0_5, q0_6, q0_7, q1_0, q1_1, q1_2, q1_3, q1_4, q1_5, q1_6, q1_7, q2_0, q2_1, q2_2, q2_3, q2_4, q2_5, q2_6, q2_7, q3_0, q3_1, q3_2, q3_3, q3_4, q3_5, q3_6, q3_7, q4_0, q4_1, q4_2, q4_3, q4_4, q4_5, q4_6, q4_7, q5_0, q5_1, q5_2, q5_3, q5_4, q5_5, q5_6, q5_7, q6_0, q6_1, q6_2, q6_3, q6_4, q6_5, q6_6, q6_7, q7_0, q7_1, q7_2, q7_3, q7_4, q7_5, q7_6, q7_7, q8_0, q8_1, q8_2, q8_3, q8_4, q8_5, q8_6, q8_7, q9_0, q9_1, q9_2, q9_3, q9_4, q9_5, q9_6, q9_7, q10_0, q10_1, q10_2, q10_3, q10_4, q10_5, q10_6, q10_7, q11_0, q11_1, q11_2, q11_3, q11_4, q11_5, q11_6, q11_7, q12_0, q12_1, q12_2, q12_3, q12_4, q12_5, q12_6, q12_7, q13_0, q13_1, q13_2, q13_3, q13_4, q13_5, q13_6, q13_7, q14_0, q14_1, q14_2, q14_3, q14_4, q14_5, q14_6, q14_7, q15_0, q15_1, q15_2, q15_3, q15_4, q15_5, q15_6, q15_7, q16_0, q16_1, q16_2, q16_3, q16_4, q16_5, q16_6, q16_7, q17_0, q17_1, q17_2, q17_3, q17_4, q17_5, q17_6, q17_7, q18_0, q18_1, q18_2, q18_3, q18_4, q18_5, q18_6, q18_7, q19_0, q19_1, q19_2, q19_3, q19_4, q19_5, q19_6, q19_7, q20_0, q20_1, q20_2, q20_3, q20_4, q20_5, q20_6, q20_7, q21_0, q21_1, q21_2, q21_3⟩
section
variable {K : PySem.W.Frag}
theorem ocls (C : Ck K) (c : Str) (h : oc c = true) : Cls K (ga K c) ∧ PySem.W.findIn K (.ref (ga K c)) "__class__" = some (some (.builtin "object.__class__")) ∧ PySem.W.mroIn K (ga K c) (.type "object") = some true := by
  unfold oc at h
  simp only [Bool.or_eq_true, beq_iff_eq, or_assoc] at h
  rcases h with rfl | rfl | rfl
  · exact clsChk_ok C.cls_Trip
  · exact clsChk_ok C.cls_Mill
  · exact clsChk_ok C.cls_Tables
theorem xcls (C : Ck K) (c : Str) (h : xc c = true) : XCls K (ga K c) := by
  unfold xc at h
  simp only [Bool.or_eq_true, beq_iff_eq, or_assoc] at h
  rcases h with rfl | rfl | rfl | rfl | rfl
  · exact xclsB_ok C.xcl_InvalidList
  · exact xclsB_ok C.xcl_InvalidItem
  · exact xclsB_ok C.xcl_InvalidMill
  · exact xclsB_ok C.xcl_InvalidHoldings
  · exact xclsB_ok C.xcl_InvalidRow
theorem xfl_value (C : Ck K) (c : Str) (h : xc c = true) : XCls K (ga K c) ∧ PySem.W.findIn K (.ref (ga K c)) "value" = some none := ⟨xcls C c h, (by
  unfold xc at h
  simp only [Bool.or_eq_true, beq_iff_eq, or_assoc] at h
  rcases h with rfl | rfl | rfl | rfl | rfl
  · exact ooN_ok C.xfl_value_InvalidList
  · exact ooN_ok C.xfl_value_InvalidItem
  · exact ooN_ok C.xfl_value_InvalidMill
  · exact ooN_ok C.xfl_value_InvalidHoldings
  · exact ooN_ok C.xfl_value_InvalidRow)⟩
theorem att__recipes (C : Ck K) (c : Str) (h : oA__recipes c = true) : Cls K (ga K c) ∧ NoAttr K (ga K c) "_recipes" := by
  unfold oA__recipes at h
  simp only [Bool.or_eq_true, beq_iff_eq, or_assoc] at h
  rcases h with rfl | rfl | rfl
  · exact ⟨(clsChk_ok C.cls_Trip).1, noChk_ok C.at__recipes_Trip⟩
  · exact ⟨(clsChk_ok C.cls_Mill).1, noChk_ok C.at__recipes_Mill⟩
  · exact ⟨(clsChk_ok C.cls_Tables).1, noChk_ok C.at__recipes_Tables⟩
theorem att__stuffs (C : Ck K) (c : Str) (h : oA__stuffs c = true) : Cls K (ga K c) ∧ NoAttr K (ga K c) "_stuffs" := by
  unfold oA__stuffs at h
  simp only [Bool.or_eq_true, beq_iff_eq, or_assoc] at h
  rcases h with rfl | rfl | rfl
  · exact ⟨(clsChk_ok C.cls_Trip).1, noChk_ok C.at__stuffs_Trip⟩
  · exact ⟨(clsChk_ok C.cls_Mill).1, noChk_ok C.at__stuffs_Mill⟩
  · exact ⟨(clsChk_ok C.cls_Tables).1, noChk_ok C.at__stuffs_Tables⟩
theorem att_gives (C : Ck K) (c : Str) (h : oA_gives c = true) : Cls K (ga K c) ∧ NoAttr K (ga K c) "gives" := by
  unfold oA_gives at h
  simp only [Bool.or_eq_true, beq_iff_eq, or_assoc] at h
  rcases h with rfl | rfl | rfl
  · exact ⟨(clsChk_ok C.cls_Trip).1, noChk_ok C.at_gives_Trip⟩
  · exact ⟨(clsChk_ok C.cls_Mill).1, noChk_ok C.at_gives_Mill⟩
  · exact ⟨(clsChk_ok C.cls_Tables).1, noChk_ok C.at_gives_Tables⟩
theorem att_nets (C : Ck K) (c : Str) (h : oA_nets c = true) : Cls K (ga K c) ∧ NoAttr K (ga K c) "nets" := by
  unfold oA_nets at h
  simp only [Bool.or_eq_true, beq_iff_eq, or_assoc] at h
  rcases h with rfl | rfl | rfl
  · exact ⟨(clsChk_ok C.cls_Trip).1, noChk_ok C.at_nets_Trip⟩
  · exact ⟨(clsChk_ok C.cls_Mill).1, noChk_ok C.at_nets_Mill⟩
  · exact ⟨(clsChk_ok C.cls_Tables).1, noChk_ok C.at_nets_Tables⟩
theorem att_now (C : Ck K) (c : Str) (h : oA_now c = true) : Cls K (ga K c) ∧ NoAttr K (ga K c) "now" := by
  unfold oA_now at h
  simp only [Bool.or_eq_true, beq_iff_eq, or_assoc] at h
  rcases h with rfl | rfl | rfl
  · exact ⟨(clsChk_ok C.cls_Trip).1, noChk_ok C.at_now_Trip⟩
  · exact ⟨(clsChk_ok C.cls_Mill).1, noChk_ok C.at_now_Mill⟩
  · exact ⟨(clsChk_ok C.cls_Tables).1, noChk_ok C.at_now_Tables⟩
theorem att_recipe_names (C : Ck K) (c : Str) (h : oA_recipe_names c = true) : Cls K (ga K c) ∧ NoAttr K (ga K c) "recipe_names" := by
  unfold oA_recipe_names at h
  simp only [Bool.or_eq_true, beq_iff_eq, or_assoc] at h
  rcases h with rfl | rfl | rfl
  · exact ⟨(clsChk_ok C.cls_Trip).1, noChk_ok C.at_recipe_names_Trip⟩
  · exact ⟨(clsChk_ok C.cls_Mill).1, noChk_ok C.at_recipe_names_Mill⟩
  · exact ⟨(clsChk_ok C.cls_Tables).1, noChk_ok C.at_recipe_names_Tables⟩
theorem att_rooms (C : Ck K) (c : Str) (h : oA_rooms c = true) : Cls K (ga K c) ∧ NoAttr K (ga K c) "rooms" := by
  unfold oA_rooms at h
  simp only [Bool.or_eq_true, beq_iff_eq, or_assoc] at h
  rcases h with rfl | rfl | rfl
  · exact ⟨(clsChk_ok C.cls_Trip).1, noChk_ok C.at_rooms_Trip⟩
  · exact ⟨(clsChk_ok C.cls_Mill).1, noChk_ok C.at_rooms_Mill⟩
  · exact ⟨(clsChk_ok C.cls_Tables).1, noChk_ok C.at_rooms_Tables⟩
theorem att_seen (C : Ck K) (c : Str) (h : oA_seen c = true) : Cls K (ga K c) ∧ NoAttr K (ga K c) "seen" := by
  unfold oA_seen at h
  simp only [Bool.or_eq_true, beq_iff_eq, or_assoc] at h
  rcases h with rfl | rfl | rfl
  · exact ⟨(clsChk_ok C.cls_Trip).1, noChk_ok C.at_seen_Trip⟩
  · exact ⟨(clsChk_ok C.cls_Mill).1, noChk_ok C.at_seen_Mill⟩
  · exact ⟨(clsChk_ok C.cls_Tables).1, noChk_ok C.at_seen_Tables⟩
theorem att_start (C : Ck K) (c : Str) (h : oA_start c = true) : Cls K (ga K c) ∧ NoAttr K (ga K c) "start" := by
  unfold oA_start at h
  simp only [Bool.or_eq_true, beq_iff_eq, or_assoc] at h
  rcases h with rfl | rfl | rfl
  · exact ⟨(clsChk_ok C.cls_Trip).1, noChk_ok C.at_start_Trip⟩
  · exact ⟨(clsChk_ok C.cls_Mill).1, noChk_ok C.at_start_Mill⟩
  · exact ⟨(clsChk_ok C.cls_Tables).1, noChk_ok C.at_start_Tables⟩
theorem att_stuff_names (C : Ck K) (c : Str) (h : oA_stuff_names c = true) : Cls K (ga K c) ∧ NoAttr K (ga K c) "stuff_names" := by
  unfold oA_stuff_names at h
  simp only [Bool.or_eq_true, beq_iff_eq, or_assoc] at h
  rcases h with rfl | rfl | rfl
  · exact ⟨(clsChk_ok C.cls_Trip).1, noChk_ok C.at_stuff_names_Trip⟩
  · exact ⟨(clsChk_ok C.cls_Mill).1, noChk_ok C.at_stuff_names_Mill⟩
  · exact ⟨(clsChk_ok C.cls_Tables).1, noChk_ok C.at_stuff_names_Tables⟩
theorem att_tables (C : Ck K) (c : Str) (h : oA_tables c = true) : Cls K (ga K c) ∧ NoAttr K (ga K c) "tables" := by
  unfold oA_tables at h
  simp only [Bool.or_eq_true, beq_iff_eq, or_assoc] at h
  rcases h with rfl | rfl | rfl
  · exact ⟨(clsChk_ok C.cls_Trip).1, noChk_ok C.at_tables_Trip⟩
  · exact ⟨(clsChk_ok C.cls_Mill).1, noChk_ok C.at_tables_Mill⟩
  · exact ⟨(clsChk_ok C.cls_Tables).1, noChk_ok C.at_tables_Tables⟩
theorem att_takes (C : Ck K) (c : Str) (h : oA_takes c = true) : Cls K (ga K c) ∧ NoAttr K (ga K c) "takes" := by
  unfold oA_takes at h
  simp only [Bool.or_eq_true, beq_iff_eq, or_assoc] at h
  rcases h with rfl | rfl | rfl
  · exact ⟨(clsChk_ok C.cls_Trip).1, noChk_ok C.at_takes_Trip⟩
  · exact ⟨(clsChk_ok C.cls_Mill).1, noChk_ok C.at_takes_Mill⟩
  · exact ⟨(clsChk_ok C.cls_Tables).1, noChk_ok C.at_takes_Tables⟩
theorem att_under (C : Ck K) (c : Str) (h : oA_under c = true) : Cls K (ga K c) ∧ NoAttr K (ga K c) "under" := by
  unfold oA_under at h
  simp only [Bool.or_eq_true, beq_iff_eq, or_assoc] at h
  rcases h with rfl | rfl | rfl
  · exact ⟨(clsChk_ok C.cls_Trip).1, noChk_ok C.at_under_Trip⟩
  · exact ⟨(clsChk_ok C.cls_Mill).1, noChk_ok C.at_under_Mill⟩
  · exact ⟨(clsChk_ok C.cls_Tables).1, noChk_ok C.at_under_Tables⟩
theorem exm_MillError (C : Ck K) (c : Str) (b : Bool) (e : mt_MillError c = some b) : PySem.W.exmOne K (.ref (ga K c)) (.ref (ga K "MillError")) = some b := by
  unfold mt_MillError at e
  split at e
  · rename_i h
    cases e
    unfold xc at h
    simp only [Bool.or_eq_true, beq_iff_eq, or_assoc] at h
    rcases h with rfl | rfl | rfl | rfl | rfl
    · exact isO_ok C.exm_MillError_InvalidList
    · exact isO_ok C.exm_MillError_InvalidItem
    · exact isO_ok C.exm_MillError_InvalidMill
    · exact isO_ok C.exm_MillError_InvalidHoldings
    · exact isO_ok C.exm_MillError_InvalidRow
  · cases e
theorem isk (C : Ck K) : IsK K oc xc kq := ⟨xallB_ok C.xall, kqChk_ok C.kqt, ocls C, xcls C⟩
end
structure Pre (w : World) (K : PySem.W.Frag) (mg : Str → Option Value) (base h : Heap) : Prop where
  X : K.In h
  G : h.Ns mainGlobals mg
  C : Ck K
  S : SaysD [] fn K
section
variable {P : Program} {w : World} {K : PySem.W.Frag} {mg : Str → Option Value} {base h : Heap}
theorem zz_f_len (Z : Pre w K mg base h) : mg "len" = none := freeB_ok Z.X Z.G Z.C.fre_len
theorem zz_f_int (Z : Pre w K mg base h) : mg "int" = none := freeB_ok Z.X Z.G Z.C.fre_int
theorem zz_f_max (Z : Pre w K mg base h) : mg "max" = none := freeB_ok Z.X Z.G Z.C.fre_max
theorem zz_f_range (Z : Pre w K mg base h) : mg "range" = none := freeB_ok Z.X Z.G Z.C.fre_range
theorem zz_f_abs (Z : Pre w K mg base h) : mg "abs" = none := freeB_ok Z.X Z.G Z.C.fre_abs
theorem zz_f_list (Z : Pre w K mg base h) : mg "list" = none := freeB_ok Z.X Z.G Z.C.fre_list
theorem zz_f_isinstance (Z : Pre w K mg base h) : mg "isinstance" = none := freeB_ok Z.X Z.G Z.C.fre_isinstance
theorem zz_f_tuple (Z : Pre w K mg base h) : mg "tuple" = none := freeB_ok Z.X Z.G Z.C.fre_tuple
theorem zz_f_str (Z : Pre w K mg base h) : mg "str" = none := freeB_ok Z.X Z.G Z.C.fre_str
theorem zz_f_all (Z : Pre w K mg base h) : mg "all" = none := freeB_ok Z.X Z.G Z.C.fre_all
theorem zz_f_bool (Z : Pre w K mg base h) : mg "bool" = none := freeB_ok Z.X Z.G Z.C.fre_bool
theorem zz_f_zip (Z : Pre w K mg base h) : mg "zip" = none := freeB_ok Z.X Z.G Z.C.fre_zip
theorem zz_f_any (Z : Pre w K mg base h) : mg "any" = none := freeB_ok Z.X Z.G Z.C.fre_any
theorem zz_f_min (Z : Pre w K mg base h) : mg "min" = none := freeB_ok Z.X Z.G Z.C.fre_min
theorem zz_f_repr (Z : Pre w K mg base h) : mg "repr" = none := freeB_ok Z.X Z.G Z.C.fre_repr
theorem zz_i_gcd (Z : Pre w K mg base h) : mg "gcd" = some (.builtin "math.gcd") := biChk_ok Z.X Z.G Z.C.bi_gcd
theorem zz_i_lcm (Z : Pre w K mg base h) : mg "lcm" = some (.builtin "math.lcm") := biChk_ok Z.X Z.G Z.C.bi_lcm
theorem zz_c_LONGEST_NAME (Z : Pre w K mg base h) : ∃ u, mg "LONGEST_NAME" = some u ∧ RelV (.int 8) u := conChk_ok Z.X Z.G Z.C.con_LONGEST_NAME
theorem zz_c_LETTERS (Z : Pre w K mg base h) : ∃ u, mg "LETTERS" = some u ∧ RelV (.str "abcdefghijklmnopqrstuvwxyz") u := conChk_ok Z.X Z.G Z.C.con_LETTERS
theorem zz_c_SIGNS (Z : Pre w K mg base h) : ∃ u, mg "SIGNS" = some u ∧ RelV (.str "abcdefghijklmnopqrstuvwxyz0123456789") u := conChk_ok Z.X Z.G Z.C.con_SIGNS
theorem zz_c_GREATEST (Z : Pre w K mg base h) : ∃ u, mg "GREATEST" = some u ∧ RelV (.int 1000000) u := conChk_ok Z.X Z.G Z.C.con_GREATEST
theorem zz_c_MOST_STUFFS (Z : Pre w K mg base h) : ∃ u, mg "MOST_STUFFS" = some u ∧ RelV (.int 8) u := conChk_ok Z.X Z.G Z.C.con_MOST_STUFFS
theorem zz_c_MOST_RECIPES (Z : Pre w K mg base h) : ∃ u, mg "MOST_RECIPES" = some u ∧ RelV (.int 8) u := conChk_ok Z.X Z.G Z.C.con_MOST_RECIPES
theorem zz_g_Mill (Z : Pre w K mg base h) : mg "Mill" = some (.ref (He.ga K "Mill")) := gloB_ok Z.X Z.G Z.C.glo_Mill
theorem zz_g_MillError (Z : Pre w K mg base h) : mg "MillError" = some (.ref (He.ga K "MillError")) := gloB_ok Z.X Z.G Z.C.glo_MillError
theorem zz_g_InvalidRow (Z : Pre w K mg base h) : mg "InvalidRow" = some (.ref (He.ga K "InvalidRow")) := gloB_ok Z.X Z.G Z.C.glo_InvalidRow
theorem zz_g_InvalidHoldings (Z : Pre w K mg base h) : mg "InvalidHoldings" = some (.ref (He.ga K "InvalidHoldings")) := gloB_ok Z.X Z.G Z.C.glo_InvalidHoldings
theorem zz_g_InvalidMill (Z : Pre w K mg base h) : mg "InvalidMill" = some (.ref (He.ga K "InvalidMill")) := gloB_ok Z.X Z.G Z.C.glo_InvalidMill
theorem zz_x_value (Z : Pre w K mg base h) : ∀ c, xc c = true → Xv.XCls K (He.ga K c) ∧ PySem.W.findIn K (.ref (He.ga K c)) "value" = some none := xfl_value Z.C
theorem zz_a__stuffs (Z : Pre w K mg base h) : ∀ c, oA__stuffs c = true → Cls K (He.ga K c) ∧ NoAttr K (He.ga K c) "_stuffs" := att__stuffs Z.C
theorem zz_a__recipes (Z : Pre w K mg base h) : ∀ c, oA__recipes c = true → Cls K (He.ga K c) ∧ NoAttr K (He.ga K c) "_recipes" := att__recipes Z.C
theorem zz_a_stuff_names (Z : Pre w K mg base h) : ∀ c, oA_stuff_names c = true → Cls K (He.ga K c) ∧ NoAttr K (He.ga K c) "stuff_names" := att_stuff_names Z.C
theorem zz_a_rooms (Z : Pre w K mg base h) : ∀ c, oA_rooms c = true → Cls K (He.ga K c) ∧ NoAttr K (He.ga K c) "rooms" := att_rooms Z.C
theorem zz_a_recipe_names (Z : Pre w K mg base h) : ∀ c, oA_recipe_names c = true → Cls K (He.ga K c) ∧ NoAttr K (He.ga K c) "recipe_names" := att_recipe_names Z.C
theorem zz_a_takes (Z : Pre w K mg base h) : ∀ c, oA_takes c = true → Cls K (He.ga K c) ∧ NoAttr K (He.ga K c) "takes" := att_takes Z.C
theorem zz_a_gives (Z : Pre w K mg base h) : ∀ c, oA_gives c = true → Cls K (He.ga K c) ∧ NoAttr K (He.ga K c) "gives" := att_gives Z.C
theorem zz_a_nets (Z : Pre w K mg base h) : ∀ c, oA_nets c = true → Cls K (He.ga K c) ∧ NoAttr K (He.ga K c) "nets" := att_nets Z.C
theorem zz_a_tables (Z : Pre w K mg base h) : ∀ c, oA_tables c = true → Cls K (He.ga K c) ∧ NoAttr K (He.ga K c) "tables" := att_tables Z.C
theorem zz_a_now (Z : Pre w K mg base h) : ∀ c, oA_now c = true → Cls K (He.ga K c) ∧ NoAttr K (He.ga K c) "now" := att_now Z.C
theorem zz_a_seen (Z : Pre w K mg base h) : ∀ c, oA_seen c = true → Cls K (He.ga K c) ∧ NoAttr K (He.ga K c) "seen" := att_seen Z.C
theorem zz_a_under (Z : Pre w K mg base h) : ∀ c, oA_under c = true → Cls K (He.ga K c) ∧ NoAttr K (He.ga K c) "under" := att_under Z.C
theorem zz_a_start (Z : Pre w K mg base h) : ∀ c, oA_start c = true → Cls K (He.ga K c) ∧ NoAttr K (He.ga K c) "start" := att_start Z.C
theorem zz_t_MillError (Z : Pre w K mg base h) : ∀ c b, mt_MillError c = some b → PySem.W.exmOne K (.ref (He.ga K c)) (.ref (He.ga K "MillError")) = some b := exm_MillError Z.C
theorem zz_tis (Z : Pre w K mg base h) : IsK K oc xc kq := isk Z.C
theorem zz_sys (Z : Pre w K mg base h) : Xv.SysK K := sysB_ok Z.C.sys
theorem zz_r_InvalidItem (Z : Pre w K mg base h) : RaiseK P w K mg base "InvalidItem" "value" := by
  obtain ⟨fd, F⟩ := Z.S.def_ 1 (d := D1) rfl
  exact raiseChk_ok Z.X Z.G Z.C.rse_InvalidItem ⟨fd, ini_value (by exact F) (xclsB_ok Z.C.xcl_InvalidItem).ox (ooN_ok Z.C.nof_InvalidItem)⟩
theorem zz_r_InvalidList (Z : Pre w K mg base h) : RaiseK P w K mg base "InvalidList" "value" := by
  obtain ⟨fd, F⟩ := Z.S.def_ 0 (d := D0) rfl
  exact raiseChk_ok Z.X Z.G Z.C.rse_InvalidList ⟨fd, ini_value (by exact F) (xclsB_ok Z.C.xcl_InvalidList).ox (ooN_ok Z.C.nof_InvalidList)⟩
theorem zz_r_InvalidMill (Z : Pre w K mg base h) : RaiseK P w K mg base "InvalidMill" "value" := by
  obtain ⟨fd, F⟩ := Z.S.def_ 2 (d := D2) rfl
  exact raiseChk_ok Z.X Z.G Z.C.rse_InvalidMill ⟨fd, ini_value (by exact F) (xclsB_ok Z.C.xcl_InvalidMill).ox (ooN_ok Z.C.nof_InvalidMill)⟩
theorem zz_r_InvalidHoldings (Z : Pre w K mg base h) : RaiseK P w K mg base "InvalidHoldings" "value" := by
  obtain ⟨fd, F⟩ := Z.S.def_ 3 (d := D3) rfl
  exact raiseChk_ok Z.X Z.G Z.C.rse_InvalidHoldings ⟨fd, ini_value (by exact F) (xclsB_ok Z.C.xcl_InvalidHoldings).ox (ooN_ok Z.C.nof_InvalidHoldings)⟩
theorem zz_r_InvalidRow (Z : Pre w K mg base h) : RaiseK P w K mg base "InvalidRow" "value" := by
  obtain ⟨fd, F⟩ := Z.S.def_ 4 (d := D4) rfl
  exact raiseChk_ok Z.X Z.G Z.C.rse_InvalidRow ⟨fd, ini_value (by exact F) (xclsB_ok Z.C.xcl_InvalidRow).ox (ooN_ok Z.C.nof_InvalidRow)⟩
theorem zz_k_law_cell (Z : Pre w K mg base h) : Cal P w K mg base "_law_cell" 1 2 [] (runF 2 d_law_cell) := by
  obtain ⟨fd, F⟩ := Z.S.def_ 5 (d := D5) rfl
  exact cal_mk (by exact F) (gloB_ok Z.X Z.G Z.C.fun__law_cell) (fnF (N := ["_law_script", "_law_index"]) (ps := ["_law_script", "_law_index"]) (den := d_law_cell) (by exact F) sc_law_cell (b_law_cell (zz_f_len Z))) (fun _ _ _ _ _ _ us hl => match us, hl with | [_, _], _ => rfl) rfl
theorem zz_k_law_generatorB (Z : Pre w K mg base h) : Cal P w K mg base "_law_generator" 2 2 [] (runB 3 d_law_generator) := by
  obtain ⟨fd, F⟩ := Z.S.def_ 6 (d := D6) rfl
  exact cal_mk (by exact F) (gloB_ok Z.X Z.G Z.C.fun__law_generator) (fnR (N := ["_law_script", "_law_index", "_law_seed"]) (ps := ["_law_script", "_law_index"]) (den := d_law_generator) (by exact F) sc_law_generator (b_law_generator (zz_k_law_cell (P := P) Z) (zz_f_int Z) (zz_f_max Z))) (fun _ _ _ _ _ _ us hl => match us, hl with | [_, _], _ => rfl) rfl
theorem zz_k_law_hash (Z : Pre w K mg base h) : Cal P w K mg base "_law_hash" 1 2 [] (runF 3 d_law_hash) := by
  obtain ⟨fd, F⟩ := Z.S.def_ 7 (d := D7) rfl
  exact cal_mk (by exact F) (gloB_ok Z.X Z.G Z.C.fun__law_hash) (fnF (N := ["_law_seed", "_law_index", "_law_mixed"]) (ps := ["_law_seed", "_law_index"]) (den := d_law_hash) (by exact F) sc_law_hash (b_law_hash (zz_f_int Z))) (fun _ _ _ _ _ _ us hl => match us, hl with | [_, _], _ => rfl) rfl
theorem zz_k_law_randomC (Z : Pre w K mg base h) : Cal P w K mg base "_law_random" 2 2 [] (runC 4 d_law_random) := by
  obtain ⟨fd, F⟩ := Z.S.def_ 8 (d := D8) rfl
  exact cal_mk (by exact F) (gloB_ok Z.X Z.G Z.C.fun__law_random) (fnC (N := ["_law_generator_here", "_law_bound", "_law_drawn", "_law_turn"]) (ps := ["_law_generator_here", "_law_bound"]) (den := d_law_random) (by exact F) sc_law_random (b_law_random (zz_f_int Z) (zz_f_range Z) (zz_k_law_hash (P := P) Z))) (fun _ _ _ _ _ _ us hl => match us, hl with | [_, _], _ => rfl) rfl
theorem zz_k_law_parts_drawnC (Z : Pre w K mg base h) : Cal P w K mg base "_law_parts_drawn" 3 3 [] (runC 6 d_law_parts_drawn) := by
  obtain ⟨fd, F⟩ := Z.S.def_ 9 (d := D9) rfl
  exact cal_mk (by exact F) (gloB_ok Z.X Z.G Z.C.fun__law_parts_drawn) (fnC (N := ["_law_generator_here", "_law_tanks", "_law_most", "_law_found", "_law_name", "_law_number"]) (ps := ["_law_generator_here", "_law_tanks", "_law_most"]) (den := d_law_parts_drawn) (by exact F) sc_law_parts_drawn (b_law_parts_drawn (zz_k_law_randomC (P := P) Z) (zz_f_len Z))) (fun _ _ _ _ _ _ us hl => match us, hl with | [_, _, _], _ => rfl) rfl
theorem zz_k_law_mill_drawnC (Z : Pre w K mg base h) : Cal P w K mg base "_law_mill_drawn" 4 3 [] (runC 12 d_law_mill_drawn) := by
  obtain ⟨fd, F⟩ := Z.S.def_ 10 (d := D10) rfl
  exact cal_mk (by exact F) (gloB_ok Z.X Z.G Z.C.fun__law_mill_drawn) (fnC (N := ["_law_generator_here", "_law_wide", "_law_many", "_law_rooms", "_law_at", "_law_tanks", "_law_names", "_law_deeds", "_law_name", "_law_room", "_law_takes", "_law_gives"]) (ps := ["_law_generator_here", "_law_wide", "_law_many"]) (den := d_law_mill_drawn) (by exact F) sc_law_mill_drawn (b_law_mill_drawn (zz_f_range Z) (zz_k_law_randomC (P := P) Z) (zz_k_law_parts_drawnC (P := P) Z))) (fun _ _ _ _ _ _ us hl => match us, hl with | [_, _, _], _ => rfl) rfl
theorem zz_k_law_common (Z : Pre w K mg base h) : Cal P w K mg base "_law_common" 1 2 [] (runF 2 d_law_common) := by
  obtain ⟨fd, F⟩ := Z.S.def_ 11 (d := D11) rfl
  exact cal_mk (by exact F) (gloB_ok Z.X Z.G Z.C.fun__law_common) (fnF (N := ["_law_one", "_law_other"]) (ps := ["_law_one", "_law_other"]) (den := d_law_common) (by exact F) sc_law_common b_law_common) (fun _ _ _ _ _ _ us hl => match us, hl with | [_, _], _ => rfl) rfl
theorem zz_k_law_part (Z : Pre w K mg base h) : Cal P w K mg base "_law_part" 2 2 [] (runF 3 d_law_part) := by
  obtain ⟨fd, F⟩ := Z.S.def_ 12 (d := D12) rfl
  exact cal_mk (by exact F) (gloB_ok Z.X Z.G Z.C.fun__law_part) (fnF (N := ["_law_over", "_law_under", "_law_common_here"]) (ps := ["_law_over", "_law_under"]) (den := d_law_part) (by exact F) sc_law_part (b_law_part (zz_f_abs Z) (zz_k_law_common (P := P) Z))) (fun _ _ _ _ _ _ us hl => match us, hl with | [_, _], _ => rfl) rfl
theorem zz_k_law_amount_drawnC (Z : Pre w K mg base h) : Cal P w K mg base "_law_amount_drawn" 3 2 [] (runC 2 d_law_amount_drawn) := by
  obtain ⟨fd, F⟩ := Z.S.def_ 13 (d := D13) rfl
  exact cal_mk (by exact F) (gloB_ok Z.X Z.G Z.C.fun__law_amount_drawn) (fnC (N := ["_law_generator_here", "_law_most"]) (ps := ["_law_generator_here", "_law_most"]) (den := d_law_amount_drawn) (by exact F) sc_law_amount_drawn (b_law_amount_drawn (zz_k_law_randomC (P := P) Z) (zz_k_law_part (P := P) Z))) (fun _ _ _ _ _ _ us hl => match us, hl with | [_, _], _ => rfl) rfl
theorem zz_k_law_less (Z : Pre w K mg base h) : Cal P w K mg base "_law_less" 1 2 [] (runF 2 d_law_less) := by
  obtain ⟨fd, F⟩ := Z.S.def_ 14 (d := D14) rfl
  exact cal_mk (by exact F) (gloB_ok Z.X Z.G Z.C.fun__law_less) (fnF (N := ["_law_one", "_law_other"]) (ps := ["_law_one", "_law_other"]) (den := d_law_less) (by exact F) sc_law_less b_law_less) (fun _ _ _ _ _ _ us hl => match us, hl with | [_, _], _ => rfl) rfl
theorem zz_k_law_held_drawnC (Z : Pre w K mg base h) : Cal P w K mg base "_law_held_drawn" 4 2 [] (runC 6 d_law_held_drawn) := by
  obtain ⟨fd, F⟩ := Z.S.def_ 15 (d := D15) rfl
  exact cal_mk (by exact F) (gloB_ok Z.X Z.G Z.C.fun__law_held_drawn) (fnC (N := ["_law_generator_here", "_law_tanks", "_law_found", "_law_name", "_law_room", "_law_amount"]) (ps := ["_law_generator_here", "_law_tanks"]) (den := d_law_held_drawn) (by exact F) sc_law_held_drawn (b_law_held_drawn (zz_k_law_amount_drawnC (P := P) Z) (zz_k_law_randomC (P := P) Z) (zz_k_law_less (P := P) Z))) (fun _ _ _ _ _ _ us hl => match us, hl with | [_, _], _ => rfl) rfl
theorem zz_k_is_list_within (Z : Pre w K mg base h) : Cal P w K mg base "is_list_within" 1 3 [] (runF 3 d_is_list_within) := by
  obtain ⟨fd, F⟩ := Z.S.def_ 16 (d := D16) rfl
  exact cal_mk (by exact F) (gloB_ok Z.X Z.G Z.C.fun_is_list_within) (fnF (N := ["value", "least", "most"]) (ps := ["value", "least", "most"]) (den := d_is_list_within) (by exact F) sc_is_list_within (b_is_list_within (zz_f_list Z) (zz_f_isinstance Z) (zz_tis Z) (zz_f_len Z))) (fun _ _ _ _ _ _ us hl => match us, hl with | [_, _, _], _ => rfl) rfl
theorem zz_k_is_tuple_of (Z : Pre w K mg base h) : Cal P w K mg base "is_tuple_of" 1 2 [] (runF 2 d_is_tuple_of) := by
  obtain ⟨fd, F⟩ := Z.S.def_ 17 (d := D17) rfl
  exact cal_mk (by exact F) (gloB_ok Z.X Z.G Z.C.fun_is_tuple_of) (fnF (N := ["value", "length"]) (ps := ["value", "length"]) (den := d_is_tuple_of) (by exact F) sc_is_tuple_of (b_is_tuple_of (zz_f_tuple Z) (zz_f_isinstance Z) (zz_tis Z) (zz_f_len Z))) (fun _ _ _ _ _ _ us hl => match us, hl with | [_, _], _ => rfl) rfl
theorem zz_k_is_name (Z : Pre w K mg base h) : Cal P w K mg base "is_name" 1 1 [] (runF 2 d_is_name) := by
  obtain ⟨fd, F⟩ := Z.S.def_ 18 (d := D18) rfl
  exact cal_mk (by exact F) (gloB_ok Z.X Z.G Z.C.fun_is_name) (fnF (N := ["value", "sign"]) (ps := ["value"]) (den := d_is_name) (by exact F) sc_is_name (b_is_name (zz_f_str Z) (zz_f_isinstance Z) (zz_tis Z) (zz_f_len Z) (zz_c_LONGEST_NAME Z) (zz_c_LETTERS Z) (zz_c_SIGNS Z) (zz_f_all Z))) (fun _ _ _ _ _ _ us hl => match us, hl with | [_], _ => rfl) rfl
theorem zz_k_is_whole (Z : Pre w K mg base h) : Cal P w K mg base "is_whole" 1 1 [] (runF 1 d_is_whole) := by
  obtain ⟨fd, F⟩ := Z.S.def_ 19 (d := D19) rfl
  exact cal_mk (by exact F) (gloB_ok Z.X Z.G Z.C.fun_is_whole) (fnF (N := ["value"]) (ps := ["value"]) (den := d_is_whole) (by exact F) sc_is_whole (b_is_whole (zz_f_int Z) (zz_f_isinstance Z) (zz_tis Z) (zz_f_bool Z))) (fun _ _ _ _ _ _ us hl => match us, hl with | [_], _ => rfl) rfl
theorem zz_k_is_whole_within (Z : Pre w K mg base h) : Cal P w K mg base "is_whole_within" 2 3 [] (runF 3 d_is_whole_within) := by
  obtain ⟨fd, F⟩ := Z.S.def_ 20 (d := D20) rfl
  exact cal_mk (by exact F) (gloB_ok Z.X Z.G Z.C.fun_is_whole_within) (fnF (N := ["value", "least", "most"]) (ps := ["value", "least", "most"]) (den := d_is_whole_within) (by exact F) sc_is_whole_within (b_is_whole_within (zz_k_is_whole (P := P) Z))) (fun _ _ _ _ _ _ us hl => match us, hl with | [_, _, _], _ => rfl) rfl
theorem zz_k_is_stuff (Z : Pre w K mg base h) : Cal P w K mg base "is_stuff" 3 1 [] (runF 1 d_is_stuff) := by
  obtain ⟨fd, F⟩ := Z.S.def_ 21 (d := D21) rfl
  exact cal_mk (by exact F) (gloB_ok Z.X Z.G Z.C.fun_is_stuff) (fnF (N := ["value"]) (ps := ["value"]) (den := d_is_stuff) (by exact F) sc_is_stuff (b_is_stuff (zz_k_is_tuple_of (P := P) Z) (zz_k_is_name (P := P) Z) (zz_c_GREATEST Z) (zz_k_is_whole_within (P := P) Z))) (fun _ _ _ _ _ _ us hl => match us, hl with | [_], _ => rfl) rfl
theorem zz_k_need_stuffs (Z : Pre w K mg base h) : Cal P w K mg base "_need_stuffs" 4 1 [] (runF 3 d_need_stuffs) := by
  obtain ⟨fd, F⟩ := Z.S.def_ 22 (d := D22) rfl
  exact cal_mk (by exact F) (gloB_ok Z.X Z.G Z.C.fun__need_stuffs) (fnF (N := ["stuffs", "earlier", "stuff"]) (ps := ["stuffs"]) (den := d_need_stuffs) (by exact F) sc_need_stuffs (b_need_stuffs (zz_k_is_stuff (P := P) Z) (zz_r_InvalidItem (P := P) Z))) (fun _ _ _ _ _ _ us hl => match us, hl with | [_], _ => rfl) rfl
theorem zz_k_is_side (Z : Pre w K mg base h) : Cal P w K mg base "_is_side" 3 2 [] (runF 4 d_is_side) := by
  obtain ⟨fd, F⟩ := Z.S.def_ 23 (d := D23) rfl
  exact cal_mk (by exact F) (gloB_ok Z.X Z.G Z.C.fun__is_side) (fnF (N := ["stuff_names", "value", "earlier", "pair"]) (ps := ["stuff_names", "value"]) (den := d_is_side) (by exact F) sc_is_side (b_is_side (zz_f_len Z) (zz_k_is_list_within (P := P) Z) (zz_k_is_tuple_of (P := P) Z) (zz_f_str Z) (zz_f_isinstance Z) (zz_tis Z) (zz_c_GREATEST Z) (zz_k_is_whole_within (P := P) Z))) (fun _ _ _ _ _ _ us hl => match us, hl with | [_, _], _ => rfl) rfl
theorem zz_k_is_recipe (Z : Pre w K mg base h) : Cal P w K mg base "is_recipe" 4 2 [] (runF 2 d_is_recipe) := by
  obtain ⟨fd, F⟩ := Z.S.def_ 24 (d := D24) rfl
  exact cal_mk (by exact F) (gloB_ok Z.X Z.G Z.C.fun_is_recipe) (fnF (N := ["stuff_names", "value"]) (ps := ["stuff_names", "value"]) (den := d_is_recipe) (by exact F) sc_is_recipe (b_is_recipe (zz_k_is_tuple_of (P := P) Z) (zz_k_is_name (P := P) Z) (zz_k_is_side (P := P) Z))) (fun _ _ _ _ _ _ us hl => match us, hl with | [_, _], _ => rfl) rfl
theorem zz_k_need_recipes (Z : Pre w K mg base h) : Cal P w K mg base "_need_recipes" 5 2 [] (runF 4 d_need_recipes) := by
  obtain ⟨fd, F⟩ := Z.S.def_ 25 (d := D25) rfl
  exact cal_mk (by exact F) (gloB_ok Z.X Z.G Z.C.fun__need_recipes) (fnF (N := ["stuff_names", "recipes", "earlier", "recipe"]) (ps := ["stuff_names", "recipes"]) (den := d_need_recipes) (by exact F) sc_need_recipes (b_need_recipes (zz_k_is_recipe (P := P) Z) (zz_r_InvalidItem (P := P) Z))) (fun _ _ _ _ _ _ us hl => match us, hl with | [_, _], _ => rfl) rfl
theorem zz_k_copied (Z : Pre w K mg base h) : Cal P w K mg base "_copied" 1 1 [] (runF 4 d_copied) := by
  obtain ⟨fd, F⟩ := Z.S.def_ 26 (d := D26) rfl
  exact cal_mk (by exact F) (gloB_ok Z.X Z.G Z.C.fun__copied) (fnF (N := ["recipes", "name", "takes", "gives"]) (ps := ["recipes"]) (den := d_copied) (by exact F) sc_copied (b_copied (zz_f_list Z))) (fun _ _ _ _ _ _ us hl => match us, hl with | [_], _ => rfl) rfl
theorem zz_k_MillC (Z : Pre w K mg base h) : Kal P w K mg base "Mill" 6 3 [] (runC 5 d_Mill_init) := by
  obtain ⟨fd, F⟩ := Z.S.def_ 27 (d := D27) rfl
  exact kal_mk (gloB_ok Z.X Z.G Z.C.glo_Mill) (mkChk_ok Z.C.mk_Mill) (by exact F) (fnC (N := ["self", "stuffs", "recipes", "name", "_"]) (ps := ["self", "stuffs", "recipes"]) (den := d_Mill_init) (by exact F) sc_Mill_init (b_Mill_init (zz_c_MOST_STUFFS Z) (zz_k_is_list_within (P := P) Z) (zz_r_InvalidList (P := P) Z) (zz_k_need_stuffs (P := P) Z) (zz_c_MOST_RECIPES Z) (zz_k_need_recipes (P := P) Z) (zz_f_list Z) (zz_a__stuffs Z) (zz_k_copied (P := P) Z) (zz_a__recipes Z))) (fun _ _ _ _ _ _ us hl => match us, hl with | [_, _, _], _ => rfl) rfl
theorem zz_k_MillC_w10 (Z : Pre w K mg base h) : KalW P w K mg base "Mill" 6 ["recipes", "stuffs"] [1, 0] (runC 5 d_Mill_init) := by
  obtain ⟨fd, F⟩ := Z.S.def_ 27 (d := D27) rfl
  exact kalW_mk (gloB_ok Z.X Z.G Z.C.glo_Mill) (mkChk_ok Z.C.mk_Mill) (by exact F) (fnC (N := ["self", "stuffs", "recipes", "name", "_"]) (ps := ["self", "stuffs", "recipes"]) (den := d_Mill_init) (by exact F) sc_Mill_init (b_Mill_init (zz_c_MOST_STUFFS Z) (zz_k_is_list_within (P := P) Z) (zz_r_InvalidList (P := P) Z) (zz_k_need_stuffs (P := P) Z) (zz_c_MOST_RECIPES Z) (zz_k_need_recipes (P := P) Z) (zz_f_list Z) (zz_a__stuffs Z) (zz_k_copied (P := P) Z) (zz_a__recipes Z))) (fun _ _ _ _ _ _ _ ws hl => match ws, hl with | [_, _], _ => rfl) rfl
theorem zz_m_Mill_recipes (Z : Pre w K mg base h) : Mal P w K mg base "Mill" "recipes" 2 1 [] (runF 1 d_Mill_recipes) := by
  obtain ⟨fd, F⟩ := Z.S.def_ 28 (d := D28) rfl
  exact mal_mk (clsChk_ok Z.C.cls_Mill).1 (methChk_ok Z.C.mth_Mill_recipes) (by exact F) (fnF (N := ["self"]) (ps := ["self"]) (den := d_Mill_recipes) (by exact F) sc_Mill_recipes (b_Mill_recipes (zz_a__recipes Z) (zz_k_copied (P := P) Z))) (fun _ _ _ _ _ _ us hl => match us, hl with | [_], _ => rfl) rfl
theorem zz_k_need_mill (Z : Pre w K mg base h) : Cal P w K mg base "need_mill" 3 1 [] (runF 1 d_need_mill) := by
  obtain ⟨fd, F⟩ := Z.S.def_ 29 (d := D29) rfl
  exact cal_mk (by exact F) (gloB_ok Z.X Z.G Z.C.fun_need_mill) (fnF (N := ["mill"]) (ps := ["mill"]) (den := d_need_mill) (by exact F) sc_need_mill (b_need_mill (zz_g_Mill Z) (zz_f_isinstance Z) (zz_tis Z) (zz_r_InvalidMill (P := P) Z))) (fun _ _ _ _ _ _ us hl => match us, hl with | [_], _ => rfl) rfl
theorem zz_m_Mill_stuffs (Z : Pre w K mg base h) : Mal P w K mg base "Mill" "stuffs" 1 1 [] (runF 1 d_Mill_stuffs) := by
  obtain ⟨fd, F⟩ := Z.S.def_ 30 (d := D30) rfl
  exact mal_mk (clsChk_ok Z.C.cls_Mill).1 (methChk_ok Z.C.mth_Mill_stuffs) (by exact F) (fnF (N := ["self"]) (ps := ["self"]) (den := d_Mill_stuffs) (by exact F) sc_Mill_stuffs (b_Mill_stuffs (zz_a__stuffs Z) (zz_f_list Z))) (fun _ _ _ _ _ _ us hl => match us, hl with | [_], _ => rfl) rfl
theorem zz_k_numbered (Z : Pre w K mg base h) : Cal P w K mg base "_numbered" 1 2 [] (runF 4 d_numbered) := by
  obtain ⟨fd, F⟩ := Z.S.def_ 31 (d := D31) rfl
  exact cal_mk (by exact F) (gloB_ok Z.X Z.G Z.C.fun__numbered) (fnF (N := ["stuff_names", "side", "stuff", "number"]) (ps := ["stuff_names", "side"]) (den := d_numbered) (by exact F) sc_numbered b_numbered) (fun _ _ _ _ _ _ us hl => match us, hl with | [_, _], _ => rfl) rfl
theorem zz_m_Mill_names (Z : Pre w K mg base h) : Mal P w K mg base "Mill" "names" 1 1 [] (runF 3 d_Mill_names) := by
  obtain ⟨fd, F⟩ := Z.S.def_ 32 (d := D32) rfl
  exact mal_mk (clsChk_ok Z.C.cls_Mill).1 (methChk_ok Z.C.mth_Mill_names) (by exact F) (fnF (N := ["self", "name", "_"]) (ps := ["self"]) (den := d_Mill_names) (by exact F) sc_Mill_names (b_Mill_names (zz_a__recipes Z))) (fun _ _ _ _ _ _ us hl => match us, hl with | [_], _ => rfl) rfl
theorem zz_k_net (Z : Pre w K mg base h) : Cal P w K mg base "_net" 1 3 [] (runF 6 d_net) := by
  obtain ⟨fd, F⟩ := Z.S.def_ 33 (d := D33) rfl
  exact cal_mk (by exact F) (gloB_ok Z.X Z.G Z.C.fun__net) (fnF (N := ["stuffs", "takes", "gives", "net", "stuff", "number"]) (ps := ["stuffs", "takes", "gives"]) (den := d_net) (by exact F) sc_net b_net) (fun _ _ _ _ _ _ us hl => match us, hl with | [_, _, _], _ => rfl) rfl
theorem zz_k_TablesC (Z : Pre w K mg base h) : Kal P w K mg base "Tables" 2 6 [] (runC 8 d_Tables_init) := by
  obtain ⟨fd, F⟩ := Z.S.def_ 34 (d := D34) rfl
  exact kal_mk (gloB_ok Z.X Z.G Z.C.glo_Tables) (mkChk_ok Z.C.mk_Tables) (by exact F) (fnC (N := ["self", "stuff_names", "rooms", "recipe_names", "takes", "gives", "mine", "yours"]) (ps := ["self", "stuff_names", "rooms", "recipe_names", "takes", "gives"]) (den := d_Tables_init) (by exact F) sc_Tables_init (b_Tables_init (zz_a_stuff_names Z) (zz_a_rooms Z) (zz_a_recipe_names Z) (zz_a_takes Z) (zz_a_gives Z) (zz_f_zip Z) (zz_f_len Z) (zz_k_net (P := P) Z) (zz_a_nets Z))) (fun _ _ _ _ _ _ us hl => match us, hl with | [_, _, _, _, _, _], _ => rfl) rfl
theorem zz_k_tables_of (Z : Pre w K mg base h) : Cal P w K mg base "tables_of" 4 1 [] (runF 10 d_tables_of) := by
  obtain ⟨fd, F⟩ := Z.S.def_ 35 (d := D35) rfl
  exact cal_mk (by exact F) (gloB_ok Z.X Z.G Z.C.fun_tables_of) (fnF (N := ["mill", "stuff_names", "name", "_", "rooms", "room", "takes", "taken", "gives", "given"]) (ps := ["mill"]) (den := d_tables_of) (by exact F) sc_tables_of (b_tables_of (zz_k_need_mill (P := P) Z) (zz_m_Mill_stuffs (P := P) Z) (zz_m_Mill_recipes (P := P) Z) (zz_k_numbered (P := P) Z) (zz_m_Mill_names (P := P) Z) (zz_k_TablesC (P := P) Z))) (fun _ _ _ _ _ _ us hl => match us, hl with | [_], _ => rfl) rfl
theorem zz_k_is_list_of (Z : Pre w K mg base h) : Cal P w K mg base "is_list_of" 1 2 [] (runF 2 d_is_list_of) := by
  obtain ⟨fd, F⟩ := Z.S.def_ 36 (d := D36) rfl
  exact cal_mk (by exact F) (gloB_ok Z.X Z.G Z.C.fun_is_list_of) (fnF (N := ["value", "length"]) (ps := ["value", "length"]) (den := d_is_list_of) (by exact F) sc_is_list_of (b_is_list_of (zz_f_list Z) (zz_f_isinstance Z) (zz_tis Z) (zz_f_len Z))) (fun _ _ _ _ _ _ us hl => match us, hl with | [_, _], _ => rfl) rfl
theorem zz_k_is_fraction (Z : Pre w K mg base h) : Cal P w K mg base "is_fraction" 2 1 [] (runF 1 d_is_fraction) := by
  obtain ⟨fd, F⟩ := Z.S.def_ 37 (d := D37) rfl
  exact cal_mk (by exact F) (gloB_ok Z.X Z.G Z.C.fun_is_fraction) (fnF (N := ["value"]) (ps := ["value"]) (den := d_is_fraction) (by exact F) sc_is_fraction (b_is_fraction (zz_f_tuple Z) (zz_f_isinstance Z) (zz_tis Z) (zz_f_len Z) (zz_k_is_whole (P := P) Z) (zz_i_gcd Z))) (fun _ _ _ _ _ _ us hl => match us, hl with | [_], _ => rfl) rfl
theorem zz_k_is_amount (Z : Pre w K mg base h) : Cal P w K mg base "is_amount" 3 1 [] (runF 1 d_is_amount) := by
  obtain ⟨fd, F⟩ := Z.S.def_ 38 (d := D38) rfl
  exact cal_mk (by exact F) (gloB_ok Z.X Z.G Z.C.fun_is_amount) (fnF (N := ["value"]) (ps := ["value"]) (den := d_is_amount) (by exact F) sc_is_amount (b_is_amount (zz_k_is_fraction (P := P) Z))) (fun _ _ _ _ _ _ us hl => match us, hl with | [_], _ => rfl) rfl
theorem zz_k_is_less (Z : Pre w K mg base h) : Cal P w K mg base "is_less" 1 2 [] (runF 2 d_is_less) := by
  obtain ⟨fd, F⟩ := Z.S.def_ 39 (d := D39) rfl
  exact cal_mk (by exact F) (gloB_ok Z.X Z.G Z.C.fun_is_less) (fnF (N := ["one", "other"]) (ps := ["one", "other"]) (den := d_is_less) (by exact F) sc_is_less b_is_less) (fun _ _ _ _ _ _ us hl => match us, hl with | [_, _], _ => rfl) rfl
theorem zz_k_fits_room (Z : Pre w K mg base h) : Cal P w K mg base "fits_room" 2 2 [] (runF 2 d_fits_room) := by
  obtain ⟨fd, F⟩ := Z.S.def_ 40 (d := D40) rfl
  exact cal_mk (by exact F) (gloB_ok Z.X Z.G Z.C.fun_fits_room) (fnF (N := ["amount", "room"]) (ps := ["amount", "room"]) (den := d_fits_room) (by exact F) sc_fits_room (b_fits_room (zz_k_is_less (P := P) Z))) (fun _ _ _ _ _ _ us hl => match us, hl with | [_, _], _ => rfl) rfl
theorem zz_k_is_holdings (Z : Pre w K mg base h) : Cal P w K mg base "is_holdings" 4 2 [] (runF 4 d_is_holdings) := by
  obtain ⟨fd, F⟩ := Z.S.def_ 41 (d := D41) rfl
  exact cal_mk (by exact F) (gloB_ok Z.X Z.G Z.C.fun_is_holdings) (fnF (N := ["tables", "value", "amount", "room"]) (ps := ["tables", "value"]) (den := d_is_holdings) (by exact F) sc_is_holdings (b_is_holdings (zz_a_rooms Z) (zz_f_len Z) (zz_k_is_list_of (P := P) Z) (zz_f_zip Z) (zz_k_is_amount (P := P) Z) (zz_k_fits_room (P := P) Z) (zz_f_all Z))) (fun _ _ _ _ _ _ us hl => match us, hl with | [_, _], _ => rfl) rfl
theorem zz_k_need_holdings (Z : Pre w K mg base h) : Cal P w K mg base "need_holdings" 5 2 [] (runF 2 d_need_holdings) := by
  obtain ⟨fd, F⟩ := Z.S.def_ 42 (d := D42) rfl
  exact cal_mk (by exact F) (gloB_ok Z.X Z.G Z.C.fun_need_holdings) (fnF (N := ["tables", "have"]) (ps := ["tables", "have"]) (den := d_need_holdings) (by exact F) sc_need_holdings (b_need_holdings (zz_k_is_holdings (P := P) Z) (zz_r_InvalidHoldings (P := P) Z))) (fun _ _ _ _ _ _ us hl => match us, hl with | [_, _], _ => rfl) rfl
theorem zz_k_is_above_nothing (Z : Pre w K mg base h) : Cal P w K mg base "is_above_nothing" 3 1 [] (runF 1 d_is_above_nothing) := by
  obtain ⟨fd, F⟩ := Z.S.def_ 43 (d := D43) rfl
  exact cal_mk (by exact F) (gloB_ok Z.X Z.G Z.C.fun_is_above_nothing) (fnF (N := ["value"]) (ps := ["value"]) (den := d_is_above_nothing) (by exact F) sc_is_above_nothing (b_is_above_nothing (zz_k_is_fraction (P := P) Z))) (fun _ _ _ _ _ _ us hl => match us, hl with | [_], _ => rfl) rfl
theorem zz_k_is_step (Z : Pre w K mg base h) : Cal P w K mg base "is_step" 4 2 [] (runF 2 d_is_step) := by
  obtain ⟨fd, F⟩ := Z.S.def_ 44 (d := D44) rfl
  exact cal_mk (by exact F) (gloB_ok Z.X Z.G Z.C.fun_is_step) (fnF (N := ["tables", "value"]) (ps := ["tables", "value"]) (den := d_is_step) (by exact F) sc_is_step (b_is_step (zz_k_is_tuple_of (P := P) Z) (zz_f_str Z) (zz_f_isinstance Z) (zz_tis Z) (zz_a_recipe_names Z) (zz_k_is_above_nothing (P := P) Z))) (fun _ _ _ _ _ _ us hl => match us, hl with | [_, _], _ => rfl) rfl
theorem zz_k_is_block (Z : Pre w K mg base h) : Cal P w K mg base "is_block" 5 2 [] (runF 3 d_is_block) := by
  obtain ⟨fd, F⟩ := Z.S.def_ 45 (d := D45) rfl
  exact cal_mk (by exact F) (gloB_ok Z.X Z.G Z.C.fun_is_block) (fnF (N := ["tables", "value", "step"]) (ps := ["tables", "value"]) (den := d_is_block) (by exact F) sc_is_block (b_is_block (zz_k_is_tuple_of (P := P) Z) (zz_k_is_whole (P := P) Z) (zz_f_list Z) (zz_f_isinstance Z) (zz_tis Z) (zz_f_len Z) (zz_k_is_step (P := P) Z) (zz_f_all Z))) (fun _ _ _ _ _ _ us hl => match us, hl with | [_, _], _ => rfl) rfl
theorem zz_k_is_row_of (Z : Pre w K mg base h) : Cal P w K mg base "is_row_of" 6 2 [] (runF 3 d_is_row_of) := by
  obtain ⟨fd, F⟩ := Z.S.def_ 46 (d := D46) rfl
  exact cal_mk (by exact F) (gloB_ok Z.X Z.G Z.C.fun_is_row_of) (fnF (N := ["tables", "value", "block"]) (ps := ["tables", "value"]) (den := d_is_row_of) (by exact F) sc_is_row_of (b_is_row_of (zz_f_list Z) (zz_f_isinstance Z) (zz_tis Z) (zz_k_is_block (P := P) Z) (zz_f_all Z))) (fun _ _ _ _ _ _ us hl => match us, hl with | [_, _], _ => rfl) rfl
theorem zz_k_common_under (Z : Pre w K mg base h) : Cal P w K mg base "_common_under" 1 2 [] (runF 6 d_common_under) := by
  obtain ⟨fd, F⟩ := Z.S.def_ 47 (d := D47) rfl
  exact cal_mk (by exact F) (gloB_ok Z.X Z.G Z.C.fun__common_under) (fnF (N := ["have", "row", "under", "amount", "_", "steps"]) (ps := ["have", "row"]) (den := d_common_under) (by exact F) sc_common_under (b_common_under (zz_i_lcm Z))) (fun _ _ _ _ _ _ us hl => match us, hl with | [_, _], _ => rfl) rfl
theorem zz_k_over (Z : Pre w K mg base h) : Cal P w K mg base "_over" 1 2 [] (runF 2 d_over) := by
  obtain ⟨fd, F⟩ := Z.S.def_ 48 (d := D48) rfl
  exact cal_mk (by exact F) (gloB_ok Z.X Z.G Z.C.fun__over) (fnF (N := ["amount", "under"]) (ps := ["amount", "under"]) (den := d_over) (by exact F) sc_over b_over) (fun _ _ _ _ _ _ us hl => match us, hl with | [_, _], _ => rfl) rfl
theorem zz_m_Tables_place_ofP (Z : Pre w K mg base h) : Mal P w K mg base "Tables" "place_of" 1 2 [] (runP (runF 2 d_Tables_place_of)) := by
  obtain ⟨fd, F⟩ := Z.S.def_ 49 (d := D49) rfl
  exact mal_mk (clsChk_ok Z.C.cls_Tables).1 (methChk_ok Z.C.mth_Tables_place_of) (by exact F) (fnF (N := ["self", "recipe"]) (ps := ["self", "recipe"]) (den := d_Tables_place_of) (by exact F) sc_Tables_place_of (b_Tables_place_of (zz_a_recipe_names Z))).peek (fun _ _ _ _ _ _ us hl => match us, hl with | [_, _], _ => rfl) rfl
theorem zz_m_Tables_place_of (Z : Pre w K mg base h) : Mal P w K mg base "Tables" "place_of" 1 2 [] (runF 2 d_Tables_place_of) := by
  obtain ⟨fd, F⟩ := Z.S.def_ 49 (d := D49) rfl
  exact mal_mk (clsChk_ok Z.C.cls_Tables).1 (methChk_ok Z.C.mth_Tables_place_of) (by exact F) (fnF (N := ["self", "recipe"]) (ps := ["self", "recipe"]) (den := d_Tables_place_of) (by exact F) sc_Tables_place_of (b_Tables_place_of (zz_a_recipe_names Z))) (fun _ _ _ _ _ _ us hl => match us, hl with | [_, _], _ => rfl) rfl
theorem zz_k_addedC (Z : Pre w K mg base h) : Cal P w K mg base "_added" 1 3 [] (runC 6 d_added) := by
  obtain ⟨fd, F⟩ := Z.S.def_ 50 (d := D50) rfl
  exact cal_mk (by exact F) (gloB_ok Z.X Z.G Z.C.fun__added) (fnC (N := ["numbers", "side", "times", "added", "stuff", "number"]) (ps := ["numbers", "side", "times"]) (den := d_added) (by exact F) sc_added (b_added (zz_f_list Z))) (fun _ _ _ _ _ _ us hl => match us, hl with | [_, _, _], _ => rfl) rfl
theorem zz_m_Trip__go_turnC (Z : Pre w K mg base h) : Mal P w K mg base "Trip" "_go_turn" 2 2 [] (runC 5 d_Trip__go_turn) := by
  obtain ⟨fd, F⟩ := Z.S.def_ 51 (d := D51) rfl
  exact mal_mk (clsChk_ok Z.C.cls_Trip).1 (methChk_ok Z.C.mth_Trip__go_turn) (by exact F) (fnC (N := ["self", "moves", "recipe", "number", "left"]) (ps := ["self", "moves"]) (den := d_Trip__go_turn) (by exact F) sc_Trip__go_turn (b_Trip__go_turn (zz_a_tables Z) (zz_a_takes Z) (zz_a_now Z) (zz_k_addedC (P := P) Z) (zz_a_gives Z) (zz_a_seen Z))) (fun _ _ _ _ _ _ us hl => match us, hl with | [_, _], _ => rfl) rfl
theorem zz_m_Trip__go_blockC (Z : Pre w K mg base h) : Mal P w K mg base "Trip" "_go_block" 3 3 [] (runC 9 d_Trip__go_block) := by
  obtain ⟨fd, F⟩ := Z.S.def_ 52 (d := D52) rfl
  exact mal_mk (clsChk_ok Z.C.cls_Trip).1 (methChk_ok Z.C.mth_Trip__go_block) (by exact F) (fnC (N := ["self", "times", "steps", "moves", "recipe", "amount", "start", "number", "first"]) (ps := ["self", "times", "steps"]) (den := d_Trip__go_block) (by exact F) sc_Trip__go_block (b_Trip__go_block (zz_a_under Z) (zz_k_over (P := P) Z) (zz_a_tables Z) (zz_m_Tables_place_ofP (P := P) Z) (zz_a_now Z) (zz_m_Trip__go_turnC (P := P) Z) (zz_f_zip Z))) (fun _ _ _ _ _ _ us hl => match us, hl with | [_, _, _], _ => rfl) rfl
theorem zz_k_TripB (Z : Pre w K mg base h) : Kal P w K mg base "Trip" 4 4 [] (runB 7 d_Trip_init) := by
  obtain ⟨fd, F⟩ := Z.S.def_ 53 (d := D53) rfl
  exact kal_mk (gloB_ok Z.X Z.G Z.C.glo_Trip) (mkChk_ok Z.C.mk_Trip) (by exact F) (fnR (N := ["self", "tables", "have", "row", "amount", "times", "steps"]) (ps := ["self", "tables", "have", "row"]) (den := d_Trip_init) (by exact F) sc_Trip_init (b_Trip_init (zz_a_tables Z) (zz_k_common_under (P := P) Z) (zz_a_under Z) (zz_k_over (P := P) Z) (zz_a_start Z) (zz_a_seen Z) (zz_a_now Z) (zz_m_Trip__go_blockC (P := P) Z))) (fun _ _ _ _ _ _ us hl => match us, hl with | [_, _, _, _], _ => rfl) rfl
theorem zz_m_Trip_can_be_done (Z : Pre w K mg base h) : Mal P w K mg base "Trip" "can_be_done" 1 1 [] (runF 6 d_Trip_can_be_done) := by
  obtain ⟨fd, F⟩ := Z.S.def_ 54 (d := D54) rfl
  exact mal_mk (clsChk_ok Z.C.cls_Trip).1 (methChk_ok Z.C.mth_Trip_can_be_done) (by exact F) (fnF (N := ["self", "rooms", "room", "left", "held", "number"]) (ps := ["self"]) (den := d_Trip_can_be_done) (by exact F) sc_Trip_can_be_done (b_Trip_can_be_done (zz_a_tables Z) (zz_a_rooms Z) (zz_a_under Z) (zz_a_seen Z) (zz_f_any Z) (zz_f_zip Z))) (fun _ _ _ _ _ _ us hl => match us, hl with | [_], _ => rfl) rfl
theorem zz_k_need_trip (Z : Pre w K mg base h) : Cal P w K mg base "_need_trip" 7 3 [] (runF 5 d_need_trip) := by
  obtain ⟨fd, F⟩ := Z.S.def_ 55 (d := D55) rfl
  exact cal_mk (by exact F) (gloB_ok Z.X Z.G Z.C.fun__need_trip) (fnF (N := ["mill", "have", "row", "tables", "trip"]) (ps := ["mill", "have", "row"]) (den := d_need_trip) (by exact F) sc_need_trip (b_need_trip (zz_k_tables_of (P := P) Z) (zz_k_need_holdings (P := P) Z) (zz_k_is_row_of (P := P) Z) (zz_r_InvalidRow (P := P) Z) (zz_k_TripB (P := P) Z) (zz_m_Trip_can_be_done (P := P) Z))) (fun _ _ _ _ _ _ us hl => match us, hl with | [_, _, _], _ => rfl) rfl
theorem zz_k_fraction (Z : Pre w K mg base h) : Cal P w K mg base "fraction" 1 2 [] (runF 3 d_fraction) := by
  obtain ⟨fd, F⟩ := Z.S.def_ 56 (d := D56) rfl
  exact cal_mk (by exact F) (gloB_ok Z.X Z.G Z.C.fun_fraction) (fnF (N := ["top", "under", "common"]) (ps := ["top", "under"]) (den := d_fraction) (by exact F) sc_fraction (b_fraction (zz_i_gcd Z))) (fun _ _ _ _ _ _ us hl => match us, hl with | [_, _], _ => rfl) rfl
theorem zz_k_fractionC (Z : Pre w K mg base h) : Cal P w K mg base "fraction" 1 2 [] (runC 3 d_fraction) := by
  obtain ⟨fd, F⟩ := Z.S.def_ 56 (d := D56) rfl
  exact cal_mk (by exact F) (gloB_ok Z.X Z.G Z.C.fun_fraction) (fnC (N := ["top", "under", "common"]) (ps := ["top", "under"]) (den := d_fraction) (by exact F) sc_fraction (b_fraction (zz_i_gcd Z))) (fun _ _ _ _ _ _ us hl => match us, hl with | [_, _], _ => rfl) rfl
theorem zz_m_Trip_end (Z : Pre w K mg base h) : Mal P w K mg base "Trip" "end" 2 1 [] (runF 2 d_Trip_end) := by
  obtain ⟨fd, F⟩ := Z.S.def_ 57 (d := D57) rfl
  exact mal_mk (clsChk_ok Z.C.cls_Trip).1 (methChk_ok Z.C.mth_Trip_end) (by exact F) (fnF (N := ["self", "number"]) (ps := ["self"]) (den := d_Trip_end) (by exact F) sc_Trip_end (b_Trip_end (zz_a_now Z) (zz_a_under Z) (zz_k_fraction (P := P) Z))) (fun _ _ _ _ _ _ us hl => match us, hl with | [_], _ => rfl) rfl
theorem zz_k_led (Z : Pre w K mg base h) : Cal P w K mg base "led" 8 3 [] (runF 3 d_led) := by
  obtain ⟨fd, F⟩ := Z.S.def_ 58 (d := D58) rfl
  exact cal_mk (by exact F) (gloB_ok Z.X Z.G Z.C.fun_led) (fnF (N := ["mill", "have", "row"]) (ps := ["mill", "have", "row"]) (den := d_led) (by exact F) sc_led (b_led (zz_k_need_trip (P := P) Z) (zz_m_Trip_end (P := P) Z))) (fun _ _ _ _ _ _ us hl => match us, hl with | [_, _, _], _ => rfl) rfl
theorem zz_k_led_w210 (Z : Pre w K mg base h) : CalW P w K mg base "led" 8 ["row", "have", "mill"] [2, 1, 0] (runF 3 d_led) := by
  obtain ⟨fd, F⟩ := Z.S.def_ 58 (d := D58) rfl
  exact calW_mk (by exact F) (gloB_ok Z.X Z.G Z.C.fun_led) (fnF (N := ["mill", "have", "row"]) (ps := ["mill", "have", "row"]) (den := d_led) (by exact F) sc_led (b_led (zz_k_need_trip (P := P) Z) (zz_m_Trip_end (P := P) Z))) (fun _ _ _ _ _ _ ws hl => match ws, hl with | [_, _, _], _ => rfl) rfl
theorem zz_m_Trip_narrows (Z : Pre w K mg base h) : Mal P w K mg base "Trip" "narrows" 2 1 [] (runF 9 d_Trip_narrows) := by
  obtain ⟨fd, F⟩ := Z.S.def_ 59 (d := D59) rfl
  exact mal_mk (clsChk_ok Z.C.cls_Trip).1 (methChk_ok Z.C.mth_Trip_narrows) (by exact F) (fnF (N := ["self", "least", "most", "left", "held", "number", "other", "low", "high"]) (ps := ["self"]) (den := d_Trip_narrows) (by exact F) sc_Trip_narrows (b_Trip_narrows (zz_a_start Z) (zz_a_seen Z) (zz_f_zip Z) (zz_f_min Z) (zz_f_max Z) (zz_a_under Z) (zz_k_fraction (P := P) Z))) (fun _ _ _ _ _ _ us hl => match us, hl with | [_], _ => rfl) rfl
theorem zz_k_narrows (Z : Pre w K mg base h) : Cal P w K mg base "narrows" 8 3 [] (runF 3 d_narrows) := by
  obtain ⟨fd, F⟩ := Z.S.def_ 60 (d := D60) rfl
  exact cal_mk (by exact F) (gloB_ok Z.X Z.G Z.C.fun_narrows) (fnF (N := ["mill", "have", "row"]) (ps := ["mill", "have", "row"]) (den := d_narrows) (by exact F) sc_narrows (b_narrows (zz_k_need_trip (P := P) Z) (zz_m_Trip_narrows (P := P) Z))) (fun _ _ _ _ _ _ us hl => match us, hl with | [_, _, _], _ => rfl) rfl
theorem zz_k_narrows_w210 (Z : Pre w K mg base h) : CalW P w K mg base "narrows" 8 ["row", "have", "mill"] [2, 1, 0] (runF 3 d_narrows) := by
  obtain ⟨fd, F⟩ := Z.S.def_ 60 (d := D60) rfl
  exact calW_mk (by exact F) (gloB_ok Z.X Z.G Z.C.fun_narrows) (fnF (N := ["mill", "have", "row"]) (ps := ["mill", "have", "row"]) (den := d_narrows) (by exact F) sc_narrows (b_narrows (zz_k_need_trip (P := P) Z) (zz_m_Trip_narrows (P := P) Z))) (fun _ _ _ _ _ _ ws hl => match ws, hl with | [_, _, _], _ => rfl) rfl
theorem zz_k_is_row (Z : Pre w K mg base h) : Cal P w K mg base "is_row" 7 3 [] (runF 4 d_is_row) := by
  obtain ⟨fd, F⟩ := Z.S.def_ 61 (d := D61) rfl
  exact cal_mk (by exact F) (gloB_ok Z.X Z.G Z.C.fun_is_row) (fnF (N := ["mill", "have", "value", "tables"]) (ps := ["mill", "have", "value"]) (den := d_is_row) (by exact F) sc_is_row (b_is_row (zz_k_tables_of (P := P) Z) (zz_k_need_holdings (P := P) Z) (zz_k_is_row_of (P := P) Z) (zz_k_TripB (P := P) Z) (zz_m_Trip_can_be_done (P := P) Z))) (fun _ _ _ _ _ _ us hl => match us, hl with | [_, _, _], _ => rfl) rfl
theorem zz_k_is_row_w210 (Z : Pre w K mg base h) : CalW P w K mg base "is_row" 7 ["value", "have", "mill"] [2, 1, 0] (runF 4 d_is_row) := by
  obtain ⟨fd, F⟩ := Z.S.def_ 61 (d := D61) rfl
  exact calW_mk (by exact F) (gloB_ok Z.X Z.G Z.C.fun_is_row) (fnF (N := ["mill", "have", "value", "tables"]) (ps := ["mill", "have", "value"]) (den := d_is_row) (by exact F) sc_is_row (b_is_row (zz_k_tables_of (P := P) Z) (zz_k_need_holdings (P := P) Z) (zz_k_is_row_of (P := P) Z) (zz_k_TripB (P := P) Z) (zz_m_Trip_can_be_done (P := P) Z))) (fun _ _ _ _ _ _ ws hl => match ws, hl with | [_, _, _], _ => rfl) rfl
theorem zz_k_sums_done (Z : Pre w K mg base h) : Cal P w K mg base "sums_done" 2 2 [] (runF 9 d_sums_done) := by
  obtain ⟨fd, F⟩ := Z.S.def_ 62 (d := D62) rfl
  exact cal_mk (by exact F) (gloB_ok Z.X Z.G Z.C.fun_sums_done) (fnF (N := ["tables", "row", "under", "sums", "times", "steps", "recipe", "amount", "number"]) (ps := ["tables", "row"]) (den := d_sums_done) (by exact F) sc_sums_done (b_sums_done (zz_k_common_under (P := P) Z) (zz_a_recipe_names Z) (zz_f_len Z) (zz_m_Tables_place_of (P := P) Z) (zz_k_over (P := P) Z) (zz_k_fractionC (P := P) Z))) (fun _ _ _ _ _ _ us hl => match us, hl with | [_, _], _ => rfl) rfl
theorem zz_k_done (Z : Pre w K mg base h) : Cal P w K mg base "done" 7 2 [] (runF 3 d_done) := by
  obtain ⟨fd, F⟩ := Z.S.def_ 63 (d := D63) rfl
  exact cal_mk (by exact F) (gloB_ok Z.X Z.G Z.C.fun_done) (fnF (N := ["mill", "row", "tables"]) (ps := ["mill", "row"]) (den := d_done) (by exact F) sc_done (b_done (zz_k_tables_of (P := P) Z) (zz_k_is_row_of (P := P) Z) (zz_r_InvalidRow (P := P) Z) (zz_k_sums_done (P := P) Z))) (fun _ _ _ _ _ _ us hl => match us, hl with | [_, _], _ => rfl) rfl
theorem zz_k_done_w10 (Z : Pre w K mg base h) : CalW P w K mg base "done" 7 ["row", "mill"] [1, 0] (runF 3 d_done) := by
  obtain ⟨fd, F⟩ := Z.S.def_ 63 (d := D63) rfl
  exact calW_mk (by exact F) (gloB_ok Z.X Z.G Z.C.fun_done) (fnF (N := ["mill", "row", "tables"]) (ps := ["mill", "row"]) (den := d_done) (by exact F) sc_done (b_done (zz_k_tables_of (P := P) Z) (zz_k_is_row_of (P := P) Z) (zz_r_InvalidRow (P := P) Z) (zz_k_sums_done (P := P) Z))) (fun _ _ _ _ _ _ ws hl => match ws, hl with | [_, _], _ => rfl) rfl
theorem zz_k_turned (Z : Pre w K mg base h) : Cal P w K mg base "turned" 8 1 [] (runF 4 d_turned) := by
  obtain ⟨fd, F⟩ := Z.S.def_ 64 (d := D64) rfl
  exact cal_mk (by exact F) (gloB_ok Z.X Z.G Z.C.fun_turned) (fnF (N := ["mill", "name", "takes", "gives"]) (ps := ["mill"]) (den := d_turned) (by exact F) sc_turned (b_turned (zz_k_need_mill (P := P) Z) (zz_m_Mill_recipes (P := P) Z) (zz_m_Mill_stuffs (P := P) Z) (zz_k_MillC (P := P) Z))) (fun _ _ _ _ _ _ us hl => match us, hl with | [_], _ => rfl) rfl
theorem zz_k_turned_w0 (Z : Pre w K mg base h) : CalW P w K mg base "turned" 8 ["mill"] [0] (runF 4 d_turned) := by
  obtain ⟨fd, F⟩ := Z.S.def_ 64 (d := D64) rfl
  exact calW_mk (by exact F) (gloB_ok Z.X Z.G Z.C.fun_turned) (fnF (N := ["mill", "name", "takes", "gives"]) (ps := ["mill"]) (den := d_turned) (by exact F) sc_turned (b_turned (zz_k_need_mill (P := P) Z) (zz_m_Mill_recipes (P := P) Z) (zz_m_Mill_stuffs (P := P) Z) (zz_k_MillC (P := P) Z))) (fun _ _ _ _ _ _ ws hl => match ws, hl with | [_], _ => rfl) rfl
theorem zz_k_law_caught (Z : Pre w K mg base h) : Cal P w K mg base "_law_caught" 9 2 [] (runF 5 d_law_caught) := by
  obtain ⟨fd, F⟩ := Z.S.def_ 65 (d := D65) rfl
  exact cal_mk (by exact F) (gloB_ok Z.X Z.G Z.C.fun__law_caught) (fnF (N := ["_law_door", "_law_rest", "_law_caught_here", "error", "_law_kinds"]) (ps := ["_law_door", "_law_rest"]) (den := d_law_caught) (by exact F) sc_law_caught (b_law_caught (zz_k_led (P := P) Z) (zz_k_narrows (P := P) Z) (zz_k_is_row (P := P) Z) (zz_k_done (P := P) Z) (zz_k_turned (P := P) Z) (zz_g_MillError Z) (zz_t_MillError Z) (zz_g_InvalidRow Z) (zz_f_isinstance Z) (zz_tis Z) (zz_g_InvalidHoldings Z) (zz_g_InvalidMill Z) (zz_x_value Z) (zz_f_repr Z) (zz_sys Z))) (fun _ _ _ _ _ _ us hl => match us, hl with | [_, _], _ => rfl) rfl
theorem zz_k_law_odd_holdings (Z : Pre w K mg base h) : Cal P w K mg base "_law_odd_holdings" 2 2 [] (runF 6 d_law_odd_holdings) := by
  obtain ⟨fd, F⟩ := Z.S.def_ 66 (d := D66) rfl
  exact cal_mk (by exact F) (gloB_ok Z.X Z.G Z.C.fun__law_odd_holdings) (fnF (N := ["_law_works", "_law_held", "_law_found", "_law_odds", "_law_room", "_law_odd"]) (ps := ["_law_works", "_law_held"]) (den := d_law_odd_holdings) (by exact F) sc_law_odd_holdings (b_law_odd_holdings (zz_f_tuple Z) (zz_m_Mill_stuffs (P := P) Z))) (fun _ _ _ _ _ _ us hl => match us, hl with | [_, _], _ => rfl) rfl
theorem zz_k_law_odd_rows (Z : Pre w K mg base h) : Cal P w K mg base "_law_odd_rows" 1 1 [] (runF 2 d_law_odd_rows) := by
  obtain ⟨fd, F⟩ := Z.S.def_ 67 (d := D67) rfl
  exact cal_mk (by exact F) (gloB_ok Z.X Z.G Z.C.fun__law_odd_rows) (fnF (N := ["_law_name", "_law_found"]) (ps := ["_law_name"]) (den := d_law_odd_rows) (by exact F) sc_law_odd_rows b_law_odd_rows) (fun _ _ _ _ _ _ us hl => match us, hl with | [_], _ => rfl) rfl
theorem zz_k_law_refused (Z : Pre w K mg base h) : Cal P w K mg base "_law_refused" 10 3 [] (runF 5 d_law_refused) := by
  obtain ⟨fd, F⟩ := Z.S.def_ 68 (d := D68) rfl
  exact cal_mk (by exact F) (gloB_ok Z.X Z.G Z.C.fun__law_refused) (fnF (N := ["_law_works", "_law_held", "_law_name", "_law_bad", "_law_door"]) (ps := ["_law_works", "_law_held", "_law_name"]) (den := d_law_refused) (by exact F) sc_law_refused (b_law_refused (zz_m_Mill_recipes (P := P) Z) (zz_f_range Z) (zz_k_law_caught (P := P) Z) (zz_f_repr Z) (zz_sys Z) (zz_k_law_odd_holdings (P := P) Z) (zz_k_law_odd_rows (P := P) Z) (zz_k_is_row (P := P) Z))) (fun _ _ _ _ _ _ us hl => match us, hl with | [_, _, _], _ => rfl) rfl
theorem zz_o_Mill (Z : Pre w K mg base h) : OwnEqK P w K mg base "Mill" 1 (runP (runF 2 d_Mill_eq)) := by
  obtain ⟨fd, F⟩ := Z.S.def_ 69 (d := D69) rfl
  exact own_mk (clsChk_ok Z.C.cls_Mill).1 (ownChk_ok Z.C.own_Mill) (by exact F) (fnF (N := ["self", "other"]) (ps := ["self", "other"]) (den := d_Mill_eq) (by exact F) sc_Mill_eq (b_Mill_eq (zz_g_Mill Z) (zz_f_isinstance Z) (zz_tis Z) (zz_a__stuffs Z) (zz_a__recipes Z))).peek (fun _ _ _ _ _ _ us hl => match us, hl with | [_, _], _ => rfl) rfl
end
theorem all_facts {P : Program} {w : World} {K : PySem.W.Frag} {h : Heap} {mg : Str → Option Value} {f : Addr} (X : K.In h) (G : h.Ns mainGlobals mg) (hfa : mg ("law" : Str) = some (.ref f)) (c : ck K = true) (S : SaysD [] fn K) :
    ∃ fd : FuncData, (∀ (s : Shared) (v : Value), BindsTo s fd ⟨[v], []⟩ [("_law_script", v)]) ∧ ∀ base : Heap, K.In base → base.Ns mainGlobals mg → FnX P w K mg base 11 f fd ["_law_script"] (spH K 1 (runF 9 d_law)) := by
  have C := cks c
  obtain ⟨fd, F⟩ := S.def_ 70 (d := D70) rfl
  have e := hfa.symm.trans (gloB_ok X G C.fun_law)
  cases e
  have bl := FunD.bindsA (ps := ["_law_script"]) F fun _ _ _ _ _ _ us hl => match us, hl with | [_], _ => rfl
  refine ⟨fd, fun s v => bl s [v] rfl, fun base _ _ => ?_⟩
  have Z : Pre w K mg base h := ⟨X, G, C, S⟩
  exact (fnF (N := ["_law_script", "_law_index", "_law_generator_here", "_law_parts", "_law_works", "_law_held", "_law_small", "_law_late", "_law_door"]) (ps := ["_law_script"]) (den := d_law) (by exact F) sc_law (b_law (zz_f_range Z) (zz_k_law_generatorB (P := P) Z) (zz_k_law_randomC (P := P) Z) (zz_k_law_mill_drawnC (P := P) Z) (zz_k_law_held_drawnC (P := P) Z) (zz_k_MillC (P := P) Z) (zz_k_law_refused (P := P) Z) (zz_k_MillC_w10 (P := P) Z) (zz_k_law_caught (P := P) Z) (zz_f_repr Z) (zz_sys Z) (zz_k_led_w210 (P := P) Z) (zz_k_narrows_w210 (P := P) Z) (zz_k_done_w10 (P := P) Z) (zz_k_turned_w0 (P := P) Z) (zz_o_Mill (P := P) Z) (zz_k_is_row_w210 (P := P) Z)))
end K13
end
section
/-! What readings come to, step by step (for simp). -/
namespace L2.Hy
open PySem PySem.Spec PyProof.Rows
section
variable {α β : Type} {S : Store} {ρ : Env} {a b c : SDen} {da db dc : Den} {dd : AD} {td te : TD} {i j n m : Nat} {d x y : D} {ds : List D} {F : List D → Mx D}
@[simp] theorem v_ret (a : α) : (mret a : Mx α) S = some (.ok a, S) := id rfl
@[simp] theorem v_none : (mnone : Mx α) S = none := id rfl
@[simp] theorem v_bind {k : α → Mx β} {mm : Mx α} : mbind mm k S = match mm S with
  | some (.ok a, S1) => k a S1
  | some (.ex c f d, S1) => some (.ex c f d, S1)
  | none => none := id rfl
@[simp] theorem v_ite {γ : Type} {p : Prop} [Decidable p] {f g : Store → γ} : (if p then f else g) S = if p then f S else g S := by split <;> rfl
@[simp] theorem v_dC : dC d ρ S = some (.ok d, S) := id rfl
@[simp] theorem v_dV : dV i ρ S = match ρ[i]? with
  | some (some d) => some (.ok d, S)
  | _ => none := by
  unfold dV
  split <;> simp_all
@[simp] theorem v_d2 {f : D → D → Mx D} : d2 f da db ρ S = mbind (da ρ) (fun x => mbind (db ρ) fun y => f x y) S := id rfl
@[simp] theorem v_d1 {f : D → Mx D} : d1 f da ρ S = mbind (da ρ) f S := id rfl
@[simp] theorem v_seq : sSeq a b ρ S = match a ρ S with
  | some (.nx ρ1, S1) => b ρ1 S1
  | r => r := id rfl
@[simp] theorem v_nil : sNil ρ S = some (.nx ρ, S) := id rfl
@[simp] theorem v_lift {mm : Mx α} {k : α → Sx} : lift ρ mm k S = match mm S with
  | some (.ok a, S1) => k a S1
  | some (.ex c f d, S1) => some (.xc ρ c f d, S1)
  | none => none := id rfl
@[simp] theorem v_sOu {o : Ou} : sOu o S = some (o, S) := id rfl
@[simp] theorem v_sNo : sNo S = none := id rfl
@[simp] theorem v_if : sIf td a b ρ S = lift ρ (td ρ) (fun c => if c = true then a ρ else b ρ) S := id rfl
@[simp] theorem v_sret : sRet da ρ S = lift ρ (da ρ) (fun d => sOu (.rt d)) S := id rfl
@[simp] theorem v_sexp : sExp da ρ S = lift ρ (da ρ) (fun _ => sOu (.nx ρ)) S := id rfl
@[simp] theorem v_asg {bd : Bd} : sAsg bd da ρ S = lift ρ (da ρ) (fun d => match bd.go d ρ with
  | some ρ1 => sOu (.nx ρ1)
  | none => sNo) S := id rfl
@[simp] theorem v_par : sPar i j dd ρ S = lift ρ (dd ρ) (fun ds => match ds with
  | [x, y] => sOu (.nx ((ρ.set i (some x)).set j (some y)))
  | _ => sNo) S := id rfl
@[simp] theorem v_bN : (bN i).go d ρ = some (ρ.set i (some d)) := id rfl
@[simp] theorem v_bNil0 : bNil.go [] ρ = some ρ := id rfl
@[simp] theorem v_bCons1 {bd : Bd} {bs : Bds} : (bCons bd bs).go (d :: ds) ρ = (bd.go d ρ).bind (bs.go ds) := id rfl
@[simp] theorem v_bTup {bs : Bds} : (bTup n bs).go (.tup ds) ρ = if ds.length = n then bs.go ds ρ else none := id rfl
@[simp] theorem v_aNil : aNil ρ S = some (.ok [], S) := id rfl
@[simp] theorem v_aCons : aCons da dd ρ S = mbind (da ρ) (fun x => mbind (dd ρ) fun xs => mret (x :: xs)) S := id rfl
@[simp] theorem v_lst {b : Bool} : dLst b dd ρ S = mbind (dd ρ) (allocL b) S := id rfl
@[simp] theorem v_tup : dTup dd ρ S = mbind (dd ρ) allocT S := id rfl
@[simp] theorem v_allocF : allocL false ds S = if ds.length ≤ 16777216 then some (.ok (.lst ds), S) else none := by
  unfold allocL
  simp
@[simp] theorem v_allocC : allocL true ds S = if ds.length ≤ 16777216 then some (.ok (.h S.length), S ++ [some (.cl ds)]) else none := by
  unfold allocL
  simp
@[simp] theorem v_allocT : allocT ds S = if ds.length ≤ 16777216 then some (.ok (.tup ds), S) else none := id rfl
@[simp] theorem v_dCB : dCB F dd ρ S = mbind (dd ρ) F S := id rfl
@[simp] theorem v_call {dds : List D} : dCall n F dds dd ρ S = mbind (dd ρ) (fun ds => if ds.length + dds.length = n then F (ds ++ dds) else mnone) S := id rfl
@[simp] theorem v_bool : dBool da ρ S = mbind (da ρ) boolD S := id rfl
@[simp] theorem v_tru : dTru da ρ S = mbind (da ρ) truD S := id rfl
@[simp] theorem v_boolD {b : Bool} : boolD (.bl b) = mret b := id rfl
@[simp] theorem v_truBl {b : Bool} : truD (.bl b) S = some (.ok b, S) := id rfl
@[simp] theorem v_truNon : truD .non S = some (.ok false, S) := id rfl
@[simp] theorem v_tdNot : tdNot td ρ S = mbind (td ρ) (fun c => mret !c) S := id rfl
@[simp] theorem v_tdAnd : tdAnd td te ρ S = mbind (td ρ) (fun c => if c = true then te ρ else mret false) S := id rfl
@[simp] theorem v_tdOr : tdOr td te ρ S = mbind (td ρ) (fun c => if c = true then mret true else te ρ) S := id rfl
@[simp] theorem v_tdYes : tdYes ρ S = some (.ok true, S) := id rfl
@[simp] theorem v_dNot : dNot da ρ S = mbind (da ρ) (fun d => mbind (boolD d) fun c => mret (.bl !c)) S := id rfl
@[simp] theorem v_dAnd : dAnd da db ρ S = mbind (da ρ) (fun d => mbind (boolD d) fun c => if c = true then db ρ else mret (.bl false)) S := id rfl
@[simp] theorem v_dOr : dOr da db ρ S = mbind (da ρ) (fun d => mbind (boolD d) fun c => if c = true then mret (.bl true) else db ρ) S := id rfl
@[simp] theorem v_dIf : dIf td da db ρ S = mbind (td ρ) (fun c => if c = true then da ρ else db ρ) S := id rfl
@[simp] theorem v_chain {f g : D → D → Mx D} : dChain f g da db dc ρ S = mbind (da ρ) (fun x => mbind (db ρ) fun y => mbind (f x y) fun z => mbind (boolD z) fun k => if k = true then mbind (dc ρ) fun w => g y w else mret (.bl false)) S := id rfl
@[simp] theorem v_II {g : Int → Int → D} {p q : Int} : fII g (.int p) (.int q) = mret (g p q) := id rfl
@[simp] theorem v_IIc {cc : Int → Int → Bool} {g : Int → Int → D} {p q : Int} : fIIc cc g (.int p) (.int q) = if cc p q then mret (g p q) else mnone := id rfl
@[simp] theorem v_on1 {f : D → Mx D} : on1 f [x] = f x := id rfl
@[simp] theorem v_on2 {f : D → D → Mx D} : on2 f [x, y] = f x y := id rfl
@[simp] theorem v_mOf {o : Store → Option α} : mOf o S = (o S).map fun a => (.ok a, S) := id rfl
@[simp] theorem v_isN {ng : Bool} : fIsN ng x .non S = (isNon x).map fun b => (.ok (.bl (if ng = true then !b else b)), S) := by
  cases x <;> simp [fIsN, isNon]
@[simp] theorem v_isNon0 : isNon .non = some true := id rfl
@[simp] theorem v_isNon1 {z : Int} : isNon (.int z) = some false := id rfl
@[simp] theorem v_isNon2 {z : Str} : isNon (.str z) = some false := id rfl
@[simp] theorem v_isNon3 {z : Bool} : isNon (.bl z) = some false := id rfl
@[simp] theorem v_isNon4 : isNon (.tup ds) = some false := id rfl
@[simp] theorem v_isNon5 : isNon (.lst ds) = some false := id rfl
@[simp] theorem v_isNon6 {c f : Str} : isNon (.exc c f d) = some false := id rfl
@[simp] theorem v_isNon7 {c : Str} {fs : List (Str × D)} : isNon (.obj c fs) = some false := id rfl
@[simp] theorem v_isNon8 : isNon (.h n) = some false := id rfl
@[simp] theorem v_app : dApp da dd ρ S = mbind (da ρ) (fun x => mbind (mOf fun S => lstD S x) fun _ => mbind (dd ρ) fun ds => fApp x ds) S := id rfl
@[simp] theorem v_fApp : fApp (.h n) [y] S = match S[n]? with
  | some (some (.cl ds)) => if ds.length < 16777216 then some (.ok .non, S.set n (some (.cl (ds ++ [y])))) else none
  | _ => none := id rfl
@[simp] theorem v_lstL : lstD S (.lst ds) = some ds := id rfl
@[simp] theorem v_lstH : lstD S (.h n) = match S[n]? with
  | some (some (.cl ds)) => some ds
  | _ => none := id rfl
@[simp] theorem v_seqL : seqD S (.lst ds) = some ds := id rfl
@[simp] theorem v_seqT : seqD S (.tup ds) = some ds := id rfl
@[simp] theorem v_seqS {is : List Int} : seqD S (.scr is) = some (is.map D.int) := id rfl
@[simp] theorem v_seqH : seqD S (.h n) = match S[n]? with
  | some (some (.cl ds)) => some ds
  | _ => none := id rfl
@[simp] theorem v_ixT {k : Int} : fIx (.tup ds) (.int k) S = (atI ds k).map fun a => (.ok a, S) := by simp [fIx]
@[simp] theorem v_ixL {k : Int} : fIx (.lst ds) (.int k) S = (atI ds k).map fun a => (.ok a, S) := by simp [fIx]
@[simp] theorem v_ixS {k : Int} {is : List Int} : fIx (.scr is) (.int k) S = (atI (is.map D.int) k).map fun a => (.ok a, S) := by simp [fIx]
@[simp] theorem v_ixH {k : Int} : fIx (.h n) (.int k) S = ((match S[n]? with
  | some (some (.cl ds)) => some ds
  | _ => none).bind fun ds => atI ds k).map fun a => (.ok a, S) := by simp [fIx]
@[simp] theorem v_at0 : atI (x :: ds) 0 = some x := by simp [atI, ixN]
@[simp] theorem v_at1 : atI (x :: y :: ds) 1 = some y := by
  have h : (1 : Int) < ((x :: y :: ds).length : Nat) := by simp only [List.length_cons]; omega
  simp only [atI, ixN, h, if_true]
  rfl
@[simp] theorem v_at2 {z : D} : atI (x :: y :: z :: ds) 2 = some z := by
  have h : (2 : Int) < ((x :: y :: z :: ds).length : Nat) := by simp only [List.length_cons]; omega
  simp only [atI, ixN, h, if_true]
  rfl
@[simp] theorem v_at3 {z t : D} : atI (x :: y :: z :: t :: ds) 3 = some t := by
  have h : (3 : Int) < ((x :: y :: z :: t :: ds).length : Nat) := by simp only [List.length_cons]; omega
  simp only [atI, ixN, h, if_true]
  rfl
@[simp] theorem v_sraise {c f : Str} : sRaise c f dd ρ S = lift ρ (dd ρ) (fun ds => match ds with
  | [d] => sOu (.xc ρ c f d)
  | _ => sNo) S := id rfl
@[simp] theorem v_forA {bd : Bd} : sForA da bd b ρ S = lift ρ (da ρ) (fun d => match d with
  | .h n => loopC n bd b 10000 0 ρ
  | .lst ds => loopX bd b ds ρ
  | .tup ds => loopX bd b ds ρ
  | .str z => loopX bd b (sgD z) ρ
  | _ => sNo) S := id rfl
@[simp] theorem v_for {it : Env → Mx (List D)} {bd : Bd} : sFor it bd b ρ S = lift ρ (it ρ) (fun ds => loopX bd b ds ρ) S := id rfl
@[simp] theorem v_loop0 {bd : Bd} : loopX bd b [] ρ S = some (.nx ρ, S) := id rfl
theorem v_loop1 {bd : Bd} : loopX bd b (d :: ds) ρ S = match bd.go d ρ with
    | none => none
    | some ρ1 => match b ρ1 S with
      | some (.nx ρ2, S2) => loopX bd b ds ρ2 S2
      | some (.ct ρ2, S2) => loopX bd b ds ρ2 S2
      | some (.bk ρ2, S2) => some (.nx ρ2, S2)
      | r => r := by
  rw [loopX]
  cases bd.go d ρ <;> rfl
@[simp] theorem v_lcA {bb : Bool} {vs : List Nat} {bd : Bd} : dLcA bb vs da bd td dc ρ S = mbind (da ρ) (fun d => mbind (itX bd td dc (wipeE ρ vs) d) (allocL bb)) S := id rfl
@[simp] theorem v_lc {bb : Bool} {vs : List Nat} {it : Env → Mx (List D)} {bd : Bd} : dLc bb vs it bd td dc ρ S = mbind (it ρ) (fun ds => mbind (lcX bd td dc (wipeE ρ vs) ds) (allocL bb)) S := id rfl
@[simp] theorem v_itL {bd : Bd} : itX bd td dc ρ (.lst ds) = lcX bd td dc ρ ds := id rfl
@[simp] theorem v_itT {bd : Bd} : itX bd td dc ρ (.tup ds) = lcX bd td dc ρ ds := id rfl
@[simp] theorem v_itStr {bd : Bd} {z : Str} : itX bd td dc ρ (.str z) = lcX bd td dc ρ (sgD z) := id rfl
@[simp] theorem v_wipe0 : wipeE ρ [] = ρ := id rfl
@[simp] theorem v_wipe1 {vs : List Nat} : wipeE ρ (n :: vs) = (wipeE ρ vs).set n none := id rfl
@[simp] theorem v_lcX0 {bd : Bd} : lcX bd td dc ρ [] S = some (.ok [], S) := id rfl
theorem v_lcX1 {bd : Bd} : lcX bd td dc ρ (d :: ds) S = match bd.go d ρ with
    | none => none
    | some ρ1 => mbind (mNox (td ρ1)) (fun c => if c = true then mbind (mNox (dc ρ1)) fun x => mbind (lcX bd td dc ρ ds) fun xs => mret (x :: xs) else lcX bd td dc ρ ds) S := by
  rw [lcX]
  cases bd.go d ρ <;> rfl
@[simp] theorem v_nox {mm : Mx α} : mNox mm S = match mm S with
  | some (.ok a, S1) => some (.ok a, S1)
  | _ => none := id rfl
theorem v_frz : dFrz da ρ S = mbind (da ρ) frz S := id rfl
theorem v_make {c : Str} {dds : List D} : dMake c n F dds dd ρ S = mbind (dd ρ) (fun ds S => if 1 + ds.length + dds.length = n then
    mbind (F (.h S.length :: (ds ++ dds))) (fun z => match z with
      | .non => mret (.h S.length)
      | _ => mnone) (S ++ [some (.ci c [])])
  else none) S := id rfl
@[simp] theorem v_meth {ok : Str → Bool} {mm : Str} {dds : List D} : dMeth ok mm n F dds da dd ρ S = mbind (da ρ) (fun o => mbind (mOf fun S => match objD S o with
  | some (c, fs) => if ok c = true ∧ fs.lookup mm = none then some () else none
  | none => none) fun _ => mbind (dd ρ) fun ds => if 1 + ds.length + dds.length = n then F (o :: (ds ++ dds)) else mnone) S := id rfl
@[simp] theorem v_fldH {ok : Str → Bool} {f : Str} : sFldH ok f da db ρ S = lift ρ (mbind (db ρ) fun v => mbind (da ρ) fun o => fPut ok f o v) (fun _ => sOu (.nx ρ)) S := id rfl
@[simp] theorem v_put {ok : Str → Bool} {f : Str} : fPut ok f (.h n) d S = match S[n]? with
    | some (some (.ci c fs)) => if ok c = true ∧ fs.length < 1000 then some (.ok (), S.set n (some (.ci c (putD f d fs)))) else none
    | _ => none := id rfl
@[simp] theorem v_objO {c : Str} {fs : List (Str × D)} : objD S (.obj c fs) = some (c, fs) := id rfl
@[simp] theorem v_objH : objD S (.h n) = match S[n]? with
    | some (some (.ci c fs)) => some (c, fs)
    | _ => none := id rfl
@[simp] theorem v_fld {ok : Str → Bool} {f : Str} : fFld ok f x S = (match objD S x with
  | some (c, fs) => if ok c = true then fs.lookup f else none
  | none => none).map fun a => (.ok a, S) := id rfl
@[simp] theorem v_sub : sSub da db dc ρ S = lift ρ (mbind (dc ρ) fun v => mbind (da ρ) fun o => mbind (db ρ) fun i => fSet o i v) (fun _ => sOu (.nx ρ)) S := id rfl
@[simp] theorem v_add {p q : Den} : dAdd p q ρ S = mbind (p ρ) (fun x => mbind (q ρ) fun y => fII (fun i j => .int (i + j)) x y) S := id rfl
@[simp] theorem v_subI {p q : Den} : dSub p q ρ S = mbind (p ρ) (fun x => mbind (q ρ) fun y => fII (fun i j => .int (i - j)) x y) S := id rfl
@[simp] theorem v_lt {p q : Den} : dLt p q ρ S = mbind (p ρ) (fun x => mbind (q ρ) fun y => fII (fun i j => .bl (decide (i < j))) x y) S := id rfl
@[simp] theorem v_le {p q : Den} : dLe p q ρ S = mbind (p ρ) (fun x => mbind (q ρ) fun y => fII (fun i j => .bl (decide (i ≤ j))) x y) S := id rfl
@[simp] theorem v_gt {p q : Den} : dGt p q ρ S = mbind (p ρ) (fun x => mbind (q ρ) fun y => fII (fun i j => .bl (decide (j < i))) x y) S := id rfl
@[simp] theorem v_ge {p q : Den} : dGe p q ρ S = mbind (p ρ) (fun x => mbind (q ρ) fun y => fII (fun i j => .bl (decide (j ≤ i))) x y) S := id rfl
@[simp] theorem v_lenL : fLen [.lst ds] S = some (.ok (.int ds.length), S) := by simp [fLen, lenD]
@[simp] theorem v_lenT : fLen [.tup ds] S = some (.ok (.int ds.length), S) := by simp [fLen, lenD]
@[simp] theorem v_lenS {is : List Int} : fLen [.scr is] S = some (.ok (.int is.length), S) := by simp [fLen, lenD]
@[simp] theorem v_lenH : fLen [.h n] S = ((match S[n]? with
  | some (some (.cl ds)) => some ds
  | _ => none).map fun (ds : List D) => (.ok (.int ds.length), S)) := by
  simp only [fLen, lenD, v_on1, v_mOf, v_seqH, Option.map_map]
  rfl
theorem v_lenStr {z : Str} (h : z.length ≤ 16777216) : fLen [.str z] S = some (.ok (.int z.length), S) := by simp [fLen, lenD, h]
@[simp] theorem v_listF {b : Bool} : fList b [x] S = match seqD S x with
  | some ds => allocL b ds S
  | none => none := id rfl
@[simp] theorem v_all : fAll [x] S = ((lstD S x).bind fun ds => (blsD ds).map fun bs => .bl (bs.all fun b => b)).map fun a => (.ok a, S) := id rfl
@[simp] theorem v_int {k : Int} : fInt [.int k] S = some (.ok (.int k), S) := id rfl
/-! calls of defs -/
theorem v_runF {den : SDen} (h : D.los 0 ds = true) : runF n den ds S = match runB n den ds [] with
  | some (r, _) => if r.lo 0 = true then some (r, S) else none
  | none => none := by
  unfold runF
  rw [if_pos h]
  rfl
theorem v_runB {den : SDen} : runB n den ds S = match den (ds.map some ++ List.replicate (n - ds.length) none) S with
  | some (.nx _, S1) => some (.ok .non, S1)
  | some (.rt d, S1) => some (.ok d, S1)
  | some (.xc _ c f d, S1) => some (.ex c f d, S1)
  | _ => none := id rfl
/-- a def that reads settled values and tells a settled one -/
theorem v_F {den : SDen} {r : D} {S' : Store} (h : D.los 0 ds = true) (e : den (ds.map some ++ List.replicate (n - ds.length) none) [] = some (.rt r, S')) (hr : D.lo 0 r = true) : runF n den ds S = some (.ok r, S) := by
  rw [v_runF h, v_runB, e]
  simp [Rz.lo, hr]
theorem v_F0 {den : SDen} {ρ' : Env} {S' : Store} (h : D.los 0 ds = true) (e : den (ds.map some ++ List.replicate (n - ds.length) none) [] = some (.nx ρ', S')) : runF n den ds S = some (.ok .non, S) := by
  rw [v_runF h, v_runB, e]
  rfl
theorem v_Fx {den : SDen} {ρ' : Env} {S' : Store} {c f : Str} {r : D} (h : D.los 0 ds = true) (e : den (ds.map some ++ List.replicate (n - ds.length) none) [] = some (.xc ρ' c f r, S')) (hr : D.lo 0 r = true) : runF n den ds S = some (.ex c f r, S) := by
  rw [v_runF h, v_runB, e]
  simp [Rz.lo, hr]
theorem v_Fe {den : SDen} {r : D} (h : D.los 0 ds = true) (e : ∃ S', den (ds.map some ++ List.replicate (n - ds.length) none) [] = some (.rt r, S')) (hr : D.lo 0 r = true) : runF n den ds S = some (.ok r, S) := e.elim fun _ e => v_F h e hr
theorem v_F0e {den : SDen} (h : D.los 0 ds = true) (e : ∃ ρ' S', den (ds.map some ++ List.replicate (n - ds.length) none) [] = some (.nx ρ', S')) : runF n den ds S = some (.ok .non, S) := by
  obtain ⟨_, _, e⟩ := e
  exact v_F0 h e
theorem v_Fxe {den : SDen} {c f : Str} {r : D} (h : D.los 0 ds = true) (e : ∃ ρ' S', den (ds.map some ++ List.replicate (n - ds.length) none) [] = some (.xc ρ' c f r, S')) (hr : D.lo 0 r = true) : runF n den ds S = some (.ex c f r, S) := by
  obtain ⟨_, _, e⟩ := e
  exact v_Fx h e hr
/-! one step, by what it comes to -/
theorem loop_nx {bd : Bd} {ρ1 ρ2 : Env} {S2 : Store} (h : bd.go d ρ = some ρ1) (e : b ρ1 S = some (.nx ρ2, S2)) : loopX bd b (d :: ds) ρ S = loopX bd b ds ρ2 S2 := by
  rw [v_loop1, h]
  dsimp only
  rw [e]
theorem loop_rt {bd : Bd} {ρ1 : Env} {S2 : Store} {r : D} (h : bd.go d ρ = some ρ1) (e : b ρ1 S = some (.rt r, S2)) : loopX bd b (d :: ds) ρ S = some (.rt r, S2) := by
  rw [v_loop1, h]
  dsimp only
  rw [e]
theorem loop_xc {bd : Bd} {ρ1 ρ2 : Env} {S2 : Store} {c f : Str} {r : D} (h : bd.go d ρ = some ρ1) (e : b ρ1 S = some (.xc ρ2 c f r, S2)) : loopX bd b (d :: ds) ρ S = some (.xc ρ2 c f r, S2) := by
  rw [v_loop1, h]
  dsimp only
  rw [e]
theorem seq_nx {ρ1 : Env} {S1 : Store} {o : Option (Ou × Store)} (h : a ρ S = some (.nx ρ1, S1)) (e : b ρ1 S1 = o) : sSeq a b ρ S = o := by
  rw [v_seq, h]
  exact e
theorem seq_rt {S1 : Store} {r : D} (h : a ρ S = some (.rt r, S1)) : sSeq a b ρ S = some (.rt r, S1) := by
  rw [v_seq, h]
theorem seq_xc {ρ1 : Env} {S1 : Store} {c f : Str} {r : D} (h : a ρ S = some (.xc ρ1 c f r, S1)) : sSeq a b ρ S = some (.xc ρ1 c f r, S1) := by
  rw [v_seq, h]
theorem if_t {S1 : Store} {o : Option (Ou × Store)} (h : td ρ S = some (.ok true, S1)) (e : a ρ S1 = o) : sIf td a b ρ S = o := by
  rw [v_if, v_lift, h]
  exact e
theorem if_f {S1 : Store} {o : Option (Ou × Store)} (h : td ρ S = some (.ok false, S1)) (e : b ρ S1 = o) : sIf td a b ρ S = o := by
  rw [v_if, v_lift, h]
  exact e
theorem asg_n {S1 : Store} (h : da ρ S = some (.ok x, S1)) : sAsg (bN i) da ρ S = some (.nx (ρ.set i (some x)), S1) := by
  rw [v_asg, v_lift, h]
  rfl
theorem ret_d {S1 : Store} (h : da ρ S = some (.ok x, S1)) : sRet da ρ S = some (.rt x, S1) := by
  rw [v_sret, v_lift, h]
  rfl
theorem for_d {S1 : Store} {it : Env → Mx (List D)} {bd : Bd} {o : Option (Ou × Store)} (h : it ρ S = some (.ok ds, S1)) (e : loopX bd b ds ρ S1 = o) : sFor it bd b ρ S = o := by
  rw [v_for, v_lift, h]
  exact e
theorem forA_l {S1 : Store} {bd : Bd} {o : Option (Ou × Store)} (h : da ρ S = some (.ok (.lst ds), S1)) (e : loopX bd b ds ρ S1 = o) : sForA da bd b ρ S = o := by
  rw [v_forA, v_lift, h]
  exact e
theorem runB_rt {den : SDen} {S1 : Store} {r : D} (e : den (ds.map some ++ List.replicate (n - ds.length) none) S = some (.rt r, S1)) : runB n den ds S = some (.ok r, S1) := by
  rw [v_runB, e]
theorem runB_nx {den : SDen} {S1 : Store} {ρ1 : Env} (e : den (ds.map some ++ List.replicate (n - ds.length) none) S = some (.nx ρ1, S1)) : runB n den ds S = some (.ok .non, S1) := by
  rw [v_runB, e]
theorem runB_xc {den : SDen} {S1 : Store} {ρ1 : Env} {c f : Str} {r : D} (e : den (ds.map some ++ List.replicate (n - ds.length) none) S = some (.xc ρ1 c f r, S1)) : runB n den ds S = some (.ex c f r, S1) := by
  rw [v_runB, e]
theorem bind_ok {mm : Mx α} {k : α → Mx β} {aa : α} {S1 : Store} {o : Option (Rz β × Store)} (h : mm S = some (.ok aa, S1)) (e : k aa S1 = o) : mbind mm k S = o := by
  rw [v_bind, h]
  exact e
theorem lc_d {it : Env → Mx (List D)} {bd : Bd} {vs : List Nat} {S1 S2 : Store} {rs : List D} (h : it ρ S = some (.ok ds, S1)) (e : lcX bd td dc (wipeE ρ vs) ds S1 = some (.ok rs, S2)) (l : rs.length ≤ 16777216) : dLc false vs it bd td dc ρ S = some (.ok (.lst rs), S2) := by
  rw [v_lc]
  refine bind_ok h (bind_ok e ?_)
  rw [v_allocF, if_pos l]
theorem lcA_d {bd : Bd} {vs : List Nat} {S1 S2 : Store} {rs : List D} (h : da ρ S = some (.ok (.lst ds), S1)) (e : lcX bd td dc (wipeE ρ vs) ds S1 = some (.ok rs, S2)) (l : rs.length ≤ 16777216) : dLcA false vs da bd td dc ρ S = some (.ok (.lst rs), S2) := by
  rw [v_lcA]
  refine bind_ok h (bind_ok (by rw [v_itL]; exact e) ?_)
  rw [v_allocF, if_pos l]
theorem par_d {S1 : Store} (h : dd ρ S = some (.ok [x, y], S1)) : sPar i j dd ρ S = some (.nx ((ρ.set i (some x)).set j (some y)), S1) := by
  rw [v_par, v_lift, h]
  rfl
theorem args2 {S1 S2 : Store} (h : da ρ S = some (.ok x, S1)) (e : db ρ S1 = some (.ok y, S2)) : aCons da (aCons db aNil) ρ S = some (.ok [x, y], S2) := by
  rw [v_aCons]
  refine bind_ok h ?_
  rw [v_bind, v_aCons]
  rw [bind_ok e (o := some (.ok [y], S2)) (by rfl)]
  rfl
theorem args1 {S1 : Store} (h : da ρ S = some (.ok x, S1)) : aCons da aNil ρ S = some (.ok [x], S1) := by
  rw [v_aCons]
  exact bind_ok h rfl
theorem call1 {S1 : Store} {o : Option (Rz D × Store)} (h : da ρ S = some (.ok x, S1)) (e : F [x] S1 = o) : dCall 1 F [] (aCons da aNil) ρ S = o := by
  rw [v_call]
  refine bind_ok (args1 h) ?_
  simpa using e
theorem call2 {S1 S2 : Store} {o : Option (Rz D × Store)} (h : da ρ S = some (.ok x, S1)) (h2 : db ρ S1 = some (.ok y, S2)) (e : F [x, y] S2 = o) : dCall 2 F [] (aCons da (aCons db aNil)) ρ S = o := by
  rw [v_call]
  refine bind_ok (args2 h h2) ?_
  simpa using e
end
end L2.Hy
end
section
/-! Plain data: settled, compared, looked for. -/
namespace L2.Hy
open PySem PySem.Spec PyProof.Rows
/-! ### settling what is settled -/
mutual
theorem frzG_id (r : Nat → Mx D) (S : Store) : ∀ d : D, D.lo 0 d = true → frzG r d S = some (.ok d, S)
  | .non, _ => rfl
  | .bl _, _ => rfl
  | .int _, _ => rfl
  | .str _, _ => rfl
  | .ty _, _ => rfl
  | .cls _, _ => rfl
  | .nfn _, _ => rfl
  | .scr _, _ => rfl
  | .tup ds, h => by
    rw [frzG]
    simp [frzsG_id r S ds (by simpa [D.lo] using h)]
  | .lst ds, h => by
    rw [frzG]
    simp [frzsG_id r S ds (by simpa [D.lo] using h)]
  | .dct ds, h => by
    rw [frzG]
    simp [frzkG_id r S ds (by simpa [D.lo] using h)]
  | .obj c ds, h => by
    rw [frzG]
    simp [frzfG_id r S ds (by simpa [D.lo] using h)]
  | .exc c f d, h => by
    rw [frzG]
    simp [frzG_id r S d (by simpa [D.lo] using h)]
  | .h n, h => by simp [D.lo] at h
theorem frzsG_id (r : Nat → Mx D) (S : Store) : ∀ ds : List D, D.los 0 ds = true → frzsG r ds S = some (.ok ds, S)
  | [], _ => rfl
  | d :: ds, h => by
    simp only [D.los, Bool.and_eq_true] at h
    rw [frzsG]
    simp [frzG_id r S d h.1, frzsG_id r S ds h.2]
theorem frzkG_id (r : Nat → Mx D) (S : Store) : ∀ ds : List (Key × D), D.lok 0 ds = true → frzkG r ds S = some (.ok ds, S)
  | [], _ => rfl
  | (k, d) :: ds, h => by
    simp only [D.lok, Bool.and_eq_true] at h
    rw [frzkG]
    simp [frzG_id r S d h.1, frzkG_id r S ds h.2]
theorem frzfG_id (r : Nat → Mx D) (S : Store) : ∀ ds : List (Str × D), D.lof 0 ds = true → frzfG r ds S = some (.ok ds, S)
  | [], _ => rfl
  | (k, d) :: ds, h => by
    simp only [D.lof, Bool.and_eq_true] at h
    rw [frzfG]
    simp [frzG_id r S d h.1, frzfG_id r S ds h.2]
end
theorem frz_id {d : D} {S : Store} (h : D.lo 0 d = true) : frz d S = some (.ok d, S) := by
  unfold frz
  rw [if_pos h]
  rfl
/-- a cell that holds what is settled -/
theorem frz_cl {n : Nat} {S : Store} {ds : List D} (e : S[n]? = some (some (.cl ds))) (h : D.los 0 ds = true) : frz (.h n) S = some (.ok (.lst ds), S.set n none) := by
  unfold frz
  rw [if_neg (by simp [D.lo])]
  show rFz 8 n S = _
  rw [rFz]
  simp [e, frzsG_id (rFz 7) (S.set n none) ds h]
theorem frz_ci {n : Nat} {S : Store} {c : Str} {fs : List (Str × D)} (e : S[n]? = some (some (.ci c fs))) (h : D.lof 0 fs = true) : frz (.h n) S = some (.ok (.obj c fs), S.set n none) := by
  unfold frz
  rw [if_neg (by simp [D.lo])]
  show rFz 8 n S = _
  rw [rFz]
  simp [e, frzfG_id (rFz 7) (S.set n none) fs h]
/-! ### plain data -/
mutual
/-- None, truth values, whole numbers, texts, and lists and tuples of such, at most k deep -/
def okD : Nat → D → Bool
  | _, .non => true
  | _, .bl _ => true
  | _, .int _ => true
  | _, .str x => PyData.strOk x
  | k + 1, .tup ds => okDs k ds
  | k + 1, .lst ds => okDs k ds
  | _, _ => false
def okDs : Nat → List D → Bool
  | _, [] => true
  | k, d :: ds => okD k d && okDs k ds
end
mutual
/-- no truth values -/
def nbD : D → Bool
  | .bl _ => false
  | .tup ds => nbDs ds
  | .lst ds => nbDs ds
  | _ => true
def nbDs : List D → Bool
  | [] => true
  | d :: ds => nbD d && nbDs ds
end
mutual
/-- == of data -/
def eqD : D → D → Bool
  | .non, .non => true
  | .bl a, .bl b => a == b
  | .bl a, .int j => (if a then 1 else 0) == j
  | .int i, .bl b => i == (if b then 1 else 0)
  | .int i, .int j => i == j
  | .str x, .str y => x == y
  | .lst xs, .lst ys => eqDs xs ys
  | .tup xs, .tup ys => eqDs xs ys
  | _, _ => false
def eqDs : List D → List D → Bool
  | [], [] => true
  | x :: xs, y :: ys => eqD x y && eqDs xs ys
  | _, _ => false
end
mutual
/-- the data of a value -/
def pdD : D → PyData
  | .bl b => .bool b
  | .int i => .int i
  | .str x => .str x
  | .tup ds => .tuple (pdDs ds)
  | .lst ds => .list (pdDs ds)
  | _ => .none
def pdDs : List D → List PyData
  | [] => []
  | d :: ds => pdD d :: pdDs ds
end
mutual
theorem pdG_D (r : Nat → Option PyData) : ∀ (k : Nat) (d : D), okD k d = true → pdG r d = some (pdD d)
  | _, .non, _ => rfl
  | _, .bl _, _ => rfl
  | _, .int _, _ => rfl
  | _, .str _, _ => rfl
  | k + 1, .tup ds, h => by
    rw [okD] at h
    rw [pdG, pdsG_D r k ds h, pdD]
    rfl
  | k + 1, .lst ds, h => by
    rw [okD] at h
    rw [pdG, pdsG_D r k ds h, pdD]
    rfl
  | 0, .tup _, h => by simp [okD] at h
  | 0, .lst _, h => by simp [okD] at h
  | k, .ty _, h => by cases k <;> simp [okD] at h
  | k, .cls _, h => by cases k <;> simp [okD] at h
  | k, .nfn _, h => by cases k <;> simp [okD] at h
  | k, .scr _, h => by cases k <;> simp [okD] at h
  | k, .dct _, h => by cases k <;> simp [okD] at h
  | k, .obj _ _, h => by cases k <;> simp [okD] at h
  | k, .exc _ _ _, h => by cases k <;> simp [okD] at h
  | k, .h _, h => by cases k <;> simp [okD] at h
theorem pdsG_D (r : Nat → Option PyData) : ∀ (k : Nat) (ds : List D), okDs k ds = true → pdsG r ds = some (pdDs ds)
  | _, [], _ => rfl
  | k, d :: ds, h => by
    rw [okDs, Bool.and_eq_true] at h
    rw [pdsG, pdG_D r k d h.1, pdsG_D r k ds h.2]
    rfl
end
mutual
theorem pdD_can : ∀ (k : Nat) (d : D), okD k d = true → (pdD d).canLay0 = true ∧ (pdD d).depth ≤ k
  | k, .non, _ => ⟨by simp [pdD, PyData.canLay0], by simp [pdD, PyData.depth]⟩
  | k, .bl _, _ => ⟨by simp [pdD, PyData.canLay0], by simp [pdD, PyData.depth]⟩
  | k, .int _, _ => ⟨by simp [pdD, PyData.canLay0], by simp [pdD, PyData.depth]⟩
  | k, .str _, h => ⟨by cases k <;> (rw [okD] at h; simpa [pdD, PyData.canLay0] using h), by simp [pdD, PyData.depth]⟩
  | k + 1, .tup ds, h => by
    rw [okD] at h
    obtain ⟨h1, h2⟩ := pdDs_can k ds h
    exact ⟨by simpa [pdD, PyData.canLay0] using h1, by rw [pdD, PyData.depth]; omega⟩
  | k + 1, .lst ds, h => by
    rw [okD] at h
    obtain ⟨h1, h2⟩ := pdDs_can k ds h
    exact ⟨by simpa [pdD, PyData.canLay0] using h1, by rw [pdD, PyData.depth]; omega⟩
  | 0, .tup _, h => by simp [okD] at h
  | 0, .lst _, h => by simp [okD] at h
  | k, .ty _, h => by cases k <;> simp [okD] at h
  | k, .cls _, h => by cases k <;> simp [okD] at h
  | k, .nfn _, h => by cases k <;> simp [okD] at h
  | k, .scr _, h => by cases k <;> simp [okD] at h
  | k, .dct _, h => by cases k <;> simp [okD] at h
  | k, .obj _ _, h => by cases k <;> simp [okD] at h
  | k, .exc _ _ _, h => by cases k <;> simp [okD] at h
  | k, .h _, h => by cases k <;> simp [okD] at h
theorem pdDs_can : ∀ (k : Nat) (ds : List D), okDs k ds = true → PyData.canLayAll0 (pdDs ds) = true ∧ PyData.depthAll (pdDs ds) ≤ k
  | k, [], _ => ⟨by simp [pdDs, PyData.canLayAll0], by simp [pdDs, PyData.depthAll]⟩
  | k, d :: ds, h => by
    rw [okDs, Bool.and_eq_true] at h
    obtain ⟨h1, h2⟩ := pdD_can k d h.1
    obtain ⟨h3, h4⟩ := pdDs_can k ds h.2
    exact ⟨by simp [pdDs, PyData.canLayAll0, h1, h3], by rw [pdDs, PyData.depthAll]; omega⟩
end
mutual
theorem eqv_D : ∀ (k : Nat) (x y : D) , okD k x = true → okD k y = true → PyData.eqv (pdD x) (pdD y) = eqD x y
  | 0, x, y, hx, hy => by cases x <;> cases y <;> first | (simp [okD] at hx; done) | (simp [okD] at hy; done) | simp [pdD, PyData.eqv, eqD]
  | k + 1, x, y, hx, hy => by
    cases x <;> cases y <;> first | (simp [okD] at hx; done) | (simp [okD] at hy; done) | (simp [pdD, PyData.eqv, eqD]; done) | skip
    · rw [okD] at hx hy
      simp [pdD, PyData.eqv, eqD, eqvs_D k _ _ hx hy]
    · rw [okD] at hx hy
      simp [pdD, PyData.eqv, eqD, eqvs_D k _ _ hx hy]
theorem eqvs_D : ∀ (k : Nat) (xs ys : List D), okDs k xs = true → okDs k ys = true → PyData.eqvAll (pdDs xs) (pdDs ys) = eqDs xs ys
  | k, [], [], _, _ => by simp [pdDs, PyData.eqvAll, eqDs]
  | k, [], _ :: _, _, _ => by simp [pdDs, PyData.eqvAll, eqDs]
  | k, _ :: _, [], _, _ => by simp [pdDs, PyData.eqvAll, eqDs]
  | k, x :: xs, y :: ys, hx, hy => by
    rw [okDs, Bool.and_eq_true] at hx hy
    simp [pdDs, PyData.eqvAll, eqDs, eqv_D k x y hx.1 hy.1, eqvs_D k xs ys hx.2 hy.2]
end
theorem shaped_D {d : D} {k : Nat} (h : okD k d = true) (hk : k ≤ 64) : SeqAt.shaped (pdD d) = true := by
  obtain ⟨h1, h2⟩ := pdD_can k d h
  unfold SeqAt.shaped
  rw [h1, decide_eq_true (by omega)]
  rfl
theorem pd_D {S : Store} {d : D} {k : Nat} (h : okD k d = true) : pd S d = some (pdD d) := pdG_D _ k d h
/-- == of plain data -/
theorem fEq_D {S : Store} {x y : D} {ng : Bool} (hx : okD 20 x = true) (hy : okD 20 y = true) : fEq ng x y S = some (.ok (.bl (if ng = true then !eqD x y else eqD x y)), S) := by
  unfold fEq
  rw [v_mOf, pd_D hx, pd_D hy]
  dsimp only
  rw [if_pos ⟨shaped_D hx (by decide), shaped_D hy (by decide)⟩, eqv_D 20 x y hx hy]
  rfl
mutual
theorem eqD_iff : ∀ (k : Nat) (x y : D), okD k x = true → okD k y = true → nbD x = true → nbD y = true → (eqD x y = true ↔ x = y)
  | 0, x, y, hx, hy, nx, ny => by cases x <;> cases y <;> first | (simp [okD] at hx; done) | (simp [okD] at hy; done) | (simp [nbD] at nx; done) | (simp [nbD] at ny; done) | simp [eqD]
  | k + 1, x, y, hx, hy, nx, ny => by
    cases x <;> cases y <;> first | (simp [okD] at hx; done) | (simp [okD] at hy; done) | (simp [nbD] at nx; done) | (simp [nbD] at ny; done) | (simp [eqD]; done) | skip
    · rw [okD] at hx hy
      rw [nbD] at nx ny
      rw [eqD, eqDs_iff k _ _ hx hy nx ny]
      simp
    · rw [okD] at hx hy
      rw [nbD] at nx ny
      rw [eqD, eqDs_iff k _ _ hx hy nx ny]
      simp
theorem eqDs_iff : ∀ (k : Nat) (xs ys : List D), okDs k xs = true → okDs k ys = true → nbDs xs = true → nbDs ys = true → (eqDs xs ys = true ↔ xs = ys)
  | _, [], [], _, _, _, _ => by simp [eqDs]
  | _, [], _ :: _, _, _, _, _ => by simp [eqDs]
  | _, _ :: _, [], _, _, _, _ => by simp [eqDs]
  | k, x :: xs, y :: ys, hx, hy, nx, ny => by
    rw [okDs, Bool.and_eq_true] at hx hy
    rw [nbDs, Bool.and_eq_true] at nx ny
    rw [eqDs, Bool.and_eq_true, eqD_iff k x y hx.1 hy.1 nx.1 ny.1, eqDs_iff k xs ys hx.2 hy.2 nx.2 ny.2]
    simp
end
/-- x in xs, of plain data -/
theorem fIn_D {S : Store} {x : D} {ys : List D} {ng : Bool} (hx : okD 20 x = true) (hy : okDs 20 ys = true) : fIn ng x (.lst ys) S = some (.ok (.bl (if ng = true then !(ys.any fun z => eqD z x) else ys.any fun z => eqD z x)), S) := by
  have h2 : okD 21 (.lst ys) = true := by rw [okD]; exact hy
  have e : ∀ zs : List D, okDs 20 zs = true → ((pdDs zs).any fun z => PyData.eqv z (pdD x)) = zs.any fun z => eqD z x := by
    intro zs h
    induction zs with
    | nil => rfl
    | cons z zs ih =>
      rw [okDs, Bool.and_eq_true] at h
      rw [pdDs, List.any_cons, List.any_cons, ih h.2, eqv_D 20 z x h.1 hx]
  unfold fIn
  rw [v_mOf, pd_D hx, pd_D h2, pdD]
  dsimp only
  rw [if_pos ⟨shaped_D hx (by decide), by have := shaped_D h2 (by decide); rwa [pdD] at this⟩, e ys hy]
  rfl
/-- .. of a list that may still be changed -/
theorem fIn_H {S : Store} {x : D} {ys : List D} {n : Nat} {ng : Bool} (hS : S[n]? = some (some (.cl ys))) (hx : okD 20 x = true) (hy : okDs 20 ys = true) : fIn ng x (.h n) S = some (.ok (.bl (if ng = true then !(ys.any fun z => eqD z x) else ys.any fun z => eqD z x)), S) := by
  have e0 : pd S (.h n) = pd S (.lst ys) := by
    unfold pd
    have e : rH S 8 n = (pdsG (rH S 7) ys).map .list := by
      show (match S[n]? with
        | some (some (.cl ds)) => (pdsG (rH S 7) ds).map PyData.list
        | _ => none) = _
      rw [hS]
    rw [show pdG (rH S 8) (.h n) = rH S 8 n from by rw [pdG], show pdG (rH S 8) (.lst ys) = (pdsG (rH S 8) ys).map .list from by rw [pdG], e, pdsG_D _ 20 ys hy, pdsG_D _ 20 ys hy]
  have e1 := fIn_D (S := S) (ng := ng) hx hy
  unfold fIn at e1 ⊢
  rw [v_mOf] at e1 ⊢
  rw [e0]
  exact e1
theorem any_str {x : Str} : ∀ {xs : List Str}, ((xs.map D.str).any fun z => eqD z (.str x)) = decide (x ∈ xs)
  | [] => rfl
  | y :: ys => by
    rw [List.map_cons, List.any_cons, any_str, eqD]
    by_cases h : y = x
    · subst h
      simp
    · have h2 : ¬ x = y := fun z => h z.symm
      simp [h, h2]
theorem okDs_str {k : Nat} : ∀ {xs : List Str}, xs.all (fun x => PyData.strOk x) = true → okDs k (xs.map D.str) = true
  | [], _ => by cases k <;> rfl
  | x :: xs, h => by
    rw [List.all_cons, Bool.and_eq_true] at h
    rw [List.map_cons, okDs, okDs_str h.2]
    cases k <;> simp [okD, h.1]
/-- texts that are written out -/
@[simp] theorem ofS_inj {a b : String} : (PySem.Str.ofString a = PySem.Str.ofString b) ↔ a = b := by
  constructor
  · intro h
    rw [PySem.Str.ofString_eq_toList, PySem.Str.ofString_eq_toList] at h
    injection h with h
    have h := congrArg Array.toList h
    simp only at h
    have inj : ∀ l m : List Char, l.map Char.toNat = m.map Char.toNat → l = m := by
      intro l
      induction l with
      | nil =>
        intro m e
        cases m with
        | nil => rfl
        | cons _ _ => cases e
      | cons c l ih =>
        intro m e
        cases m with
        | nil => cases e
        | cons d m =>
          injection e with e1 e2
          rw [ih m e2, Char.toNat_inj.mp e1]
    exact String.toList_inj.mp (inj _ _ h)
  · rintro rfl
    rfl
/-! for simp -/
section
variable {k : Nat} {S : Store} {x y : D} {ds es : List D}
@[simp] theorem ok_non : okD k .non = true := by cases k <;> rfl
@[simp] theorem ok_bl {b : Bool} : okD k (.bl b) = true := by cases k <;> rfl
@[simp] theorem ok_int {i : Int} : okD k (.int i) = true := by cases k <;> rfl
@[simp] theorem ok_str {z : Str} : okD k (.str z) = PyData.strOk z := by cases k <;> rfl
@[simp] theorem ok_tup : okD (k + 1) (.tup ds) = okDs k ds := id rfl
@[simp] theorem ok_lst : okD (k + 1) (.lst ds) = okDs k ds := id rfl
@[simp] theorem oks_nil : okDs k [] = true := by cases k <;> rfl
@[simp] theorem oks_cons : okDs k (x :: ds) = (okD k x && okDs k ds) := by cases k <;> rfl
@[simp] theorem oks_app : okDs k (ds ++ es) = (okDs k ds && okDs k es) := by
  induction ds with
  | nil => simp
  | cons d ds ih => simp [ih, Bool.and_assoc]
@[simp] theorem nb_non : nbD .non = true := id rfl
@[simp] theorem nb_int {i : Int} : nbD (.int i) = true := id rfl
@[simp] theorem nb_str {z : Str} : nbD (.str z) = true := id rfl
@[simp] theorem nb_tup : nbD (.tup ds) = nbDs ds := id rfl
@[simp] theorem nb_lst : nbD (.lst ds) = nbDs ds := id rfl
@[simp] theorem nbs_nil : nbDs [] = true := id rfl
@[simp] theorem nbs_cons : nbDs (x :: ds) = (nbD x && nbDs ds) := id rfl
@[simp] theorem nbs_app : nbDs (ds ++ es) = (nbDs ds && nbDs es) := by
  induction ds with
  | nil => simp
  | cons d ds ih => simp [ih, Bool.and_assoc]
@[simp] theorem eq_ii {i j : Int} : eqD (.int i) (.int j) = (i == j) := id rfl
@[simp] theorem eq_ss {i j : Str} : eqD (.str i) (.str j) = (i == j) := id rfl
@[simp] theorem eq_nn : eqD .non .non = true := id rfl
@[simp] theorem eq_ll : eqD (.lst ds) (.lst es) = eqDs ds es := id rfl
@[simp] theorem eq_tt : eqD (.tup ds) (.tup es) = eqDs ds es := id rfl
@[simp] theorem eqs_cc : eqDs (x :: ds) (y :: es) = (eqD x y && eqDs ds es) := id rfl
@[simp] theorem eqs_nn : eqDs [] [] = true := id rfl
@[simp] theorem lo_str {n : Nat} {z : Str} : D.lo n (.str z) = true := id rfl
@[simp] theorem lo_int {n : Nat} {z : Int} : D.lo n (.int z) = true := id rfl
@[simp] theorem lo_non {n : Nat} : D.lo n .non = true := id rfl
@[simp] theorem lo_bl {n : Nat} {b : Bool} : D.lo n (.bl b) = true := id rfl
@[simp] theorem lo_tup {n : Nat} : D.lo n (.tup ds) = D.los n ds := id rfl
@[simp] theorem lo_lst {n : Nat} : D.lo n (.lst ds) = D.los n ds := id rfl
@[simp] theorem lo_h {n m : Nat} : D.lo n (.h m) = decide (m < n) := id rfl
@[simp] theorem lo_obj {n : Nat} {c : Str} {fs : List (Str × D)} : D.lo n (.obj c fs) = D.lof n fs := id rfl
@[simp] theorem lo_exc {n : Nat} {c f : Str} {d : D} : D.lo n (.exc c f d) = D.lo n d := id rfl
@[simp] theorem los_nil {n : Nat} : D.los n [] = true := id rfl
@[simp] theorem los_cons {n : Nat} : D.los n (x :: ds) = (D.lo n x && D.los n ds) := id rfl
@[simp] theorem lof_nil {n : Nat} : D.lof n [] = true := id rfl
@[simp] theorem lof_cons {n : Nat} {f : Str} {fs : List (Str × D)} : D.lof n ((f, x) :: fs) = (D.lo n x && D.lof n fs) := id rfl
@[simp] theorem los_app {n : Nat} {a b : List D} : D.los n (a ++ b) = (D.los n a && D.los n b) := by
  induction a with
  | nil => simp
  | cons x a ih => simp [ih, Bool.and_assoc]
theorem los_map {α : Type} {f : α → D} {n : Nat} (h : ∀ a, D.lo n (f a) = true) : ∀ l : List α, D.los n (l.map f) = true
  | [] => rfl
  | a :: l => by simp [h, los_map h l]
theorem oks_map {α : Type} {f : α → D} : ∀ {l : List α}, (∀ a ∈ l, okD k (f a) = true) → okDs k (l.map f) = true
  | [], _ => by simp
  | a :: l, h => by simp [h a (List.mem_cons_self), oks_map fun b hb => h b (List.mem_cons_of_mem _ hb)]
theorem nbs_map {α : Type} {f : α → D} : ∀ {l : List α}, (∀ a ∈ l, nbD (f a) = true) → nbDs (l.map f) = true
  | [], _ => by simp
  | a :: l, h => by simp [h a (List.mem_cons_self), nbs_map fun b hb => h b (List.mem_cons_of_mem _ hb)]
theorem fIn_strs {x : Str} {xs : List Str} {ng : Bool} (hx : PyData.strOk x = true) (h : ∀ a ∈ xs, PyData.strOk a = true) : fIn ng (.str x) (.lst (xs.map D.str)) S = some (.ok (.bl (if ng = true then !decide (x ∈ xs) else decide (x ∈ xs))), S) := by
  rw [fIn_D (by simp [hx]) (okDs_str (List.all_eq_true.mpr h)), any_str]
theorem fIn_strsH {n : Nat} {x : Str} {xs : List Str} {ng : Bool} (hS : S[n]? = some (some (.cl (xs.map D.str)))) (hx : PyData.strOk x = true) (h : ∀ a ∈ xs, PyData.strOk a = true) : fIn ng (.str x) (.h n) S = some (.ok (.bl (if ng = true then !decide (x ∈ xs) else decide (x ∈ xs))), S) := by
  rw [fIn_H hS (by simp [hx]) (okDs_str (List.all_eq_true.mpr h)), any_str]
theorem lc_map {α : Type} {f g : α → D} {bd : Bd} {de : Den} {ρ : Env} : ∀ {xs : List α}, (∀ a ∈ xs, ∃ ρ1, bd.go (f a) ρ = some ρ1 ∧ de ρ1 S = some (.ok (g a), S)) → lcX bd tdYes de ρ (xs.map f) S = some (.ok (xs.map g), S)
  | [], _ => rfl
  | a :: xs, h => by
    obtain ⟨ρ1, e1, e2⟩ := h a (List.mem_cons_self)
    rw [List.map_cons, v_lcX1, e1]
    simp [e2, lc_map fun b hb => h b (List.mem_cons_of_mem _ hb)]
/-! greater rooms -/
mutual
theorem lo_mono {n m : Nat} (hm : n ≤ m) : ∀ d : D, D.lo n d = true → D.lo m d = true
  | .non, _ => rfl
  | .bl _, _ => rfl
  | .int _, _ => rfl
  | .str _, _ => rfl
  | .ty _, _ => rfl
  | .cls _, _ => rfl
  | .nfn _, _ => rfl
  | .scr _, _ => rfl
  | .tup ds, h => los_mono hm ds h
  | .lst ds, h => los_mono hm ds h
  | .dct ds, h => lok_mono hm ds h
  | .obj _ ds, h => lof_mono hm ds h
  | .exc _ _ d, h => lo_mono hm d h
  | .h k, h => by
    have := of_decide_eq_true (show decide (k < n) = true from h)
    exact decide_eq_true (by omega)
theorem los_mono {n m : Nat} (hm : n ≤ m) : ∀ ds : List D, D.los n ds = true → D.los m ds = true
  | [], _ => rfl
  | d :: ds, h => by
    have h := (show (D.lo n d && D.los n ds) = true from h)
    rw [Bool.and_eq_true] at h
    show (D.lo m d && D.los m ds) = true
    rw [lo_mono hm d h.1, los_mono hm ds h.2]
    rfl
theorem lok_mono {n m : Nat} (hm : n ≤ m) : ∀ ds : List (Key × D), D.lok n ds = true → D.lok m ds = true
  | [], _ => rfl
  | (_, d) :: ds, h => by
    have h := (show (D.lo n d && D.lok n ds) = true from h)
    rw [Bool.and_eq_true] at h
    show (D.lo m d && D.lok m ds) = true
    rw [lo_mono hm d h.1, lok_mono hm ds h.2]
    rfl
theorem lof_mono {n m : Nat} (hm : n ≤ m) : ∀ ds : List (Str × D), D.lof n ds = true → D.lof m ds = true
  | [], _ => rfl
  | (_, d) :: ds, h => by
    have h := (show (D.lo n d && D.lof n ds) = true from h)
    rw [Bool.and_eq_true] at h
    show (D.lo m d && D.lof m ds) = true
    rw [lo_mono hm d h.1, lof_mono hm ds h.2]
    rfl
end
theorem oLo_mono {n m : Nat} (hm : n ≤ m) : ∀ o : Option Cell, oLo n o = true → oLo m o = true
  | none, _ => rfl
  | some (.cl ds), h => los_mono hm ds h
  | some (.cd ds), h => lok_mono hm ds h
  | some (.ci _ ds), h => lof_mono hm ds h
/-- a store that refers to its own cells alone -/
def Clo (S : Store) : Prop := S.all (oLo S.length) = true
theorem Clo.app {S : Store} (h : Clo S) {o : Option Cell} (ho : oLo (S.length + 1) o = true) : Clo (S ++ [o]) := by
  unfold Clo at *
  rw [List.all_append, List.all_cons, List.all_nil, Bool.and_true, List.length_append]
  rw [Bool.and_eq_true]
  refine ⟨List.all_eq_true.mpr fun x hx => oLo_mono (Nat.le_succ _) x (List.all_eq_true.mp h x hx), ho⟩
theorem Clo.set {S : Store} (h : Clo S) {n : Nat} {o : Option Cell} (ho : oLo S.length o = true) : Clo (S.set n o) := by
  unfold Clo at *
  rw [List.length_set, List.all_eq_true]
  intro x hx
  rcases List.mem_or_eq_of_mem_set hx with z | z
  · exact List.all_eq_true.mp h x z
  · rw [z]
    exact ho
/-- a def that changes one of the cells that it is handed -/
theorem v_C {n : Nat} {den : SDen} {ds : List D} {r : D} {S' : Store} (e : runB n den ds S = some (.ok r, S')) (hl : S'.length = S.length) (hr : D.lo S.length r = true) (hc : Clo S') : runC n den ds S = some (.ok r, S') := by
  unfold runC mCut
  rw [e]
  dsimp only
  have ht : S'.take S.length = S' := by
    rw [← hl]
    exact List.take_length
  rw [ht, if_pos]
  refine ⟨hr, ?_⟩
  unfold Clo at hc
  rw [← hl]
  exact hc
theorem snaps_id : ∀ {ds : List D}, D.los 0 ds = true → snaps S ds = some ds
  | [], _ => rfl
  | d :: ds, h => by
    rw [los_cons, Bool.and_eq_true] at h
    unfold snaps snap
    rw [if_pos h.1, snaps_id h.2]
/-- a look at what is settled -/
theorem v_P {F : List D → Mx D} {d : D} {S' : Store} (h : D.los 0 ds = true) (e : F ds [] = some (.ok d, S')) (hf : flatD d = true) : runP F ds S = some (.ok d, S) := by
  unfold runP
  rw [snaps_id h]
  dsimp only
  rw [e]
  simp [hf]
/-- .. and makes cells of its own -/
theorem v_C2 {n : Nat} {den : SDen} {ds : List D} {r : D} {S1 T : Store} (e : runB n den ds S = some (.ok r, S1 ++ T)) (hl : S1.length = S.length) (hr : D.lo S.length r = true) (hc : Clo S1) : runC n den ds S = some (.ok r, S1) := by
  unfold runC mCut
  rw [e]
  dsimp only
  have ht : (S1 ++ T).take S.length = S1 := by
    rw [← hl]
    exact List.take_left
  rw [ht, if_pos]
  refine ⟨hr, ?_⟩
  unfold Clo at hc
  rw [← hl]
  exact hc
end
end L2.Hy
end
section
namespace K13
open PySem PySem.Spec PyProof.Rows L2 L2.Hy He
/-! kinds -/
theorem is_b {S : Store} {d : D} {a b : String} {k : Bool} (h : tgD S oc xc d = some (.b a)) (e : kq (.b a) (.b b) = some k) : fIs oc xc kq [d, .ty b] S = some (.ok (.bl k), S) := by
  simp [fIs, h, clD, e]
@[simp] theorem kq_ii : kq (.b "int") (.b "int") = some true := by decide +kernel
@[simp] theorem kq_ib : kq (.b "int") (.b "bool") = some false := by decide +kernel
@[simp] theorem kq_tt : kq (.b "tuple") (.b "tuple") = some true := by decide +kernel
@[simp] theorem kq_ll : kq (.b "list") (.b "list") = some true := by decide +kernel
@[simp] theorem kq_ss : kq (.b "str") (.b "str") = some true := by decide +kernel
@[simp] theorem fis {S : Store} {d : D} {b : String} : fIs oc xc kq [d, .ty b] S = (match tgD S oc xc d with
  | some t => (kq t (.b b)).map D.bl
  | none => none).map fun a => (.ok a, S) := by
  unfold fIs
  simp only [v_on2, v_mOf, clD]
  cases tgD S oc xc d <;> rfl
@[simp] theorem tg_i {S : Store} {z : Int} : tgD S oc xc (.int z) = some (.b "int") := id rfl
@[simp] theorem tg_s {S : Store} {z : Str} : tgD S oc xc (.str z) = some (.b "str") := id rfl
@[simp] theorem tg_t {S : Store} {z : List D} : tgD S oc xc (.tup z) = some (.b "tuple") := id rfl
@[simp] theorem tg_l {S : Store} {z : List D} : tgD S oc xc (.lst z) = some (.b "list") := id rfl
@[simp] theorem whole {S : Store} (i : Int) : runF 1 d_is_whole [.int i] S = some (.ok (.bl true), S) := by
  refine v_F (S' := []) rfl (r := .bl true) ?_ rfl
  simp [d_is_whole]
@[simp] theorem wholeW {S : Store} (i a b : Int) : runF 3 d_is_whole_within [.int i, .int a, .int b] S = some (.ok (.bl (decide (a ≤ i) && decide (i ≤ b))), S) := by
  refine v_F rfl (S' := []) ?_ rfl
  by_cases h : a ≤ i <;> simp [d_is_whole_within, h]
@[simp] theorem listW {S : Store} (ds : List D) (h : D.los 0 ds = true) (a b : Int) : runF 3 d_is_list_within [.lst ds, .int a, .int b] S = some (.ok (.bl (decide (a ≤ ds.length) && decide ((ds.length : Int) ≤ b))), S) := by
  refine v_F (by simp [h]) (S' := []) ?_ rfl
  by_cases h : a ≤ ds.length <;> simp [d_is_list_within, h]
end K13
end
section
namespace K13
open PySem PySem.Spec PyProof.Rows L2 L2.Hy He
abbrev Sf := Str × Option Int
abbrev Sd := List (Str × Int)
abbrev Rc := Str × Sd × Sd
def roomD : Option Int → D
  | none => .non
  | some i => .int i
def sfD (s : Sf) : D := .tup [.str s.1, roomD s.2]
def prD (p : Str × Int) : D := .tup [.str p.1, .int p.2]
def sdD (s : Sd) : D := .lst (s.map prD)
def rcD (r : Rc) : D := .tup [.str r.1, sdD r.2.1, sdD r.2.2]
/-! settled -/
@[simp] theorem lo_room (r : Option Int) : D.lo 0 (roomD r) = true := by cases r <;> rfl
@[simp] theorem lo_sf (s : Sf) : D.lo 0 (sfD s) = true := by simp [sfD]
@[simp] theorem lo_pr (p : Str × Int) : D.lo 0 (prD p) = true := by simp [prD]
@[simp] theorem lo_sd (s : Sd) : D.lo 0 (sdD s) = true := by simp [sdD, los_map lo_pr]
@[simp] theorem lo_rc (r : Rc) : D.lo 0 (rcD r) = true := by simp [rcD]
@[simp] theorem los_sf (l : List Sf) : D.los 0 (l.map sfD) = true := los_map lo_sf l
@[simp] theorem los_rc (l : List Rc) : D.los 0 (l.map rcD) = true := los_map lo_rc l
@[simp] theorem los_pr (l : Sd) : D.los 0 (l.map prD) = true := los_map lo_pr l
/-- a name -/
structure NameOk (n : Str) : Prop where
  run : ∀ S, runF 2 d_is_name [.str n] S = some (.ok (.bl true), S)
  ok : PyData.strOk n = true
structure SfOk (s : Sf) : Prop where
  nm : NameOk s.1
  rm : ∀ i, s.2 = some i → 0 ≤ i ∧ i ≤ 1000000
theorem tup2 {S : Store} (x y : D) (h : D.lo 0 x = true) (h2 : D.lo 0 y = true) : runF 2 d_is_tuple_of [.tup [x, y], .int 2] S = some (.ok (.bl true), S) := by
  refine v_F (S' := []) (by simp [h, h2]) (r := .bl true) ?_ rfl
  simp [d_is_tuple_of, fEq_D]
theorem tup3 {S : Store} (x y z : D) (h : D.lo 0 x = true) (h2 : D.lo 0 y = true) (h3 : D.lo 0 z = true) : runF 2 d_is_tuple_of [.tup [x, y, z], .int 3] S = some (.ok (.bl true), S) := by
  refine v_F (S' := []) (by simp [h, h2, h3]) (r := .bl true) ?_ rfl
  simp [d_is_tuple_of, fEq_D]
theorem isStuff {s : Sf} (h : SfOk s) {S : Store} : runF 1 d_is_stuff [sfD s] S = some (.ok (.bl true), S) := by
  obtain ⟨n, r⟩ := s
  have hn := h.nm.run
  refine v_F (S' := []) (by simp) (r := .bl true) ?_ rfl
  dsimp only at hn
  cases r with
  | none => simp [d_is_stuff, sfD, roomD, tup2, hn]
  | some i =>
    have hr := h.rm i rfl
    simp [d_is_stuff, sfD, roomD, tup2, hn, hr.1, hr.2]
theorem needStuffs_loop (rest : List D) (X : D) : ∀ (ss : List Sf) (acc : List Str) (o : Option D), (∀ s ∈ ss, SfOk s) → (acc ++ ss.map (·.1)).Nodup → (∀ a ∈ acc, PyData.strOk a = true) → acc.length + ss.length ≤ 1000 →
    ∃ o', loopX (bN 2) lb_need_stuffs_1 (ss.map sfD ++ rest) [some X, some (.h 0), o] [some (.cl (acc.map D.str))] = loopX (bN 2) lb_need_stuffs_1 rest [some X, some (.h 0), o'] [some (.cl ((acc ++ ss.map (·.1)).map D.str))]
  | [], acc, o, _, _, _, _ => ⟨o, by simp⟩
  | s :: ss, acc, o, h, nd, ha, hl => by
    have h1 := h s (List.mem_cons_self)
    have hlen : acc.length < 16777216 := by simp at hl; omega
    have nin : s.1 ∉ acc := by
      intro z
      have := (List.nodup_append.mp nd).2.2 s.1 z s.1 (by simp)
      exact this rfl
    have hok : okDs 20 (acc.map D.str) = true := okDs_str (List.all_eq_true.mpr ha)
    have hs : okD 20 (.str s.1) = true := by simp [h1.nm.ok]
    obtain ⟨o', e⟩ := needStuffs_loop rest X ss (acc ++ [s.1]) (some (sfD s)) (fun t ht => h t (List.mem_cons_of_mem _ ht)) (by simpa using nd) (by
      intro a hm
      rcases List.mem_append.mp hm with z | z
      · exact ha a z
      · rw [List.mem_singleton] at z
        subst z
        exact h1.nm.ok) (by simp at hl ⊢; omega)
    refine ⟨o', ?_⟩
    rw [List.map_cons, List.cons_append, v_loop1]
    have e2 : ∀ {k : Int}, k = 0 → atI [D.str s.1, roomD s.2] k = some (.str s.1) := by rintro k rfl; simp
    have body : lb_need_stuffs_1 [some X, some (.h 0), some (sfD s)] [some (.cl (acc.map D.str))] = some (.nx [some X, some (.h 0), some (sfD s)], [some (.cl (acc.map D.str ++ [.str s.1]))]) := by
      have e3 : fIx (sfD s) (.int 0) = fun S => some (.ok (.str s.1), S) := by
        funext S
        simp [sfD]
      simp [lb_need_stuffs_1, isStuff h1, e3, fIn_H (n := 0) (S := [some (.cl (acc.map D.str))]) rfl hs hok, any_str, nin, hlen]
    simp only [v_bN, List.set_cons_succ, List.set_cons_zero]
    rw [body]
    simpa using e
end K13
end
section
namespace K13
open PySem PySem.Spec PyProof.Rows L2 L2.Hy He
theorem mem_app {α : Type} [DecidableEq α] {P : α → Prop} {acc : List α} {x : α} (h : ∀ a ∈ acc, P a) (hx : P x) : ∀ a ∈ acc ++ [x], P a := by
  intro a hm
  rcases List.mem_append.mp hm with z | z
  · exact h a z
  · rw [List.mem_singleton] at z
    subst z
    exact hx
theorem nin_of {α : Type} {acc : List α} {x : α} {l : List α} (nd : (acc ++ x :: l).Nodup) : x ∉ acc := by
  intro z
  exact (List.nodup_append.mp nd).2.2 x z x (by simp) rfl
structure SdOk (names : List Str) (s : Sd) : Prop where
  len : s.length ≤ names.length
  it : ∀ p ∈ s, p.1 ∈ names ∧ 1 ≤ p.2 ∧ p.2 ≤ 1000000
  nd : (s.map (·.1)).Nodup
theorem isSide_loop (names : List Str) (hn : ∀ a ∈ names, PyData.strOk a = true) (X : D) : ∀ (s : Sd) (acc : List Str) (o : Option D), (∀ p ∈ s, p.1 ∈ names ∧ 1 ≤ p.2 ∧ p.2 ≤ 1000000) → (acc ++ s.map (·.1)).Nodup → (∀ a ∈ acc, PyData.strOk a = true) → acc.length + s.length ≤ 1000 →
    ∃ ρ S', loopX (bN 3) lb_is_side_1 (s.map prD) [some (.lst (names.map D.str)), some X, some (.h 0), o] [some (.cl (acc.map D.str))] = some (.nx ρ, S')
  | [], acc, o, _, _, _, _ => ⟨_, _, by simp; exact ⟨rfl, rfl⟩⟩
  | p :: s, acc, o, h, nd, ha, hl => by
    obtain ⟨h1, h2, h3⟩ := h p (List.mem_cons_self)
    have hlen : acc.length < 16777216 := by simp at hl; omega
    have nin : p.1 ∉ acc := nin_of nd
    have hok : okDs 20 (acc.map D.str) = true := okDs_str (List.all_eq_true.mpr ha)
    have hnk : okDs 20 (names.map D.str) = true := okDs_str (List.all_eq_true.mpr hn)
    have hs : okD 20 (.str p.1) = true := by simp [hn _ h1]
    obtain ⟨ρ, S', e⟩ := isSide_loop names hn X s (acc ++ [p.1]) (some (prD p)) (fun t ht => h t (List.mem_cons_of_mem _ ht)) (by simpa using nd) (mem_app ha (hn _ h1)) (by simp at hl ⊢; omega)
    refine ⟨ρ, S', ?_⟩
    rw [List.map_cons, v_loop1]
    have body : lb_is_side_1 [some (.lst (names.map D.str)), some X, some (.h 0), some (prD p)] [some (.cl (acc.map D.str))] = some (.nx [some (.lst (names.map D.str)), some X, some (.h 0), some (prD p)], [some (.cl (acc.map D.str ++ [.str p.1]))]) := by
      simp [lb_is_side_1, prD, tup2, h2, h3, fIn_strs (hn _ h1) hn, fIn_strsH (n := 0) (S := [some (.cl (acc.map D.str))]) rfl (hn _ h1) ha, h1, nin, hlen]
    simp only [v_bN, List.set_cons_succ, List.set_cons_zero]
    rw [body]
    simpa using e
theorem isSide {names : List Str} (hn : ∀ a ∈ names, PyData.strOk a = true) (hl : names.length ≤ 100) {s : Sd} (h : SdOk names s) {S : Store} : runF 4 d_is_side [.lst (names.map D.str), sdD s] S = some (.ok (.bl true), S) := by
  have los : D.los 0 (names.map D.str) = true := los_map (fun _ => lo_str) names
  obtain ⟨ρ, S', e⟩ := isSide_loop names hn (sdD s) s [] none h.it (by simpa using h.nd) (by simp) (by have := h.len; simp; omega)
  refine v_F (S' := S') (by simp [los]) (r := .bl true) ?_ rfl
  have hlen : (s.length : Int) ≤ (names.length : Int) := by have := h.len; omega
  simp only [List.map_nil] at e
  simp [d_is_side, sdD, hlen] at e ⊢
  rw [e]
structure RcOk (names : List Str) (r : Rc) : Prop where
  nm : NameOk r.1
  t : SdOk names r.2.1
  g : SdOk names r.2.2
theorem isRecipe {names : List Str} (hn : ∀ a ∈ names, PyData.strOk a = true) (hl : names.length ≤ 100) {r : Rc} (h : RcOk names r) {S : Store} : runF 2 d_is_recipe [.lst (names.map D.str), rcD r] S = some (.ok (.bl true), S) := by
  have los : D.los 0 (names.map D.str) = true := los_map (fun _ => lo_str) names
  obtain ⟨n, t, g⟩ := r
  have h1 := h.nm.run
  have h2 := fun S => isSide (S := S) hn hl h.t
  have h3 := fun S => isSide (S := S) hn hl h.g
  dsimp only at h1 h2 h3
  refine v_F (S' := []) (by simp [los]) (r := .bl true) ?_ rfl
  simp [d_is_recipe, rcD, tup3, h1, h2, h3]
theorem needRecipes_loop (names : List Str) (hn : ∀ a ∈ names, PyData.strOk a = true) (hl : names.length ≤ 100) (rest : List D) (X : D) : ∀ (rs : List Rc) (acc : List Str) (o : Option D), (∀ s ∈ rs, RcOk names s) → (acc ++ rs.map (·.1)).Nodup → (∀ a ∈ acc, PyData.strOk a = true) → acc.length + rs.length ≤ 1000 →
    ∃ o', loopX (bN 3) lb_need_recipes_1 (rs.map rcD ++ rest) [some (.lst (names.map D.str)), some X, some (.h 0), o] [some (.cl (acc.map D.str))] = loopX (bN 3) lb_need_recipes_1 rest [some (.lst (names.map D.str)), some X, some (.h 0), o'] [some (.cl ((acc ++ rs.map (·.1)).map D.str))]
  | [], acc, o, _, _, _, _ => ⟨o, by simp⟩
  | s :: ss, acc, o, h, nd, ha, hl2 => by
    have h1 := h s (List.mem_cons_self)
    have hlen : acc.length < 16777216 := by simp at hl2; omega
    have nin : s.1 ∉ acc := nin_of nd
    have hok : okDs 20 (acc.map D.str) = true := okDs_str (List.all_eq_true.mpr ha)
    have hs : okD 20 (.str s.1) = true := by simp [h1.nm.ok]
    obtain ⟨o', e⟩ := needRecipes_loop names hn hl rest X ss (acc ++ [s.1]) (some (rcD s)) (fun t ht => h t (List.mem_cons_of_mem _ ht)) (by simpa using nd) (mem_app ha h1.nm.ok) (by simp at hl2 ⊢; omega)
    refine ⟨o', ?_⟩
    rw [List.map_cons, List.cons_append, v_loop1]
    have body : lb_need_recipes_1 [some (.lst (names.map D.str)), some X, some (.h 0), some (rcD s)] [some (.cl (acc.map D.str))] = some (.nx [some (.lst (names.map D.str)), some X, some (.h 0), some (rcD s)], [some (.cl (acc.map D.str ++ [.str s.1]))]) := by
      have e3 : fIx (rcD s) (.int 0) = fun S => some (.ok (.str s.1), S) := by
        funext S
        simp [rcD]
      simp [lb_need_recipes_1, isRecipe hn hl h1, e3, fIn_strsH (n := 0) (S := [some (.cl (acc.map D.str))]) rfl h1.nm.ok ha, nin, hlen]
    simp only [v_bN, List.set_cons_succ, List.set_cons_zero]
    rw [body]
    simpa using e
/-- stuffs and recipes of a mill -/
structure MillOk (ss : List Sf) (rs : List Rc) : Prop where
  s1 : 1 ≤ ss.length
  s8 : ss.length ≤ 8
  s : ∀ x ∈ ss, SfOk x
  sn : (ss.map (·.1)).Nodup
  r8 : rs.length ≤ 8
  r : ∀ x ∈ rs, RcOk (ss.map (·.1)) x
  rn : (rs.map (·.1)).Nodup
theorem needStuffs {ss : List Sf} (h : ∀ x ∈ ss, SfOk x) (h8 : ss.length ≤ 8) (nd : (ss.map (·.1)).Nodup) {S : Store} : runF 3 d_need_stuffs [.lst (ss.map sfD)] S = some (.ok .non, S) := by
  obtain ⟨o', e⟩ := needStuffs_loop [] (.lst (ss.map sfD)) ss [] none h (by simpa using nd) (by simp) (by simp; omega)
  simp only [List.append_nil, List.map_nil, v_loop0] at e
  exact v_F0e (by simp) ⟨_, _, Eq.trans (by simp [d_need_stuffs]) e⟩
theorem needRecipes {names : List Str} (hn : ∀ a ∈ names, PyData.strOk a = true) (hl : names.length ≤ 8) {rs : List Rc} (h : ∀ x ∈ rs, RcOk names x) (h8 : rs.length ≤ 8) (nd : (rs.map (·.1)).Nodup) {S : Store} : runF 4 d_need_recipes [.lst (names.map D.str), .lst (rs.map rcD)] S = some (.ok .non, S) := by
  have los : D.los 0 (names.map D.str) = true := los_map (fun _ => lo_str) names
  obtain ⟨o', e⟩ := needRecipes_loop names hn (by omega) [] (.lst (rs.map rcD)) rs [] none h (by simpa using nd) (by simp) (by simp; omega)
  simp only [List.append_nil, List.map_nil, v_loop0] at e
  exact v_F0e (by simp [los]) ⟨_, _, Eq.trans (by simp [d_need_recipes]) e⟩
end K13
end
section
namespace K13
open PySem PySem.Spec PyProof.Rows L2 L2.Hy He
theorem copied {rs : List Rc} (h : rs.length ≤ 1000) (ht : ∀ r ∈ rs, r.2.1.length ≤ 1000 ∧ r.2.2.length ≤ 1000) {S : Store} : runF 4 d_copied [.lst (rs.map rcD)] S = some (.ok (.lst (rs.map rcD)), S) := by
  refine v_F (by simp) (S' := []) ?_ (by simp)
  have e := lc_map (f := rcD) (g := rcD) (bd := bTup 3 (bCons (bN 1) (bCons (bN 2) (bCons (bN 3) bNil)))) (de := ce_copied_1) (ρ := [some (.lst (rs.map rcD)), none, none, none]) (S := []) (xs := rs) fun r hr => by
    obtain ⟨h1, h2⟩ := ht r hr
    refine ⟨[some (.lst (rs.map rcD)), some (.str r.1), some (sdD r.2.1), some (sdD r.2.2)], by simp [rcD], ?_⟩
    have l1 : r.2.1.length ≤ 16777216 := by omega
    have l2 : r.2.2.length ≤ 16777216 := by omega
    simp [ce_copied_1, sdD, rcD, l1, l2]
  have l : rs.length ≤ 16777216 := by omega
  simp [d_copied]
  rw [e]
  simp [l]
def millD (ss : List Sf) (rs : List Rc) : D := .obj "Mill" [("_stuffs", .lst (ss.map sfD)), ("_recipes", .lst (rs.map rcD))]
theorem MillOk.strs {ss : List Sf} {rs : List Rc} (h : MillOk ss rs) : ∀ a ∈ ss.map (·.1), PyData.strOk a = true := by
  intro a ha
  obtain ⟨s, hs, rfl⟩ := List.mem_map.mp ha
  exact (h.s s hs).nm.ok
theorem MillOk.sides {ss : List Sf} {rs : List Rc} (h : MillOk ss rs) : ∀ r ∈ rs, r.2.1.length ≤ 1000 ∧ r.2.2.length ≤ 1000 := by
  intro r hr
  have h1 := (h.r r hr).t.len
  have h2 := (h.r r hr).g.len
  have := h.s8
  simp at h1 h2
  omega
theorem init2 {ss : List Sf} {rs : List Rc} (h : MillOk ss rs) {S : Store} {n : Nat} (hn : S[n]? = some (some (.ci "Mill" []))) (hc : Clo S) :
    runC 5 d_Mill_init [.h n, .lst (ss.map sfD), .lst (rs.map rcD)] S = some (.ok .non, S.set n (some (.ci "Mill" [("_stuffs", .lst (ss.map sfD)), ("_recipes", .lst (rs.map rcD))]))) := by
  have hl : n < S.length := (List.getElem?_eq_some_iff.mp hn).1
  refine v_C ?_ (by simp) rfl (hc.set (by
    show D.lof S.length [("_stuffs", .lst (ss.map sfD)), ("_recipes", .lst (rs.map rcD))] = true
    simp [los_mono (Nat.zero_le S.length) _ (los_sf ss), los_mono (Nat.zero_le S.length) _ (los_rc rs)]))
  have s1 : (1 : Int) ≤ ss.length := by have := h.s1; omega
  have s8 : (ss.length : Int) ≤ 8 := by have := h.s8; omega
  have r8 : (rs.length : Int) ≤ 8 := by have := h.r8; omega
  have sl : ss.length ≤ 16777216 := by have := h.s8; omega
  have names : lcX (bTup 2 (bCons (bN 3) (bCons (bN 4) bNil))) tdYes (dV 3) [some (.h n), some (.lst (ss.map sfD)), some (.lst (rs.map rcD)), none, none] (ss.map sfD) S = some (.ok (ss.map fun s => D.str s.1), S) :=
    lc_map (f := sfD) (g := fun s => D.str s.1) fun s hs => ⟨[some (.h n), some (.lst (ss.map sfD)), some (.lst (rs.map rcD)), some (.str s.1), some (roomD s.2)], by simp [sfD], by simp⟩
  have nr : runF 4 d_need_recipes [.lst (ss.map fun s => D.str s.1), .lst (rs.map rcD)] S = some (.ok .non, S) := by
    have := needRecipes (S := S) h.strs (by simp; exact h.s8) h.r h.r8 h.rn
    rw [List.map_map] at this
    exact this
  have gs : ∀ o, (S.set n o)[n]? = some o := fun o => by rw [List.getElem?_set_self hl]
  have cp := copied (rs := rs) (S := S.set n (some (.ci "Mill" [("_stuffs", .lst (ss.map sfD))]))) (by have := h.r8; omega) h.sides
  simp [v_runB, d_Mill_init, needStuffs h.s h.s8 h.sn, s1, s8, r8, sl, names, nr, hn, gs, cp, oA__stuffs, oA__recipes, putD]
/-- a mill made, and settled -/
theorem made {ss : List Sf} {rs : List Rc} (h : MillOk ss rs) {ρ : Hy.Env} {S S1 : Store} {dd : AD} (hd : dd ρ S = some (.ok [.lst (ss.map sfD), .lst (rs.map rcD)], S1)) (hc : Clo S1) :
    dFrz (dMake "Mill" 3 (runC 5 d_Mill_init) [] dd) ρ S = some (.ok (millD ss rs), S1 ++ [none]) := by
  have hc2 : Clo (S1 ++ [some (.ci "Mill" [])]) := hc.app rfl
  have hn : (S1 ++ [some (.ci "Mill" [])])[S1.length]? = some (some (.ci "Mill" [])) := by simp
  have hn2 : (S1 ++ [some (.ci "Mill" [("_stuffs", .lst (ss.map sfD)), ("_recipes", .lst (rs.map rcD))])])[S1.length]? = some (some (.ci "Mill" [("_stuffs", .lst (ss.map sfD)), ("_recipes", .lst (rs.map rcD))])) := by simp
  have e := init2 h hn hc2
  simp [v_frz, v_make, hd] at e ⊢
  rw [e]
  simp [frz_ci hn2, millD]
end K13
end
section
namespace K13
open PySem PySem.Spec PyProof.Rows L2 L2.Hy He
variable {ss ss' : List Sf} {rs rs' : List Rc} {S : Store}
@[simp] theorem lo_mill {n : Nat} : D.lo n (millD ss rs) = true := by
  refine lo_mono (Nat.zero_le n) _ ?_
  simp [millD]
@[simp] theorem kq_mm : kq (.c "Mill") (.c "Mill") = some true := by decide +kernel
@[simp] theorem oc_m : oc "Mill" = true := by decide +kernel
@[simp] theorem oA1 : oA__stuffs "Mill" = true := by decide +kernel
@[simp] theorem oA2 : oA__recipes "Mill" = true := by decide +kernel
@[simp] theorem fisC {d : D} {b : Str} : fIs oc xc kq [d, .cls b] S = (match tgD S oc xc d with
  | some t => (kq t (.c b)).map D.bl
  | none => none).map fun a => (.ok a, S) := by
  unfold fIs
  simp only [v_on2, v_mOf, clD]
  cases tgD S oc xc d <;> rfl
@[simp] theorem tg_m : tgD S oc xc (millD ss rs) = some (.c "Mill") := by
  unfold millD tgD
  simp
@[simp] theorem objM : objD S (millD ss rs) = some (("Mill" : Str), [(("_stuffs" : Str), D.lst (ss.map sfD)), (("_recipes" : Str), D.lst (rs.map rcD))]) := id rfl
theorem lk1 {x y : D} : List.lookup ("_stuffs" : Str) [(("_stuffs" : Str), x), (("_recipes" : Str), y)] = some x := rfl
theorem lk2 {x y : D} : List.lookup ("_recipes" : Str) [(("_stuffs" : Str), x), (("_recipes" : Str), y)] = some y := rfl
theorem lk3 {x y : D} : List.lookup ("stuffs" : Str) [(("_stuffs" : Str), x), (("_recipes" : Str), y)] = none := rfl
theorem lk4 {x y : D} : List.lookup ("recipes" : Str) [(("_stuffs" : Str), x), (("_recipes" : Str), y)] = none := rfl
theorem lk5 {x y : D} : List.lookup ("names" : Str) [(("_stuffs" : Str), x), (("_recipes" : Str), y)] = none := rfl
theorem stuffs2 (h : ss.length ≤ 1000) : runF 1 d_Mill_stuffs [millD ss rs] S = some (.ok (.lst (ss.map sfD)), S) := by
  refine v_F (S' := []) (by simp) ?_ (by simp)
  have : ss.length ≤ 16777216 := by omega
  simp [d_Mill_stuffs, this, lk1]
theorem recipes2 (h : rs.length ≤ 1000) (ht : ∀ r ∈ rs, r.2.1.length ≤ 1000 ∧ r.2.2.length ≤ 1000) : runF 1 d_Mill_recipes [millD ss rs] S = some (.ok (.lst (rs.map rcD)), S) := by
  refine v_F (S' := []) (by simp) ?_ (by simp)
  simp [d_Mill_recipes, copied h ht, lk2]
theorem names2 (h : rs.length ≤ 1000) : runF 3 d_Mill_names [millD ss rs] S = some (.ok (.lst (rs.map fun r => D.str r.1)), S) := by
  refine v_F (S' := []) (by simp) ?_ (by simp [los_map])
  have : rs.length ≤ 16777216 := by omega
  have e := lc_map (f := rcD) (g := fun r => D.str r.1) (bd := bTup 3 (bCons (bN 1) (bCons (bN 2) (bCons (bN 2) bNil)))) (de := dV 1) (ρ := [some (millD ss rs), none, none]) (S := []) (xs := rs) fun r hr =>
    ⟨[some (millD ss rs), some (.str r.1), some (sdD r.2.2)], by simp [rcD], by simp⟩
  simp [d_Mill_names, lk2]
  rw [e]
  simp [this]
theorem needMill : runF 1 d_need_mill [millD ss rs] S = some (.ok .non, S) := by
  exact v_F0e (by simp) ⟨_, _, by simp [d_need_mill]; exact ⟨rfl, rfl⟩⟩
def swap (r : Rc) : Rc := (r.1, r.2.2, r.2.1)
theorem MillOk.swap (h : MillOk ss rs) : MillOk ss (rs.map swap) := by
  refine ⟨h.s1, h.s8, h.s, h.sn, by simp; exact h.r8, fun x hx => ?_, ?_⟩
  · obtain ⟨r, hr, rfl⟩ := List.mem_map.mp hx
    have := h.r r hr
    exact ⟨this.nm, this.g, this.t⟩
  · have : (rs.map K13.swap).map (·.1) = rs.map (·.1) := by
      rw [List.map_map]
      rfl
    rw [this]
    exact h.rn
theorem turned (h : MillOk ss rs) : runF 4 d_turned [millD ss rs] S = some (.ok (millD ss (rs.map swap)), S) := by
  refine v_Fe (by simp) ?_ (by simp)
  have l1 : ss.length ≤ 1000 := by have := h.s8; omega
  have l2 : rs.length ≤ 1000 := by have := h.r8; omega
  have l3 : rs.length ≤ 16777216 := by omega
  have e := lc_map (f := rcD) (g := fun r => rcD (K13.swap r)) (bd := bTup 3 (bCons (bN 1) (bCons (bN 2) (bCons (bN 3) bNil)))) (de := dTup (aCons (dV 1) (aCons (dV 3) (aCons (dV 2) aNil)))) (ρ := [some (millD ss rs), none, none, none]) (S := []) (xs := rs) fun r hr =>
    ⟨[some (millD ss rs), some (.str r.1), some (sdD r.2.1), some (sdD r.2.2)], by simp [rcD], by simp [rcD, K13.swap]⟩
  have hd : (aCons (dMeth (fun z => z == "Mill") "stuffs" 1 (runF 1 d_Mill_stuffs) [] (dV 0) aNil) (aCons (dLcA false [1, 2, 3] (dMeth (fun z => z == "Mill") "recipes" 1 (runF 1 d_Mill_recipes) [] (dV 0) aNil) (bTup 3 (bCons (bN 1) (bCons (bN 2) (bCons (bN 3) bNil)))) tdYes (dTup (aCons (dV 1) (aCons (dV 3) (aCons (dV 2) aNil))))) aNil)) [some (millD ss rs), none, none, none] [] = some (.ok [.lst (ss.map sfD), .lst ((rs.map K13.swap).map rcD)], []) := by
    simp [stuffs2 l1, recipes2 l2 h.sides, lk3, lk4]
    rw [e]
    simp [l3]
  have m := made h.swap hd (hc := rfl)
  refine ⟨[] ++ [none], ?_⟩
  simp [d_turned, needMill]
  rw [m]
  rfl
end K13
end
section
namespace K13
open PySem PySem.Spec PyProof.Rows L2 L2.Hy He
def fMulC : D → D → Mx D := fIIc (fun i j => decide (i.natAbs.log2 + j.natAbs.log2 < 900000)) fun i j => .int (i * j)
theorem v_mul {ρ : Hy.Env} {S : Store} {p q : Den} : dMul p q ρ S = mbind (p ρ) (fun x => mbind (q ρ) fun y => fMulC x y) S := id rfl
theorem v_mulC {S : Store} {i j : Int} (h : i.natAbs.log2 + j.natAbs.log2 < 900000) : fMulC (.int i) (.int j) S = some (.ok (.int (i * j)), S) := by
  unfold fMulC fIIc
  simp [h]
theorem v_mod {S : Store} {i j : Int} (h : 0 < j) : fMod (.int i) (.int j) S = some (.ok (.int (i % j)), S) := by simp [fMod, h]
theorem v_fdiv {S : Store} {i j : Int} (h : 0 < j) (h2 : j < 1073741824) : fFdiv (.int i) (.int j) S = some (.ok (.int (i / j)), S) := by simp [fFdiv, h, h2]
theorem log_le {i : Int} (h : i.natAbs < 2 ^ 200) : i.natAbs.log2 ≤ 200 := by
  by_cases z : i.natAbs = 0
  · rw [z]
    simp
  · exact Nat.le_of_lt ((Nat.log2_lt z).mpr h)
theorem mul_ok {i j : Int} (h1 : i.natAbs < 2 ^ 200) (h2 : j.natAbs < 2 ^ 200) : i.natAbs.log2 + j.natAbs.log2 < 900000 := by
  have := log_le h1
  have := log_le h2
  omega
theorem hash {S : Store} {s i : Int} (s0 : 0 ≤ s) (s1 : s < 2147483648) (i0 : 0 ≤ i) (i1 : i < 1099511627776) : ∃ r : Int, 0 ≤ r ∧ r < 2147483647 ∧ runF 3 d_law_hash [.int s, .int i] S = some (.ok (.int r), S) := by
  have sq : ∀ {x y : Int}, 0 ≤ x → x < 2147483648 → 0 ≤ y → y < 1099511627776 → (x * y).natAbs < 2 ^ 200 ∧ x.natAbs < 2 ^ 200 ∧ y.natAbs < 2 ^ 200 := by
    intro x y x0 x1 y0 y1
    refine ⟨?_, by omega, by omega⟩
    rw [Int.natAbs_mul]
    exact Nat.lt_of_lt_of_le (Nat.mul_lt_mul_of_lt_of_lt (show x.natAbs < 2147483648 by omega) (show y.natAbs < 1099511627776 by omega)) (by decide)
  have e1 := mul_ok (sq s0 s1 (by decide : (0 : Int) ≤ 1299709) (by decide)).2.1 (by decide : (1299709 : Int).natAbs < 2 ^ 200)
  have e2 := mul_ok (by decide : (104729 : Int).natAbs < 2 ^ 200) (by omega : i.natAbs < 2 ^ 200)
  have e3 := mul_ok (sq (by decide : (0 : Int) ≤ 104729) (by decide) i0 i1).1 (by omega : i.natAbs < 2 ^ 200)
  have e4 := mul_ok (by decide : (31 : Int).natAbs < 2 ^ 200) (by omega : i.natAbs < 2 ^ 200)
  have e7 := mul_ok (by decide : (48271 : Int).natAbs < 2 ^ 200) (by omega : i.natAbs < 2 ^ 200)
  generalize hx : (s * 1299709 + 104729 * i * i + 31 * i + 7) % 2147483629 = x
  have x0 : 0 ≤ x := by rw [← hx]; exact Int.emod_nonneg _ (by decide)
  have x1 : x < 2147483629 := by rw [← hx]; exact Int.emod_lt_of_pos _ (by decide)
  have e5 := mul_ok (by omega : x.natAbs < 2 ^ 200) (by omega : x.natAbs < 2 ^ 200)
  generalize hy : (x * x + 48271 * i + 15485863) % 2147483587 = y
  have y0 : 0 ≤ y := by rw [← hy]; exact Int.emod_nonneg _ (by decide)
  have y1 : y < 2147483587 := by rw [← hy]; exact Int.emod_lt_of_pos _ (by decide)
  have e6 := mul_ok (by omega : y.natAbs < 2 ^ 200) (by decide : (69621 : Int).natAbs < 2 ^ 200)
  refine ⟨y * 69621 % 2147483647, Int.emod_nonneg _ (by decide), Int.emod_lt_of_pos _ (by decide), ?_⟩
  refine v_F (S' := []) rfl ?_ rfl
  have h1 : (0 : Int) < 2147483629 := by decide
  have h2 : (0 : Int) < 2147483587 := by decide
  have h3 : (0 : Int) < 2147483647 := by decide
  simp [d_law_hash, v_mul, v_mulC e1, v_mulC e2, v_mulC e3, v_mulC e4, v_mulC e5, v_mulC e6, v_mulC e7, hx, hy, v_mod h1, v_mod h2, v_mod h3]
/-- the generator at n: what it was asked, so often at most -/
structure Gn (S : Store) (n : Nat) (k : Int) : Prop where
  ex : ∃ a b c : Int, S[n]? = some (some (.cl [.int a, .int b, .int c])) ∧ 0 ≤ b ∧ b < 2147483648 ∧ 0 ≤ c ∧ c ≤ k
theorem Gn.lt {S : Store} {n : Nat} {k : Int} (g : Gn S n k) : n < S.length := by
  obtain ⟨_, _, _, e, _⟩ := g.ex
  exact (List.getElem?_eq_some_iff.mp e).1
theorem Gn.le {S : Store} {n : Nat} {k k' : Int} (g : Gn S n k) (h : k ≤ k') : Gn S n k' := by
  obtain ⟨a, b, c, h1, h2, h3, h4, h5⟩ := g.ex
  exact ⟨a, b, c, h1, h2, h3, h4, by omega⟩
/-- nothing but the generator has changed -/
structure Gs (S S' : Store) (n : Nat) (k : Int) : Prop where
  ex : ∃ c : Cell, S' = S.set n (some c)
  clo : Clo S'
  gn : Gn S' n k
theorem Gs.len {S S' : Store} {n : Nat} {k : Int} (g : Gs S S' n k) : S'.length = S.length := by
  obtain ⟨c, rfl⟩ := g.ex
  exact List.length_set
theorem Gs.trans {S S' S2 : Store} {n : Nat} {k k2 : Int} (g : Gs S S' n k) (h : Gs S' S2 n k2) : Gs S S2 n k2 := by
  obtain ⟨c, rfl⟩ := g.ex
  obtain ⟨c2, rfl⟩ := h.ex
  exact ⟨⟨c2, List.set_set _⟩, h.clo, h.gn⟩
theorem bits29 {m : Int} (h0 : 0 < m) (h1 : m < 536870912) : (Builtin.Int.intBits m : Int) / 30 = 0 := by
  have : Builtin.Int.intBits m ≤ 29 := PyProof.Rows.intBits_le (show m.natAbs < 2 ^ 29 by omega)
  omega
theorem rnd1 {S : Store} {n : Nat} {a b c m : Int} (hS : S[n]? = some (some (.cl [.int a, .int b, .int c]))) (ha : 0 < a) (h0 : 0 < m) (h1 : m < 536870912) : runB 4 d_law_random [.h n, .int m] S = some (.ok (.int (a % m)), S.set n (some (.cl [.int (a / m), .int b, .int c]))) := by
  simp [v_runB, d_law_random, hS, ha, v_mod h0, v_fdiv h0 (show m < 1073741824 by omega), fSet, ixN]
theorem rnd_l {S : Store} {n : Nat} {a b c m r : Int} (hl : n < S.length) (hS : S[n]? = some (some (.cl [.int a, .int b, .int c]))) (e : runF 3 d_law_hash [.int b, .int (c + 1)] (S.set n (some (.cl [.int a, .int b, .int (c + 1)]))) = some (.ok (.int r), S.set n (some (.cl [.int a, .int b, .int (c + 1)])))) :
    lb_law_random_1 [some (.h n), some (.int m), some (.int 0), some (.int 0)] S = some (.nx [some (.h n), some (.int m), some (.int r), some (.int 0)], S.set n (some (.cl [.int a, .int b, .int (c + 1)]))) := by
  have gs : ∀ o, (S.set n o)[n]? = some o := fun o => by rw [List.getElem?_set_self hl]
  have l2 := v_mulC (S := S.set n (some (.cl [.int a, .int b, .int (c + 1)]))) (mul_ok (i := 0) (j := 2147483587) (by decide) (by decide))
  simp [lb_law_random_1, hS, fSet, ixN, gs, v_mul, l2, e]
theorem rg1 {S : Store} : itR1 [.int 1] S = some (.ok [.int 0], S) := by
  simp [itR1, rgD]
theorem rnd_a {m : Int} {S : Store} {n : Nat} (bt : (Builtin.Int.intBits m : Int) / 30 = 0) : (d2 fFdiv (d1 fBits (dV 1)) (dC (.int 30))) [some (.h n), some (.int m), some (.int 0), none] S = some (.ok (.int 0), S) := by
  have h := v_fdiv (S := S) (i := (Builtin.Int.intBits m : Int)) (show (0 : Int) < 30 by decide) (show (30 : Int) < 1073741824 by decide)
  rw [bt] at h
  simp [fBits, h]
theorem rnd_r {m : Int} {S : Store} {n : Nat} (bt : (Builtin.Int.intBits m : Int) / 30 = 0) : mbind ((aCons (dAdd (dC (.int 1)) (d2 fFdiv (d1 fBits (dV 1)) (dC (.int 30)))) aNil) [some (.h n), some (.int m), some (.int 0), none]) itR1 S = some (.ok [.int 0], S) := by
  have h : aCons (dAdd (dC (.int 1)) (d2 fFdiv (d1 fBits (dV 1)) (dC (.int 30)))) aNil [some (.h n), some (.int m), some (.int 0), none] S = some (.ok [.int 1], S) := by
    have e := rnd_a (S := S) (n := n) bt
    simp only [v_aCons, v_aNil, L2.Hy.v_add, v_bind, v_dC, e, v_II, v_ret]
    rfl
  rw [v_bind, h]
  exact rg1
theorem rndA {S : Store} {n : Nat} {a b c m : Int} (hS : S[n]? = some (some (.cl [.int a, .int b, .int c]))) (ha : ¬ 0 < a) : dBool (dGt (d2 fIx (dV 0) (dC (.int 0))) (dC (.int 0))) [some (.h n), some (.int m), none, none] S = some (.ok false, S) := by simp [hS, ha]
theorem rndD {S : Store} {n : Nat} {m r : Int} (h0 : 0 < m) : sRet (d2 fMod (dCB fInt (aCons (dV 2) aNil)) (dV 1)) [some (.h n), some (.int m), some (.int r), some (.int 0)] S = some (.rt (.int (r % m)), S) := by
  simp [v_mod h0]
theorem rndC {S S' : Store} {n : Nat} {m r : Int} (bt : (Builtin.Int.intBits m : Int) / 30 = 0) (e : lb_law_random_1 [some (.h n), some (.int m), some (.int 0), some (.int 0)] S = some (.nx [some (.h n), some (.int m), some (.int r), some (.int 0)], S')) :
    sFor (fun ρ => mbind ((aCons (dAdd (dC (.int 1)) (d2 fFdiv (d1 fBits (dV 1)) (dC (.int 30)))) aNil) ρ) itR1) (bN 3) lb_law_random_1 [some (.h n), some (.int m), some (.int 0), none] S = some (.nx [some (.h n), some (.int m), some (.int r), some (.int 0)], S') := by
  exact for_d (rnd_r (S := S) (n := n) bt) (loop_nx rfl e)
theorem rnd2 {S : Store} {n : Nat} {a b c m r : Int} (hl : n < S.length) (hS : S[n]? = some (some (.cl [.int a, .int b, .int c]))) (ha : ¬ 0 < a) (h0 : 0 < m) (bt : (Builtin.Int.intBits m : Int) / 30 = 0)
    (e : runF 3 d_law_hash [.int b, .int (c + 1)] (S.set n (some (.cl [.int a, .int b, .int (c + 1)]))) = some (.ok (.int r), S.set n (some (.cl [.int a, .int b, .int (c + 1)])))) :
    runB 4 d_law_random [.h n, .int m] S = some (.ok (.int (r % m)), S.set n (some (.cl [.int a, .int b, .int (c + 1)]))) := by
  have e3 := rndC bt (rnd_l (m := m) hl hS e)
  have c1 := rndA (m := m) hS ha
  have dd : d_law_random [some (.h n), some (.int m), none, none] S = some (.rt (.int (r % m)), S.set n (some (.cl [.int a, .int b, .int (c + 1)]))) := by
    unfold d_law_random
    exact seq_nx (if_f c1 rfl) (seq_nx (asg_n rfl) (seq_nx e3 (rndD h0)))
  exact runB_rt dd
theorem rnd {S : Store} {n : Nat} {k m : Int} (g : Gn S n k) (hc : Clo S) (hk : k < 1099511627770) (h0 : 0 < m) (h1 : m < 536870912) :
    ∃ (r : Int) (S' : Store), 0 ≤ r ∧ r < m ∧ runC 4 d_law_random [.h n, .int m] S = some (.ok (.int r), S') ∧ Gs S S' n (k + 1) := by
  have hl := g.lt
  obtain ⟨a, b, c, hS, b0, b1, c0, c1⟩ := g.ex
  have gs : ∀ o, (S.set n o)[n]? = some o := fun o => by rw [List.getElem?_set_self hl]
  have fin : ∀ a b c : Int, 0 ≤ b → b < 2147483648 → 0 ≤ c → c ≤ k + 1 → Gs S (S.set n (some (.cl [.int a, .int b, .int c]))) n (k + 1) := fun a b c h1 h2 h3 h4 => ⟨⟨_, rfl⟩, hc.set rfl, ⟨a, b, c, gs _, h1, h2, h3, h4⟩⟩
  by_cases ha : 0 < a
  · exact ⟨a % m, _, Int.emod_nonneg _ (by omega), Int.emod_lt_of_pos _ h0, v_C (rnd1 hS ha h0 h1) (by simp) rfl (hc.set rfl), fin _ _ _ b0 b1 c0 (by omega)⟩
  · obtain ⟨r, r0, r1, e⟩ := hash (S := S.set n (some (.cl [.int a, .int b, .int (c + 1)]))) b0 b1 (show 0 ≤ c + 1 by omega) (show c + 1 < 1099511627776 by omega)
    exact ⟨r % m, _, Int.emod_nonneg _ (by omega), Int.emod_lt_of_pos _ h0, v_C (rnd2 hl hS ha h0 (bits29 h0 h1) e) (by simp) rfl (hc.set rfl), fin _ _ _ b0 b1 (by omega) (by omega)⟩
end K13
end
section
namespace K13
open PySem PySem.Spec PyProof.Rows L2 L2.Hy He
theorem Gs.clo1 {S S2 : Store} {n : Nat} {k : Int} {T : Store} (hn : n < S.length) (hc : Clo S) (g : Gs (S ++ T) S2 n k) : ∃ S', S2 = S' ++ T ∧ Gs S S' n k := by
  obtain ⟨c, rfl⟩ := g.ex
  have e : (S ++ T).set n (some c) = S.set n (some c) ++ T := by rw [List.set_append_left _ _ hn]
  refine ⟨_, e, ⟨⟨c, rfl⟩, ?_, ?_⟩⟩
  · obtain ⟨a, b, d, h, _⟩ := g.gn.ex
    rw [e, List.getElem?_append_left (by rw [List.length_set]; exact hn), List.getElem?_set_self hn] at h
    cases h
    exact hc.set rfl
  · obtain ⟨a, b, d, h, h2⟩ := g.gn.ex
    rw [e, List.getElem?_append_left (by rw [List.length_set]; exact hn)] at h
    exact ⟨a, b, d, h, h2⟩
theorem Gn.app {S : Store} {n : Nat} {k : Int} (g : Gn S n k) (T : Store) : Gn (S ++ T) n k := by
  have hl := g.lt
  obtain ⟨a, b, c, h, h2⟩ := g.ex
  exact ⟨a, b, c, by rw [List.getElem?_append_left hl]; exact h, h2⟩
theorem Gs.refl {S : Store} {n : Nat} {k : Int} (g : Gn S n k) (hc : Clo S) : Gs S S n k := by
  obtain ⟨a, b, c, h, _⟩ := g.ex
  obtain ⟨hl, e⟩ := List.getElem?_eq_some_iff.mp h
  refine ⟨⟨.cl [.int a, .int b, .int c], ?_⟩, hc, g⟩
  rw [← e]
  exact (List.set_getElem_self hl).symm
/-- a draw beside further cells -/
theorem rndT {S T : Store} {n : Nat} {k m : Int} (g : Gn S n k) (hc : Clo S) (hT : Clo (S ++ T)) (hk : k < 1099511627770) (h0 : 0 < m) (h1 : m < 536870912) :
    ∃ (r : Int) (S' : Store), 0 ≤ r ∧ r < m ∧ runC 4 d_law_random [.h n, .int m] (S ++ T) = some (.ok (.int r), S' ++ T) ∧ Gs S S' n (k + 1) := by
  obtain ⟨r, S2, r0, r1, e, gs⟩ := rnd (g.app T) hT hk h0 h1
  obtain ⟨S', rfl, g2⟩ := gs.clo1 g.lt hc
  exact ⟨r, S', r0, r1, e, g2⟩
theorem clo_app {S S' T : Store} (h : Clo (S ++ T)) (h' : Clo S') (hl : S'.length = S.length) : Clo (S' ++ T) := by
  unfold Clo at *
  rw [List.all_append, Bool.and_eq_true] at h ⊢
  rw [List.length_append, hl, ← List.length_append]
  refine ⟨List.all_eq_true.mpr fun x hx => oLo_mono (by rw [List.length_append]; omega) x (List.all_eq_true.mp h' x hx), h.2⟩
theorem six {S : Store} {r : Int} (h0 : 0 ≤ r) (h1 : r < 6) : ∃ v : Int, 0 ≤ v ∧ v ≤ 3 ∧ fIx (.lst [.int 0, .int 0, .int 1, .int 1, .int 2, .int 3]) (.int r) S = some (.ok (.int v), S) := by
  have : r = 0 ∨ r = 1 ∨ r = 2 ∨ r = 3 ∨ r = 4 ∨ r = 5 := by omega
  rcases this with rfl | rfl | rfl | rfl | rfl | rfl
  · exact ⟨0, by decide, by decide, rfl⟩
  · exact ⟨0, by decide, by decide, rfl⟩
  · exact ⟨1, by decide, by decide, rfl⟩
  · exact ⟨1, by decide, by decide, rfl⟩
  · exact ⟨2, by decide, by decide, rfl⟩
  · exact ⟨3, by decide, by decide, rfl⟩
structure Pt (names : List Str) (s : Sd) : Prop where
  two : s.length ≤ 2
  sub : (s.map (·.1)).Sublist names
  v : ∀ p ∈ s, 1 ≤ p.2 ∧ p.2 ≤ 3
theorem parts_loop {n : Nat} {X : D} : ∀ (rest before : List Str) (acc : Sd) (S : Store) (k : Int) (o4 o5 : Option D), Gn S n k → Clo S → k + rest.length < 1099511627770 → Pt before acc →
    ∃ (S' : Store) (acc' : Sd) (o4' o5' : Option D), loopX (bN 4) lb_law_parts_drawn_1 (rest.map D.str) [some (.h n), some X, some (.int 2), some (.h S.length), o4, o5] (S ++ [some (.cl (acc.map prD))]) = some (.nx [some (.h n), some X, some (.int 2), some (.h S.length), o4', o5'], S' ++ [some (.cl (acc'.map prD))]) ∧
      Gs S S' n (k + rest.length) ∧ Pt (before ++ rest) acc'
  | [], before, acc, S, k, o4, o5, g, hc, hk, hp => ⟨S, acc, o4, o5, by simp, by simpa using Gs.refl g hc, by simpa using hp⟩
  | x :: rest, before, acc, S, k, o4, o5, g, hc, hk, hp => by
    have hT : Clo (S ++ [some (.cl (acc.map prD))]) := hc.app (los_mono (Nat.zero_le _) _ (los_pr acc))
    simp only [List.length_cons] at hk
    obtain ⟨r, S1, r0, r1, e, g1⟩ := rndT (m := 6) g hc hT (by omega) (by decide) (by decide)
    obtain ⟨v, v0, v3, ev⟩ := six (S := S1 ++ [some (.cl (acc.map prD))]) r0 r1
    have gl := g1.len
    have look : ∀ o, (S1 ++ [o])[S.length]? = some o := fun o => by rw [← gl]; simp
    have sub1 : (acc.map (·.1)).Sublist (before ++ [x]) := hp.sub.trans (List.sublist_append_left _ _)
    have step : ∃ (acc1 : Sd), lb_law_parts_drawn_1 [some (.h n), some X, some (.int 2), some (.h S.length), some (.str x), o5] (S ++ [some (.cl (acc.map prD))]) = some (.nx [some (.h n), some X, some (.int 2), some (.h S.length), some (.str x), some (.int v)], S1 ++ [some (.cl (acc1.map prD))]) ∧ Pt (before ++ [x]) acc1 := by
      have a1 : sAsg (bN 5) (d2 fIx (dLst false (aCons (dC (.int 0)) (aCons (dC (.int 0)) (aCons (dC (.int 1)) (aCons (dC (.int 1)) (aCons (dC (.int 2)) (aCons (dC (.int 3)) aNil))))))) (dCall 2 (runC 4 d_law_random) [] (aCons (dV 0) (aCons (dC (.int 6)) aNil)))) [some (.h n), some X, some (.int 2), some (.h S.length), some (.str x), o5] (S ++ [some (.cl (acc.map prD))]) = some (.nx [some (.h n), some X, some (.int 2), some (.h S.length), some (.str x), some (.int v)], S1 ++ [some (.cl (acc.map prD))]) := by
        refine asg_n ?_
        simp [e, ev]
      by_cases c : 0 < v ∧ acc.length < 2
      · have l2 : (acc.length : Int) < 2 := by omega
        have l3 : acc.length < 16777216 := by omega
        refine ⟨acc ++ [(x, v)], ?_, by simp; omega, by simpa using hp.sub.append (List.Sublist.refl [x]), fun p hm => ?_⟩
        · refine seq_nx a1 ?_
          simp [c.1, l2, l3, look, prD, ← gl]
        · rcases List.mem_append.mp hm with z | z
          · exact hp.v p z
          · rw [List.mem_singleton] at z
            subst z
            exact ⟨by omega, v3⟩
      · refine ⟨acc, ?_, hp.two, sub1, hp.v⟩
        refine seq_nx a1 ?_
        by_cases c1 : 0 < v
        · have l2 : ¬ (acc.length : Int) < 2 := by omega
          simp [c1, l2, look, ← gl]
        · simp [c1]
    obtain ⟨acc1, es, p1⟩ := step
    obtain ⟨S', acc', o4', o5', e2, g2, p2⟩ := parts_loop (X := X) rest (before ++ [x]) acc1 S1 (k + 1) (some (.str x)) (some (.int v)) g1.gn g1.clo (by omega) p1
    rw [gl] at e2
    refine ⟨S', acc', o4', o5', ?_, ?_, by simpa using p2⟩
    · rw [List.map_cons, loop_nx rfl es]
      exact e2
    · have := g1.trans g2
      rw [List.length_cons, show k + ((rest.length + 1 : Nat) : Int) = k + 1 + rest.length by omega]
      exact this
theorem parts {n : Nat} {names : List Str} {S : Store} {k : Int} (g : Gn S n k) (hc : Clo S) (hk : k + names.length < 1099511627770) :
    ∃ (S' : Store) (s : Sd), runC 6 d_law_parts_drawn [.h n, .lst (names.map D.str), .int 2] S = some (.ok (sdD s), S') ∧ Gs S S' n (k + names.length) ∧ Pt names s := by
  obtain ⟨S', s, o4, o5, e, gs, p⟩ := parts_loop (X := .lst (names.map D.str)) names [] [] S k none none g hc hk ⟨by simp, by simp, by simp⟩
  refine ⟨S', s, v_C2 (T := [none]) (runB_rt (S1 := S' ++ [none]) ?_) gs.len (lo_mono (Nat.zero_le _) _ (lo_sd s)) gs.clo, gs, by simpa using p⟩
  unfold d_law_parts_drawn
  refine seq_nx (ρ1 := [some (.h n), some (.lst (names.map D.str)), some (.int 2), some (.h S.length), none, none]) (S1 := S ++ [some (.cl [])]) ?_ (seq_nx (forA_l (ds := names.map D.str) (S1 := S ++ [some (.cl [])]) rfl e) (ret_d ?_))
  · refine asg_n ?_
    simp
  · have hS : (S' ++ [some (.cl (s.map prD))])[S.length]? = some (some (.cl (s.map prD))) := by rw [← gs.len]; simp
    have hr := frz_cl hS (los_pr s)
    rw [v_frz, v_bind, show dV 3 [some (.h n), some (.lst (names.map D.str)), some (.int 2), some (.h S.length), o4, o5] (S' ++ [some (.cl (s.map prD))]) = some (.ok (.h S.length), S' ++ [some (.cl (s.map prD))]) from rfl]
    dsimp only
    rw [hr]
    rw [← gs.len]
    simp [sdD]
end K13
end
section
namespace K13
open PySem PySem.Spec PyProof.Rows L2 L2.Hy He
def RmOk (r : Option Int) : Prop := ∀ i, r = some i → 0 ≤ i ∧ i ≤ 3
theorem six2 {S : Store} {r : Int} (h0 : 0 ≤ r) (h1 : r < 6) : ∃ v : Option Int, RmOk v ∧ fIx (.lst [.non, .non, .int 1, .int 2, .int 3, .int 0]) (.int r) S = some (.ok (roomD v), S) := by
  have : r = 0 ∨ r = 1 ∨ r = 2 ∨ r = 3 ∨ r = 4 ∨ r = 5 := by omega
  rcases this with rfl | rfl | rfl | rfl | rfl | rfl
  · exact ⟨none, (fun i h => by cases h), rfl⟩
  · exact ⟨none, (fun i h => by cases h), rfl⟩
  · exact ⟨some 1, (fun i h => by cases h; decide), rfl⟩
  · exact ⟨some 2, (fun i h => by cases h; decide), rfl⟩
  · exact ⟨some 3, (fun i h => by cases h; decide), rfl⟩
  · exact ⟨some 0, (fun i h => by cases h; decide), rfl⟩
theorem rooms_loop {n : Nat} {a b : D} : ∀ (ds : List D) (S : Store) (k : Int), Gn S n k → Clo S → k + ds.length < 1099511627770 →
    ∃ (S' : Store) (rs : List (Option Int)), lcX (bN 4) tdYes ce_law_mill_drawn_1 [some (.h n), some a, some b, none, none, none, none, none, none, none, none, none] ds S = some (.ok (rs.map roomD), S') ∧ Gs S S' n (k + ds.length) ∧ rs.length = ds.length ∧ ∀ r ∈ rs, RmOk r
  | [], S, k, g, hc, hk => ⟨S, [], by simp, by simpa using Gs.refl g hc, rfl, by simp⟩
  | d :: ds, S, k, g, hc, hk => by
    simp only [List.length_cons] at hk
    obtain ⟨r, S1, r0, r1, e, g1⟩ := rnd (m := 6) g hc (by omega) (by decide) (by decide)
    obtain ⟨v, v0, ev⟩ := six2 (S := S1) r0 r1
    obtain ⟨S', rs, e2, g2, l2, h2⟩ := rooms_loop (a := a) (b := b) ds S1 (k + 1) g1.gn g1.clo (by omega)
    refine ⟨S', v :: rs, ?_, ?_, by simp [l2], fun r hr => ?_⟩
    · rw [v_lcX1]
      have c : ce_law_mill_drawn_1 [some (.h n), some a, some b, none, some d, none, none, none, none, none, none, none] S = some (.ok (roomD v), S1) := by
        simp [ce_law_mill_drawn_1, e, ev]
      simp [c, e2]
    · have := g1.trans g2
      rw [List.length_cons, show k + ((ds.length + 1 : Nat) : Int) = k + 1 + ds.length by omega]
      exact this
    · rcases List.mem_cons.mp hr with rfl | z
      · exact v0
      · exact h2 r z
theorem ab0 {S : Store} : fIx (.str "abcd") (.int 0) S = some (.ok (.str "a"), S) := by kernel_rfl
theorem ab1 {S : Store} : fIx (.str "abcd") (.int 1) S = some (.ok (.str "b"), S) := by kernel_rfl
theorem ab2 {S : Store} : fIx (.str "abcd") (.int 2) S = some (.ok (.str "c"), S) := by kernel_rfl
theorem rs0 {S : Store} : fIx (.str "rstu") (.int 0) S = some (.ok (.str "r"), S) := by kernel_rfl
theorem rs1 {S : Store} : fIx (.str "rstu") (.int 1) S = some (.ok (.str "s"), S) := by kernel_rfl
theorem rs2 {S : Store} : fIx (.str "rstu") (.int 2) S = some (.ok (.str "t"), S) := by kernel_rfl
def ab (w : Nat) : List Str := (["a", "b", "c"] : List Str).take w
def rst (m : Nat) : List Str := (["r", "s", "t"] : List Str).take m
/-- what is drawn -/
structure Drawn (w m : Nat) (ss : List Sf) (rs : List Rc) : Prop where
  sn : ss.map (·.1) = ab w
  sr : ∀ s ∈ ss, RmOk s.2
  rn : rs.map (·.1) = rst m
  pt : ∀ r ∈ rs, Pt (ab w) r.2.1 ∧ Pt (ab w) r.2.2
theorem rg {S : Store} {w : Nat} (hw : w = 1 ∨ w = 2 ∨ w = 3) : itR1 [.int w] S = some (.ok ((List.range w).map fun i => D.int (i : Nat)), S) := by
  rcases hw with rfl | rfl | rfl <;> simp [itR1, rgD, List.range, List.range.loop]
/-- one recipe -/
theorem rec_step {n : Nat} {w : Nat} {a b c d e8 e9 o10 o11 : Option D} {i : Nat} {nm : Str} (hnm : ∀ S, fIx (.str "rstu") (.int (i : Nat)) S = some (.ok (.str nm), S)) {S : Store} {k : Int} {acc : List Rc} (g : Gn S n k) (hc : Clo S) (hw : w ≤ 3) (hk : k < 1099511000000) (ha : acc.length < 100) :
    ∃ (S' : Store) (r : Rc) (o10' o11' : Option D), lb_law_mill_drawn_3 [some (.h n), a, b, c, some (.int (i : Nat)), d, some (.lst ((ab w).map D.str)), some (.h S.length), e8, e9, o10, o11] (S ++ [some (.cl (acc.map rcD))]) = some (.nx [some (.h n), a, b, c, some (.int (i : Nat)), d, some (.lst ((ab w).map D.str)), some (.h S.length), e8, e9, o10', o11'], S' ++ [some (.cl ((acc ++ [r]).map rcD))]) ∧ Gs S S' n (k + 6) ∧ r.1 = nm ∧ Pt (ab w) r.2.1 ∧ Pt (ab w) r.2.2 := by
  have hl : (ab w).length ≤ 3 := by unfold ab; simp; omega
  have partsT : ∀ {S : Store} {k : Int}, Gn S n k → Clo S → Clo (S ++ [some (.cl (acc.map rcD))]) → k < 1099511600000 → ∃ (S' : Store) (s : Sd), runC 6 d_law_parts_drawn [.h n, .lst ((ab w).map D.str), .int 2] (S ++ [some (.cl (acc.map rcD))]) = some (.ok (sdD s), S' ++ [some (.cl (acc.map rcD))]) ∧ Gs S S' n (k + (ab w).length) ∧ Pt (ab w) s := by
    intro S k g hc hT hk
    obtain ⟨S2, s, e, gs, p⟩ := parts (names := ab w) (g.app [some (.cl (acc.map rcD))]) hT (by omega)
    obtain ⟨S', rfl, g2⟩ := gs.clo1 g.lt hc
    exact ⟨S', s, e, g2, p⟩
  have hT : Clo (S ++ [some (.cl (acc.map rcD))]) := hc.app (los_mono (Nat.zero_le _) _ (los_rc acc))
  obtain ⟨S1, t, e1, g1, p1⟩ := partsT g hc hT (by omega)
  obtain ⟨S2, u, e2, g2, p2⟩ := partsT g1.gn g1.clo (clo_app hT g1.clo g1.len) (by omega)
  have gl : S2.length = S.length := by rw [g2.len, g1.len]
  have look : ∀ o, (S2 ++ [o])[S.length]? = some o := fun o => by rw [← gl]; simp
  have l3 : acc.length < 16777216 := by omega
  refine ⟨S2, (nm, t, u), some (sdD t), some (sdD u), ?_, ⟨(g1.trans g2).ex, g2.clo, g2.gn.le (by omega)⟩, rfl, p1, p2⟩
  unfold lb_law_mill_drawn_3
  refine seq_nx (ρ1 := [some (.h n), a, b, c, some (.int (i : Nat)), d, some (.lst ((ab w).map D.str)), some (.h S.length), e8, e9, some (sdD t), some (sdD u)]) (S1 := S2 ++ [some (.cl (acc.map rcD))]) ?_ ?_
  · simp [e1, e2]
  · simp [hnm, look, l3, rcD, ← gl]
theorem millDrawn {n w m : Nat} {S : Store} {k : Int} (g : Gn S n k) (hc : Clo S) (hk : k < 1099510000000) (hw : w = 1 ∨ w = 2 ∨ w = 3) (hm : m = 1 ∨ m = 2 ∨ m = 3) :
    ∃ (S' : Store) (ss : List Sf) (rs : List Rc), runC 12 d_law_mill_drawn [.h n, .int w, .int m] S = some (.ok (.tup [.lst (ss.map sfD), .lst (rs.map rcD)]), S') ∧ Gs S S' n (k + 30) ∧ Drawn w m ss rs := by
  obtain ⟨S1, rooms, e1, g1, l1, h1⟩ := rooms_loop (a := .int w) (b := .int m) ((List.range w).map fun i => D.int (i : Nat)) S k g hc (by simp; omega)
  simp only [List.length_map, List.length_range] at l1 g1
  have w3 : w ≤ 3 := by omega
  have l1' : (rooms.map roomD).length ≤ 16777216 := by simp; omega
  -- the stuffs
  have hs : ∃ ss : List Sf, ss.map (·.1) = ab w ∧ (∀ s ∈ ss, RmOk s.2) ∧ ss.length = w ∧
      lcX (bN 4) tdYes ce_law_mill_drawn_2 [some (.h n), some (.int w), some (.int m), some (.lst (rooms.map roomD)), none, none, none, none, none, none, none, none] ((List.range w).map fun i => D.int (i : Nat)) S1 = some (.ok (ss.map sfD), S1) := by
    rcases hw with rfl | rfl | rfl
    · obtain ⟨r0, rfl⟩ := List.length_eq_one_iff.mp l1
      refine ⟨[("a", r0)], rfl, by simpa using h1, rfl, ?_⟩
      simp [List.range, List.range.loop, v_lcX1, ce_law_mill_drawn_2, ab0, sfD]
    · obtain ⟨r0, r1, rfl⟩ : ∃ a b, rooms = [a, b] := by match rooms, l1 with | [a, b], _ => exact ⟨a, b, rfl⟩
      refine ⟨[("a", r0), ("b", r1)], rfl, by simpa using h1, rfl, ?_⟩
      simp [List.range, List.range.loop, v_lcX1, ce_law_mill_drawn_2, ab0, ab1, sfD]
    · obtain ⟨r0, r1, r2, rfl⟩ : ∃ a b c, rooms = [a, b, c] := by match rooms, l1 with | [a, b, c], _ => exact ⟨a, b, c, rfl⟩
      refine ⟨[("a", r0), ("b", r1), ("c", r2)], rfl, by simpa using h1, rfl, ?_⟩
      simp [List.range, List.range.loop, v_lcX1, ce_law_mill_drawn_2, ab0, ab1, ab2, sfD]
  obtain ⟨ss, sn, sr, sl, e2⟩ := hs
  have sl' : ss.length ≤ 16777216 := by omega
  -- the names
  have e3 := lc_map (f := sfD) (g := fun s => D.str s.1) (bd := bTup 2 (bCons (bN 8) (bCons (bN 9) bNil))) (de := dV 8) (ρ := [some (.h n), some (.int w), some (.int m), some (.lst (rooms.map roomD)), none, some (.lst (ss.map sfD)), none, none, none, none, none, none]) (S := S1) (xs := ss) fun s hs =>
    ⟨[some (.h n), some (.int w), some (.int m), some (.lst (rooms.map roomD)), none, some (.lst (ss.map sfD)), none, none, some (.str s.1), some (roomD s.2), none, none], by simp [sfD], by simp⟩
  have e3' : ss.map (fun s => D.str s.1) = (ab w).map D.str := by rw [← sn, List.map_map]; rfl
  rw [e3'] at e3
  have abl : ((ab w).map D.str).length ≤ 16777216 := by unfold ab; simp; omega
  have loop : ∃ (S' : Store) (rs : List Rc) (ρ : Hy.Env), loopX (bN 4) lb_law_mill_drawn_3 ((List.range m).map fun i => D.int (i : Nat)) [some (.h n), some (.int w), some (.int m), some (.lst (rooms.map roomD)), none, some (.lst (ss.map sfD)), some (.lst ((ab w).map D.str)), some (.h S1.length), none, none, none, none] (S1 ++ [some (.cl [])]) = some (.nx ρ, S' ++ [some (.cl (rs.map rcD))]) ∧ ρ[5]? = some (some (.lst (ss.map sfD))) ∧ ρ[7]? = some (some (.h S1.length)) ∧ Gs S1 S' n (k + 30) ∧ rs.map (·.1) = rst m ∧ ∀ r ∈ rs, Pt (ab w) r.2.1 ∧ Pt (ab w) r.2.2 := by
    obtain ⟨T1, r1, o1, o1', s1, q1, n1, p1⟩ := rec_step (i := 0) (w := w) (a := some (.int w)) (b := some (.int m)) (c := some (.lst (rooms.map roomD))) (d := some (.lst (ss.map sfD))) (e8 := none) (e9 := none) (o10 := none) (o11 := none) (fun _ => rs0) (acc := []) g1.gn g1.clo w3 (by omega) (by simp)
    rcases hm with rfl | rfl | rfl
    · refine ⟨T1, [r1], _, Eq.trans (loop_nx (bd := bN 4) rfl s1) rfl, rfl, rfl, ⟨q1.ex, q1.clo, q1.gn.le (by omega)⟩, by simp [n1, rst], by simpa using p1⟩
    · obtain ⟨T2, r2, o2, o2', s2, q2, n2, p2⟩ := rec_step (i := 1) (w := w) (a := some (.int w)) (b := some (.int 2)) (c := some (.lst (rooms.map roomD))) (d := some (.lst (ss.map sfD))) (e8 := none) (e9 := none) (o10 := o1) (o11 := o1') (fun _ => rs1) (acc := [r1]) q1.gn q1.clo w3 (by omega) (by simp)
      rw [q1.len] at s2
      refine ⟨T2, [r1, r2], _, Eq.trans (loop_nx (bd := bN 4) rfl s1) (Eq.trans (loop_nx (bd := bN 4) rfl s2) rfl), rfl, rfl, ⟨(q1.trans q2).ex, q2.clo, q2.gn.le (by omega)⟩, by simp [n1, n2, rst], by simpa using ⟨p1, p2⟩⟩
    · obtain ⟨T2, r2, o2, o2', s2, q2, n2, p2⟩ := rec_step (i := 1) (w := w) (a := some (.int w)) (b := some (.int 3)) (c := some (.lst (rooms.map roomD))) (d := some (.lst (ss.map sfD))) (e8 := none) (e9 := none) (o10 := o1) (o11 := o1') (fun _ => rs1) (acc := [r1]) q1.gn q1.clo w3 (by omega) (by simp)
      rw [q1.len] at s2
      obtain ⟨T3, r3, o3, o3', s3, q3, n3, p3⟩ := rec_step (i := 2) (w := w) (a := some (.int w)) (b := some (.int 3)) (c := some (.lst (rooms.map roomD))) (d := some (.lst (ss.map sfD))) (e8 := none) (e9 := none) (o10 := o2) (o11 := o2') (fun _ => rs2) (acc := [r1, r2]) q2.gn q2.clo w3 (by omega) (by simp)
      rw [q2.len, q1.len] at s3
      refine ⟨T3, [r1, r2, r3], _, Eq.trans (loop_nx (bd := bN 4) rfl s1) (Eq.trans (loop_nx (bd := bN 4) rfl s2) (Eq.trans (loop_nx (bd := bN 4) rfl s3) rfl)), rfl, rfl, ⟨((q1.trans q2).trans q3).ex, q3.clo, q3.gn.le (by omega)⟩, by simp [n1, n2, n3, rst], by simpa using ⟨p1, p2, p3⟩⟩
  obtain ⟨S', rs, ρ, e4, ρ5, ρ7, g4, rn, rp⟩ := loop
  have gl : S'.length = S.length := by rw [g4.len, g1.len]
  have gg : Gs S S' n (k + 30) := g1.trans g4
  refine ⟨S', ss, rs, v_C2 (T := [none]) (runB_rt (S1 := S' ++ [none]) ?_) gl (lo_mono (Nat.zero_le _) _ (by simp)) gg.clo, gg, ⟨sn, sr, rn, rp⟩⟩
  unfold d_law_mill_drawn
  have A1 : sAsg (bN 3) (dLc false [4] (fun ρ => mbind ((aCons (dV 1) aNil) ρ) itR1) (bN 4) tdYes ce_law_mill_drawn_1) [some (.h n), some (.int w), some (.int m), none, none, none, none, none, none, none, none, none] S = some (.nx [some (.h n), some (.int w), some (.int m), some (.lst (rooms.map roomD)), none, none, none, none, none, none, none, none], S1) := by
    exact asg_n (lc_d (bind_ok (args1 rfl) (rg hw)) e1 l1')
  have A2 : sAsg (bN 5) (dLc false [4] (fun ρ => mbind ((aCons (dV 1) aNil) ρ) itR1) (bN 4) tdYes ce_law_mill_drawn_2) [some (.h n), some (.int w), some (.int m), some (.lst (rooms.map roomD)), none, none, none, none, none, none, none, none] S1 = some (.nx [some (.h n), some (.int w), some (.int m), some (.lst (rooms.map roomD)), none, some (.lst (ss.map sfD)), none, none, none, none, none, none], S1) := by
    exact asg_n (lc_d (bind_ok (args1 rfl) (rg hw)) e2 (by simpa using sl'))
  have A3 : sPar 6 7 (aCons (dLcA false [8, 9] (dV 5) (bTup 2 (bCons (bN 8) (bCons (bN 9) bNil))) tdYes (dV 8)) (aCons (dLst true aNil) aNil)) [some (.h n), some (.int w), some (.int m), some (.lst (rooms.map roomD)), none, some (.lst (ss.map sfD)), none, none, none, none, none, none] S1 = some (.nx [some (.h n), some (.int w), some (.int m), some (.lst (rooms.map roomD)), none, some (.lst (ss.map sfD)), some (.lst ((ab w).map D.str)), some (.h S1.length), none, none, none, none], S1 ++ [some (.cl [])]) := by
    exact par_d (args2 (lcA_d rfl e3 abl) (by rw [v_lst, v_bind]; rfl))
  refine seq_nx A1 (seq_nx A2 (seq_nx A3 (seq_nx (for_d (ds := (List.range m).map fun i => D.int (i : Nat)) (S1 := S1 ++ [some (.cl [])]) ?_ e4) (ret_d ?_))))
  · exact bind_ok (args1 rfl) (rg hm)
  · have hS : (S' ++ [some (Cell.cl (rs.map rcD))])[S1.length]? = some (some (.cl (rs.map rcD))) := by rw [← g4.len]; simp
    have hr := frz_cl hS (los_rc rs)
    have tup : dTup (aCons (dV 5) (aCons (dV 7) aNil)) ρ (S' ++ [some (.cl (rs.map rcD))]) = some (.ok (.tup [.lst (ss.map sfD), .h S1.length]), S' ++ [some (.cl (rs.map rcD))]) := by
      simp [ρ5, ρ7]
    rw [v_frz, v_bind, tup]
    dsimp only
    unfold frz
    rw [if_neg (by simp)]
    rw [frzG, v_bind, frzsG, v_bind, frzG_id _ _ _ (show D.lo 0 (.lst (ss.map sfD)) = true by simp)]
    dsimp only
    have h8 : frzG (rFz 8) (.h S1.length) (S' ++ [some (.cl (rs.map rcD))]) = some (.ok (.lst (rs.map rcD)), (S' ++ [some (Cell.cl (rs.map rcD))] : Store).set S1.length none) := by
      unfold frz at hr
      rw [if_neg (by simp)] at hr
      exact hr
    rw [v_bind, frzsG, v_bind, h8]
    rw [← g4.len]
    simp [frzsG]
end K13
end
section
namespace K13
open PySem PySem.Spec PyProof.Rows L2 L2.Hy He
/-- a name that is written out -/
def nmB (n : Str) : Bool := match d_is_name [some (.str n), none] [] with
  | some (.rt (.bl true), _) => PyData.strOk n
  | _ => false
theorem nm_of {n : Str} (h : nmB n = true) : NameOk n := by
  unfold nmB at h
  split at h
  · rename_i S' e
    exact ⟨fun S => v_F (by simp) (r := .bl true) e rfl, h⟩
  · cases h
theorem nm_lit : (["a", "b", "c", "r", "s", "t", "zz", "y", "z", "zx", "zy"] : List Str).all nmB = true := by kernel_rfl
theorem nm_in {n : Str} (h : n ∈ (["a", "b", "c", "r", "s", "t", "zz", "y", "z", "zx", "zy"] : List Str)) : NameOk n := nm_of (List.all_eq_true.mp nm_lit n h)
theorem Pt.sd {names : List Str} (nd : names.Nodup) {s : Sd} (p : Pt names s) : SdOk names s := by
  refine ⟨?_, fun q hq => ?_, p.sub.nodup nd⟩
  · have := p.sub.length_le
    simpa using this
  · have := p.v q hq
    exact ⟨p.sub.subset (List.mem_map_of_mem hq), by omega, by omega⟩
theorem ab_nodup {w : Nat} : (ab w).Nodup := by
  unfold ab
  exact (List.take_sublist _ _).nodup (by decide +kernel)
theorem rst_nodup {m : Nat} : (rst m).Nodup := by
  unfold rst
  exact (List.take_sublist _ _).nodup (by decide +kernel)
theorem ab_nm {w : Nat} : ∀ n ∈ ab w, NameOk n := fun n h => nm_in (by
  have := List.mem_of_mem_take h
  simp only [List.mem_cons, List.not_mem_nil, or_false] at this
  rcases this with rfl | rfl | rfl <;> simp)
theorem rst_nm {m : Nat} : ∀ n ∈ rst m, NameOk n := fun n h => nm_in (by
  have := List.mem_of_mem_take h
  simp only [List.mem_cons, List.not_mem_nil, or_false] at this
  rcases this with rfl | rfl | rfl <;> simp)
theorem Drawn.ok {w m : Nat} {ss : List Sf} {rs : List Rc} (h : Drawn w m ss rs) (hw : 1 ≤ w ∧ w ≤ 3) (hm : 1 ≤ m ∧ m ≤ 3) : MillOk ss rs := by
  have l1 : ss.length = w := by
    have := congrArg List.length h.sn
    simp [ab] at this
    omega
  have l2 : rs.length = m := by
    have := congrArg List.length h.rn
    simp [rst] at this
    omega
  refine ⟨by omega, by omega, fun s hs => ⟨ab_nm (w := w) _ (by rw [← h.sn]; exact List.mem_map_of_mem hs), fun i hi => ?_⟩, by rw [h.sn]; exact ab_nodup, by omega, fun r hr => ?_, by rw [h.rn]; exact rst_nodup⟩
  · have := h.sr s hs i hi
    omega
  · rw [h.sn]
    exact ⟨rst_nm (m := m) _ (by rw [← h.rn]; exact List.mem_map_of_mem hr), (h.pt r hr).1.sd ab_nodup, (h.pt r hr).2.sd ab_nodup⟩
/-! ### mills compared -/
theorem MillOk.oks {ss : List Sf} {rs : List Rc} (h : MillOk ss rs) : okDs 19 (ss.map sfD) = true := oks_map fun s hs => by
  have := (h.s s hs).nm.ok
  obtain ⟨n, r⟩ := s
  cases r <;> simp [sfD, roomD, this]
theorem MillOk.okr {ss : List Sf} {rs : List Rc} (h : MillOk ss rs) : okDs 19 (rs.map rcD) = true := oks_map fun r hr => by
  have hn := h.strs
  have sd : ∀ s : Sd, SdOk (ss.map (·.1)) s → okD 18 (sdD s) = true := fun s hs => by
    unfold sdD
    rw [ok_lst]
    exact oks_map fun p hp => by
      have := hn _ (hs.it p hp).1
      simp [prD, this]
  have q := h.r r hr
  simp [rcD, q.nm.ok, sd _ q.t, sd _ q.g]
theorem nb_sf (s : Sf) : nbD (sfD s) = true := by
  obtain ⟨n, r⟩ := s
  cases r <;> rfl
theorem nb_sd (s : Sd) : nbD (sdD s) = true := by
  unfold sdD
  rw [nb_lst]
  exact nbs_map fun p _ => rfl
theorem nb_rc (r : Rc) : nbD (rcD r) = true := by simp [rcD, nb_sd]
theorem sf_inj {s t : Sf} (h : sfD s = sfD t) : s = t := by
  obtain ⟨n, r⟩ := s
  obtain ⟨m, q⟩ := t
  cases r <;> cases q <;> simp_all [sfD, roomD]
theorem sd_inj {s t : Sd} (h : sdD s = sdD t) : s = t := by
  unfold sdD at h
  injection h with h
  refine (List.map_inj_right (f := prD) fun a b e => ?_).mp h
  obtain ⟨n, r⟩ := a
  obtain ⟨m, q⟩ := b
  simp_all [prD]
theorem rc_inj {s t : Rc} (h : rcD s = rcD t) : s = t := by
  obtain ⟨n, a, b⟩ := s
  obtain ⟨m, c, d⟩ := t
  unfold rcD at h
  injection h with h
  injection h with h1 h
  injection h with h2 h
  injection h with h3 h
  injection h1 with h1
  have e2 := sd_inj h2
  have e3 := sd_inj h3
  simp only at h1 e2 e3
  rw [h1, e2, e3]
section
variable {ss ss' : List Sf} {rs rs' : List Rc} {S : Store}
theorem eqS (h : MillOk ss rs) (h' : MillOk ss' rs') : eqDs (ss.map sfD) (ss'.map sfD) = decide (ss = ss') := by
  rw [Bool.eq_iff_iff, eqDs_iff 19 _ _ h.oks h'.oks (nbs_map fun s _ => nb_sf s) (nbs_map fun s _ => nb_sf s), decide_eq_true_iff]
  exact List.map_inj_right fun a b e => sf_inj e
theorem eqR (h : MillOk ss rs) (h' : MillOk ss' rs') : eqDs (rs.map rcD) (rs'.map rcD) = decide (rs = rs') := by
  rw [Bool.eq_iff_iff, eqDs_iff 19 _ _ h.okr h'.okr (nbs_map fun s _ => nb_rc s) (nbs_map fun s _ => nb_rc s), decide_eq_true_iff]
  exact List.map_inj_right fun a b e => rc_inj e
theorem millEq (h : MillOk ss rs) (h' : MillOk ss' rs') : runF 2 d_Mill_eq [millD ss rs, millD ss' rs'] S = some (.ok (.bl (decide (ss = ss') && decide (rs = rs'))), S) := by
  refine v_F (S' := []) (by simp) ?_ (by simp)
  have e1 := fEq_D (S := []) (x := .lst (ss.map sfD)) (y := .lst (ss'.map sfD)) (ng := false) (by rw [ok_lst]; exact h.oks) (by rw [ok_lst]; exact h'.oks)
  have e2 := fEq_D (S := []) (x := .lst (rs.map rcD)) (y := .lst (rs'.map rcD)) (ng := false) (by rw [ok_lst]; exact h.okr) (by rw [ok_lst]; exact h'.okr)
  rw [eq_ll, eqS h h'] at e1
  rw [eq_ll, eqR h h'] at e2
  by_cases c : ss = ss'
  · subst c
    simp only [decide_true] at e1
    simp [d_Mill_eq, lk1, lk2, e1, e2]
  · simp only [c, decide_false] at e1
    simp [d_Mill_eq, lk1, lk2, e1, e2, c]
theorem isC_mill : isC S "Mill" (millD ss rs) = true := by
  unfold isC
  rw [objM]
  simp
theorem eqMM {ng : Bool} (h : MillOk ss rs) (h' : MillOk ss' rs') : fEqO ng "Mill" (runP (runF 2 d_Mill_eq)) (millD ss rs) (millD ss' rs') S = some (.ok (.bl (if ng = true then !(decide (ss = ss') && decide (rs = rs')) else decide (ss = ss') && decide (rs = rs'))), S) := by
  unfold fEqO
  rw [if_pos isC_mill, if_pos (.inr isC_mill)]
  have e := v_P (S := S) (F := runF 2 d_Mill_eq) (ds := [millD ss rs, millD ss' rs']) (by simp) (millEq h h') rfl
  rw [v_bind, v_nox, e]
  rfl
theorem kq_no : (["NoneType", "bool", "int", "str", "tuple", "list", "dict"] : List String).all (fun T => match kq (.b T) (.c "Mill") with | some false => true | _ => false) = true := by decide +kernel
/-- anything else is no mill -/
theorem millEqX {x : D} {T : String} (hx : D.lo 0 x = true) (ht : tyD [] x = some T) : runF 2 d_Mill_eq [millD ss rs, x] S = some (.ok (.bl false), S) := by
  refine v_F (S' := []) (by simp [hx]) ?_ (by simp)
  have k0 : kq (.b T) (.c "Mill") = some false := by
    have := List.all_eq_true.mp kq_no T (tyD_in ht)
    split at this
    · assumption
    · cases this
  have tg : tgD [] oc xc x = some (.b T) := by
    cases x <;> first | (cases ht; done) | (cases ht; rfl) | (unfold tyD at ht; cases ht; rfl) | skip
  simp [d_Mill_eq, tg, k0]
theorem eqMX {x : D} {T : String} {ng : Bool} (hx : D.lo 0 x = true) (ht : tyD [] x = some T) : fEqO ng "Mill" (runP (runF 2 d_Mill_eq)) (millD ss rs) x S = some (.ok (.bl ng), S) := by
  unfold fEqO
  have ht2 : tyD S x = some T := by
    cases x <;> first | (cases ht; done) | (cases ht; rfl) | exact ht | skip
  rw [if_pos isC_mill, if_pos (.inl (by rw [ht2]; rfl))]
  have e := v_P (S := S) (F := runF 2 d_Mill_eq) (ds := [millD ss rs, x]) (by simp [hx]) (millEqX hx ht) rfl
  rw [v_bind, v_nox, e]
  cases ng <;> rfl
theorem eqXM {x : D} {T : String} (hx : D.lo 0 x = true) (ht : tyD [] x = some T) : fEqO false "Mill" (runP (runF 2 d_Mill_eq)) x (millD ss rs) S = some (.ok (.bl false), S) := by
  unfold fEqO
  have ht2 : tyD S x = some T := by
    cases x <;> first | (cases ht; done) | (cases ht; rfl) | exact ht | skip
  have nc : ¬ isC S "Mill" x = true := by
    have q : isC S "Mill" x = false := by
      cases x <;> first | (cases ht; done) | (rfl) | skip
      all_goals simp at hx
    rw [q]
    exact Bool.false_ne_true
  rw [if_neg nc, if_pos isC_mill, if_pos ⟨by rw [ht2]; rfl, rfl⟩]
  have e := v_P (S := S) (F := runF 2 d_Mill_eq) (ds := [millD ss rs, x]) (by simp [hx]) (millEqX hx ht) rfl
  rw [v_bind, v_nox, e]
  rfl
end
end K13
end
section
/-! more steps: slices, +, last items; a list lengthened; all items of a loop alike. -/
namespace L2.Hy
open PySem PySem.Spec PyProof.Rows
section
variable {S : Store} {ρ : Env} {a b : SDen} {da db : Den} {x y d : D} {ds es : List D} {n i : Nat}
@[simp] theorem v_cat {bb : Bool} : fCat bb x y S = (match lstD S x, lstD S y with
  | some ds, some es => allocL bb (ds ++ es) S
  | _, _ => none) := id rfl
@[simp] theorem v_rev {bb : Bool} : fRev bb x S = (match lstD S x with
  | some ds => allocL bb ds.reverse S
  | none => none) := id rfl
@[simp] theorem v_neg {k : Int} : fNeg (.int k) = mret (.int (-k)) := id rfl
@[simp] theorem v_dsl {bb : Bool} {dl du : PD} : dSl bb da dl du ρ S = mbind (da ρ) (fun x => mbind (dl ρ) fun lo => mbind (du ρ) fun hi => fSl bb x lo hi) S := id rfl
@[simp] theorem v_oNo : oNo ρ S = some (.ok none, S) := id rfl
@[simp] theorem v_oSm : oSm da ρ S = mbind (da ρ) intO S := id rfl
@[simp] theorem v_intO {k : Int} : intO (.int k) = mret (some k) := id rfl
@[simp] theorem v_dctF : dDct false ρ S = some (.ok (.dct []), S) := id rfl
@[simp] theorem v_atLast : atI (ds ++ [x]) (-1) = some x := by
  unfold atI ixN
  have h1 : (1 : Int) ≤ (ds.length : Int) + 1 := by omega
  have h2 : (-1 + ((ds.length : Int) + 1)).toNat = ds.length := by omega
  simp [h1, h2]
theorem v_slInit (h : ds.length ≤ 16777216) : fSl false (.lst (ds ++ [x])) none (some (-1)) S = some (.ok (.lst ds), S) := by
  unfold fSl
  have e : HT.sIx (ds ++ [x]).length (ds ++ [x]).length (some (-1)) = ds.length := by
    unfold HT.sIx
    dsimp only
    rw [if_pos (by decide), List.length_append, List.length_singleton]
    omega
  simp only [lstD, HT.sIx_none, e, List.drop_zero, Nat.sub_zero, List.take_left, v_allocF, if_pos h]
theorem v_slTail (h : ds.length ≤ 16777216) : fSl false (.lst (x :: ds)) (some 1) none S = some (.ok (.lst ds), S) := by
  unfold fSl
  have e : HT.sIx (ds.length + 1) 0 (some 1) = 1 := by
    have := HT.sIx_nat (ds.length + 1) 0 1
    rw [show ((1 : Nat) : Int) = 1 from rfl] at this
    rw [this]
    omega
  simp only [lstD, HT.sIx_none, e, List.drop_succ_cons, List.drop_zero, List.length_cons, Nat.add_sub_cancel, List.take_length, v_allocF, if_pos h]
theorem forA_d {S1 : Store} {bd : Bd} {o : Option (Ou × Store)} (h : da ρ S = some (.ok (.lst ds), S1)) (e : loopX bd b ds ρ S1 = o) : sForA da bd b ρ S = o := forA_l h e
theorem exp_d {S1 : Store} (h : da ρ S = some (.ok x, S1)) : sExp da ρ S = some (.nx ρ, S1) := by
  rw [v_sexp, v_lift, h]
  rfl
/-- a loop that passes every item by, and keeps what one looks at -/
theorem loop_all {bd : Bd} (I : Env → Store → Prop) : ∀ (ds : List D) (ρ : Env) (S : Store), I ρ S → (∀ d ∈ ds, ∀ ρ S, I ρ S → ∃ ρ1 ρ2 S2, bd.go d ρ = some ρ1 ∧ b ρ1 S = some (.nx ρ2, S2) ∧ I ρ2 S2) → ∃ ρ2 S2, loopX bd b ds ρ S = some (.nx ρ2, S2) ∧ I ρ2 S2
  | [], ρ, S, h, _ => ⟨ρ, S, rfl, h⟩
  | d :: ds, ρ, S, h, f => by
    obtain ⟨ρ1, ρ2, S2, e1, e2, h2⟩ := f d (List.mem_cons_self) ρ S h
    obtain ⟨ρ3, S3, e3, h3⟩ := loop_all I ds ρ2 S2 h2 fun d hd => f d (List.mem_cons_of_mem _ hd)
    exact ⟨ρ3, S3, (loop_nx e1 e2).trans e3, h3⟩
theorem app_d {S1 S2 : Store} (h : da ρ S = some (.ok (.h n), S1)) (hd : db ρ S1 = some (.ok d, S2)) (h1 : ∃ es, S1[n]? = some (some (.cl es))) (h2 : S2[n]? = some (some (.cl ds))) (hl : ds.length < 16777216) : dApp da (aCons db aNil) ρ S = some (.ok .non, S2.set n (some (.cl (ds ++ [d])))) := by
  obtain ⟨es, h1⟩ := h1
  rw [v_app]
  refine bind_ok h ?_
  rw [v_bind, v_mOf, v_lstH, h1]
  dsimp only [Option.map]
  rw [v_bind, args1 hd]
  dsimp only
  rw [v_fApp, h2]
  dsimp only
  rw [if_pos hl]
end
end L2.Hy
end
section
/-! repr of values that hold no cell. -/
namespace L2.Hy
open PySem PySem.Spec PyProof.Rows
mutual
theorem sdG_lo (r r' : Nat → Option PyData) : ∀ d : D, D.lo 0 d = true → sdG r d = sdG r' d
  | .non, _ => rfl
  | .bl _, _ => rfl
  | .int _, _ => rfl
  | .str _, _ => rfl
  | .ty _, _ => rfl
  | .cls _, _ => rfl
  | .nfn _, _ => rfl
  | .scr _, _ => rfl
  | .obj _ _, _ => rfl
  | .exc _ _ _, _ => rfl
  | .tup ds, h => by rw [sdG, sdG, sdsG_lo r r' ds h]
  | .lst ds, h => by rw [sdG, sdG, sdsG_lo r r' ds h]
  | .dct ds, h => by rw [sdG, sdG, sdkG_lo r r' ds h]
  | .h k, h => by simp at h
theorem sdsG_lo (r r' : Nat → Option PyData) : ∀ ds : List D, D.los 0 ds = true → sdsG r ds = sdsG r' ds
  | [], _ => rfl
  | d :: ds, h => by
    have h := (show (D.lo 0 d && D.los 0 ds) = true from h)
    rw [Bool.and_eq_true] at h
    rw [sdsG, sdsG, sdG_lo r r' d h.1, sdsG_lo r r' ds h.2]
theorem sdkG_lo (r r' : Nat → Option PyData) : ∀ ds : List (Key × D), D.lok 0 ds = true → sdkG r ds = sdkG r' ds
  | [], _ => rfl
  | (k, d) :: ds, h => by
    have h := (show (D.lo 0 d && D.lok 0 ds) = true from h)
    rw [Bool.and_eq_true] at h
    rw [sdkG, sdkG, sdG_lo r r' d h.1, sdkG_lo r r' ds h.2]
end
/-- what repr tells of a value -/
def rpD (d : D) : Option Str := match sdG (fun _ => none) d with
  | some p => if p.showable = true ∧ p.shown.length ≤ 16777216 ∧ p.depth ≤ 60 then some p.shown else none
  | none => none
theorem v_repr {d : D} {S : Store} {z : Str} (h : D.lo 0 d = true) (e : rpD d = some z) : fRepr [d] S = some (.ok (.str z), S) := by
  unfold fRepr
  rw [v_on1, v_mOf, sdG_lo (rS S 8) (fun _ => none) d h]
  unfold rpD at e
  split at e
  · rename_i p hp
    try rw [hp]
    try dsimp only
    split at e
    · rename_i c
      rw [if_pos c]
      cases e
      rfl
    · cases e
  · cases e
theorem rp_of {d : D} {p : PyData} (e : sdG (fun _ => none) d = some p) (h : p.showable = true) (w : Xv.wt p ≤ 16777216) (dp : p.depth ≤ 60) : rpD d = some p.shown := by
  unfold rpD
  rw [e]
  dsimp only
  rw [if_pos ⟨h, Nat.le_trans (Xv.shown_le p h) w, dp⟩]
/-! letters of what is told -/
theorem sok_append {x y : Str} (h : PyData.strOk x = true) (h' : PyData.strOk y = true) : PyData.strOk (x ++ y) = true := by
  unfold PyData.strOk at *
  rw [show (x ++ y).cps = x.cps ++ y.cps from rfl, Array.all_append, h, h']
  rfl
theorem sok_from : ∀ (ts : List Str) (k : Nat) (acc : Str), PyData.strOk acc = true → (∀ t ∈ ts, PyData.strOk t = true) → PyData.strOk (textFrom k acc ts) = true
  | [], _, acc, h, _ => h
  | t :: ts, k, acc, h, ht => by
    refine sok_from ts (k + 1) _ (sok_append (sok_append h ?_) (ht t (by simp))) fun x hx => ht x (by simp [hx])
    split <;> decide +kernel
theorem sok_join : ∀ (ts : List Str), (∀ t ∈ ts, PyData.strOk t = true) → PyData.strOk (Str.join ", " ts) = true
  | [], _ => by decide +kernel
  | [t], h => h t (by simp)
  | t :: u :: ts, h => sok_append (sok_append (h t (by simp)) (by decide +kernel)) (sok_join (u :: ts) fun x hx => h x (by simp [List.mem_cons.mp hx]))
theorem sok_list {ps : List PyData} (h : ∀ t ∈ PyData.shownAll ps, PyData.strOk t = true) : PyData.strOk (PyData.shown (.list ps)) = true :=
  sok_append (sok_from _ _ _ (by decide +kernel) h) (by decide +kernel)
theorem sok_tuple {ps : List PyData} (h : ∀ t ∈ PyData.shownAll ps, PyData.strOk t = true) : PyData.strOk (PyData.shown (.tuple ps)) = true := by
  refine sok_append (sok_append (by decide +kernel) (sok_join _ h)) ?_
  split <;> decide +kernel
theorem shownAll_map {α : Type} (f : α → PyData) : ∀ l : List α, PyData.shownAll (l.map f) = l.map fun a => (f a).shown
  | [] => rfl
  | a :: l => by rw [List.map_cons, PyData.shownAll, shownAll_map f l, List.map_cons]
theorem sok_tuple_map {α : Type} {f : α → PyData} {l : List α} (h : ∀ a ∈ l, PyData.strOk (f a).shown = true) : PyData.strOk (PyData.shown (.tuple (l.map f))) = true := sok_tuple fun t ht => by
  rw [shownAll_map] at ht
  obtain ⟨a, ha, rfl⟩ := List.mem_map.mp ht
  exact h a ha
theorem sok_list_map {α : Type} {f : α → PyData} {l : List α} (h : ∀ a ∈ l, PyData.strOk (f a).shown = true) : PyData.strOk (PyData.shown (.list (l.map f))) = true := sok_list fun t ht => by
  rw [shownAll_map] at ht
  obtain ⟨a, ha, rfl⟩ := List.mem_map.mp ht
  exact h a ha
theorem sds_map {α : Type} {r : Nat → Option PyData} {f : α → D} {g : α → PyData} : ∀ {l : List α}, (∀ a ∈ l, sdG r (f a) = some (g a)) → sdsG r (l.map f) = some (l.map g)
  | [], _ => rfl
  | a :: l, h => by
    rw [List.map_cons, List.map_cons, sdsG, h a (by simp), sds_map fun b hb => h b (by simp [hb])]
theorem showAll_map {α : Type} {f : α → PyData} : ∀ {l : List α}, (∀ a ∈ l, (f a).showable = true) → PyData.showableAll (l.map f) = true
  | [], _ => rfl
  | a :: l, h => by rw [List.map_cons, PyData.showableAll, h a (by simp), showAll_map fun b hb => h b (by simp [hb])]; rfl
theorem wtAll_map {α : Type} {f : α → PyData} {k : Nat} : ∀ {l : List α}, (∀ a ∈ l, Xv.wt (f a) ≤ k) → Xv.wtAll (l.map f) ≤ l.length * (k + 2)
  | [], _ => by simp [Xv.wtAll]
  | a :: l, h => by
    have h1 := h a (by simp)
    have h2 := wtAll_map (l := l) (f := f) (k := k) fun b hb => h b (by simp [hb])
    rw [List.map_cons, Xv.wtAll, List.length_cons, Nat.succ_mul]
    omega
end L2.Hy
end
section
namespace K13
open PySem PySem.Spec PyProof.Rows L2 L2.Hy He
theorem ex_nx {a b : SDen} {ρ ρ1 : Hy.Env} {S S1 : Store} {r : D} (h : a ρ S = some (.nx ρ1, S1)) (e : ∃ S', b ρ1 S1 = some (.rt r, S')) : ∃ S', sSeq a b ρ S = some (.rt r, S') := e.elim fun S' e => ⟨S', seq_nx h e⟩
/-! what the closed lists hold -/
/-- its repr is told and stands in a text -/
def rpB (d : D) : Bool := D.lo 0 d && match rpD d with
  | some z => PyData.strOk z
  | none => false
theorem rpB_of {d : D} (h : rpB d = true) : D.lo 0 d = true ∧ ∃ z, rpD d = some z ∧ PyData.strOk z = true := by
  unfold rpB at h
  rw [Bool.and_eq_true] at h
  refine ⟨h.1, ?_⟩
  have h2 := h.2
  split at h2
  · rename_i z e
    exact ⟨z, e, h2⟩
  · cases h2
/-- a def that says False of closed values -/
def saysF (n : Nat) (den : SDen) (ds : List D) : Bool := D.los 0 ds && match den (ds.map some ++ List.replicate (n - ds.length) none) [] with
  | some (.rt (.bl false), _) => true
  | _ => false
theorem saysF_of {n : Nat} {den : SDen} {ds : List D} {S : Store} (h : saysF n den ds = true) : runF n den ds S = some (.ok (.bl false), S) := by
  unfold saysF at h
  rw [Bool.and_eq_true] at h
  have h2 := h.2
  split at h2
  · rename_i S' e
    exact v_F h.1 e rfl
  · cases h2
end K13
end
section
namespace K13
open PySem PySem.Spec PyProof.Rows L2 L2.Hy He
/-! shown texts of drawn values -/
structure Nice (p : PyData) (k d : Nat) : Prop where
  show' : p.showable = true
  wt : Xv.wt p ≤ k
  dp : p.depth ≤ d
  ok : PyData.strOk p.shown = true
theorem Nice.mono {p : PyData} {k d k' d' : Nat} (h : Nice p k d) (hk : k ≤ k') (hd : d ≤ d') : Nice p k' d' := ⟨h.show', Nat.le_trans h.wt hk, Nat.le_trans h.dp hd, h.ok⟩
theorem Nice.rp {v : D} {p : PyData} {k d : Nat} (h : Nice p k d) (e : sdG (fun _ => none) v = some p) (hk : k ≤ 16777216) (hd : d ≤ 60) : rpD v = some p.shown := rp_of e h.show' (Nat.le_trans h.wt hk) (Nat.le_trans h.dp hd)
theorem showAll_of {ps : List PyData} (h : ∀ p ∈ ps, p.showable = true) : PyData.showableAll ps = true := by
  have := showAll_map (f := fun p : PyData => p) (l := ps) h
  simpa using this
theorem wtAll_of {ps : List PyData} {k : Nat} (h : ∀ p ∈ ps, Xv.wt p ≤ k) : Xv.wtAll ps ≤ ps.length * (k + 2) := by
  have := wtAll_map (f := fun p : PyData => p) (l := ps) h
  simpa using this
theorem sokAll {ps : List PyData} (h : ∀ p ∈ ps, PyData.strOk p.shown = true) : ∀ t ∈ PyData.shownAll ps, PyData.strOk t = true := by
  have e := shownAll_map (fun p : PyData => p) ps
  rw [List.map_id'] at e
  intro t ht
  rw [e] at ht
  obtain ⟨p, hp, rfl⟩ := List.mem_map.mp ht
  exact h p hp
theorem dpAll : ∀ {ps : List PyData} {d : Nat}, (∀ p ∈ ps, p.depth ≤ d) → PyData.depthAll ps ≤ d
  | [], _, _ => by simp [PyData.depthAll]
  | p :: ps, d, h => by
    have h1 := h p (by simp)
    have h2 := dpAll (ps := ps) (d := d) fun q hq => h q (by simp [hq])
    rw [PyData.depthAll]
    omega
theorem Nice.list {ps : List PyData} {k d n : Nat} (h : ∀ p ∈ ps, Nice p k d) (hn : ps.length ≤ n) : Nice (.list ps) (3 + n * (k + 2)) (d + 1) := by
  refine ⟨showAll_of fun p hp => (h p hp).show', ?_, ?_, sok_list (sokAll fun p hp => (h p hp).ok)⟩
  · have h1 := wtAll_of fun p hp => (h p hp).wt
    have h2 := Nat.mul_le_mul_right (k + 2) hn
    rw [Xv.wt]
    omega
  · have := dpAll fun p hp => (h p hp).dp
    rw [PyData.depth]
    omega
theorem Nice.tuple {ps : List PyData} {k d n : Nat} (h : ∀ p ∈ ps, Nice p k d) (hn : ps.length ≤ n) : Nice (.tuple ps) (3 + n * (k + 2)) (d + 1) := by
  refine ⟨showAll_of fun p hp => (h p hp).show', ?_, ?_, sok_tuple (sokAll fun p hp => (h p hp).ok)⟩
  · have h1 := wtAll_of fun p hp => (h p hp).wt
    have h2 := Nat.mul_le_mul_right (k + 2) hn
    rw [Xv.wt]
    omega
  · have := dpAll fun p hp => (h p hp).dp
    rw [PyData.depth]
    omega
theorem nice_names : (["a", "b", "c", "r", "s", "t", "zz", "y", "z", "zx", "zy"] : List Str).all (fun x => PyData.strOk (reprText x) && decide ((reprText x).length ≤ 4)) = true := by kernel_rfl
theorem nice_str {n : Str} (h : n ∈ (["a", "b", "c", "r", "s", "t", "zz", "y", "z", "zx", "zy"] : List Str)) : Nice (.str n) 2000 0 := by
  have := List.all_eq_true.mp nice_names n h
  rw [Bool.and_eq_true] at this
  refine ⟨rfl, ?_, Nat.le_refl 0, this.1⟩
  have := of_decide_eq_true this.2
  show (reprText n).length ≤ 2000
  omega
theorem nice_int {i : Int} (h0 : 0 ≤ i) (h3 : i ≤ 3) : Nice (.int i) 2000 0 := by
  have : i = 0 ∨ i = 1 ∨ i = 2 ∨ i = 3 := by omega
  rcases this with rfl | rfl | rfl | rfl <;> exact ⟨by decide +kernel, by decide +kernel, by decide +kernel, by kernel_rfl⟩
theorem nice_none : Nice .none 2000 0 := ⟨rfl, by decide +kernel, by decide +kernel, by decide +kernel⟩
def roomP : Option Int → PyData
  | none => .none
  | some i => .int i
def sfP (s : Sf) : PyData := .tuple [.str s.1, roomP s.2]
def prP (p : Str × Int) : PyData := .tuple [.str p.1, .int p.2]
def rcP (r : Rc) : PyData := .tuple [.str r.1, .list (r.2.1.map prP), .list (r.2.2.map prP)]
variable {r : Nat → Option PyData}
theorem sd_sf {s : Sf} : sdG r (sfD s) = some (sfP s) := by
  obtain ⟨n, i⟩ := s
  cases i <;> rfl
theorem sd_pr {p : Str × Int} : sdG r (prD p) = some (prP p) := rfl
theorem sd_sd {s : Sd} : sdG r (sdD s) = some (.list (s.map prP)) := by
  unfold sdD
  rw [sdG, sds_map fun p _ => sd_pr]
  rfl
theorem sd_rc {x : Rc} : sdG r (rcD x) = some (rcP x) := by
  unfold rcD
  rw [sdG, sdsG, sdsG, sdsG, sdsG, sdG, sd_sd, sd_sd]
  rfl
theorem nice_sf {s : Sf} (hn : s.1 ∈ (["a", "b", "c", "r", "s", "t", "zz", "y", "z", "zx", "zy"] : List Str)) (hr : RmOk s.2) : Nice (sfP s) 4007 1 := by
  refine Nice.tuple (n := 2) (k := 2000) (d := 0) (fun p hp => ?_) (by simp)
  simp only [List.mem_cons, List.not_mem_nil, or_false] at hp
  rcases hp with rfl | rfl
  · exact nice_str hn
  · obtain ⟨n, i⟩ := s
    cases i with
    | none => exact nice_none
    | some i => exact nice_int (hr i rfl).1 (hr i rfl).2
theorem nice_pr {p : Str × Int} (hn : p.1 ∈ (["a", "b", "c", "r", "s", "t", "zz", "y", "z", "zx", "zy"] : List Str)) (h0 : 0 ≤ p.2) (h3 : p.2 ≤ 3) : Nice (prP p) 4007 1 := by
  refine Nice.tuple (n := 2) (k := 2000) (d := 0) (fun q hp => ?_) (by simp)
  simp only [List.mem_cons, List.not_mem_nil, or_false] at hp
  rcases hp with rfl | rfl
  · exact nice_str hn
  · exact nice_int h0 h3
theorem ab_in {w : Nat} : ∀ n ∈ ab w, n ∈ (["a", "b", "c", "r", "s", "t", "zz", "y", "z", "zx", "zy"] : List Str) := fun n h => by
  have := List.mem_of_mem_take h
  simp only [List.mem_cons, List.not_mem_nil, or_false] at this
  rcases this with rfl | rfl | rfl <;> simp
theorem rst_in {w : Nat} : ∀ n ∈ rst w, n ∈ (["a", "b", "c", "r", "s", "t", "zz", "y", "z", "zx", "zy"] : List Str) := fun n h => by
  have := List.mem_of_mem_take h
  simp only [List.mem_cons, List.not_mem_nil, or_false] at this
  rcases this with rfl | rfl | rfl <;> simp
section
variable {w m : Nat} {ss : List Sf} {rs : List Rc}
theorem Drawn.ns (h : Drawn w m ss rs) : ∀ s ∈ ss, s.1 ∈ (["a", "b", "c", "r", "s", "t", "zz", "y", "z", "zx", "zy"] : List Str) := fun s hs => ab_in (w := w) _ (by rw [← h.sn]; exact List.mem_map_of_mem hs)
theorem Drawn.nr (h : Drawn w m ss rs) : ∀ s ∈ rs, s.1 ∈ (["a", "b", "c", "r", "s", "t", "zz", "y", "z", "zx", "zy"] : List Str) := fun s hs => rst_in (w := m) _ (by rw [← h.rn]; exact List.mem_map_of_mem hs)
theorem nice_pt {s : Sd} (p : Pt (ab w) s) (hw : w ≤ 3) : Nice (.list (s.map prP)) (3 + 3 * (4007 + 2)) 2 := by
  refine Nice.list (k := 4007) (d := 1) (fun q hq => ?_) ?_
  · obtain ⟨x, hx, rfl⟩ := List.mem_map.mp hq
    have hv := p.v x hx
    exact nice_pr (ab_in (w := w) _ (p.sub.subset (List.mem_map_of_mem hx))) (by omega) (by omega)
  · have := p.sub.length_le
    unfold ab at this
    simp at this ⊢
    omega
theorem Drawn.tupS (h : Drawn w m ss rs) (hl : ss.length ≤ 3) : ∃ z, rpD (.tup (ss.map sfD)) = some z ∧ PyData.strOk z = true := by
  have n : Nice (.tuple (ss.map sfP)) (3 + 3 * (4007 + 2)) 2 := Nice.tuple (k := 4007) (d := 1) (fun q hq => by
    obtain ⟨x, hx, rfl⟩ := List.mem_map.mp hq
    exact nice_sf (h.ns x hx) (h.sr x hx)) (by simpa using hl)
  exact ⟨_, n.rp (by rw [sdG, sds_map fun s _ => sd_sf]; rfl) (by decide) (by decide), n.ok⟩
theorem Drawn.niceR (h : Drawn w m ss rs) (hw : w ≤ 3) : ∀ r ∈ rs, Nice (rcP r) (3 + 3 * (3 + 3 * (4007 + 2) + 2)) 3 := fun r hr => by
  refine Nice.tuple (k := 3 + 3 * (4007 + 2)) (d := 2) (fun q hq => ?_) (by simp)
  simp only [List.mem_cons, List.not_mem_nil, or_false] at hq
  rcases hq with rfl | rfl | rfl
  · exact (nice_str (h.nr r hr)).mono (by decide) (by decide)
  · exact nice_pt (h.pt r hr).1 hw
  · exact nice_pt (h.pt r hr).2 hw
theorem Drawn.tupR (h : Drawn w m ss rs) (hw : w ≤ 3) (hl : rs.length ≤ 3) : ∃ z, rpD (.tup (rs.map rcD)) = some z ∧ PyData.strOk z = true := by
  have n : Nice (.tuple (rs.map rcP)) (3 + 3 * (3 + 3 * (3 + 3 * (4007 + 2) + 2) + 2)) 4 := Nice.tuple (d := 3) (fun q hq => by
    obtain ⟨x, hx, rfl⟩ := List.mem_map.mp hq
    exact h.niceR hw x hx) (by simpa using hl)
  exact ⟨_, n.rp (by rw [sdG, sds_map fun s _ => sd_rc]; rfl) (by decide) (by decide), n.ok⟩
end
theorem last_of {α : Type} {l : List α} (h : 1 ≤ l.length) : ∃ i x, l = i ++ [x] := ⟨l.dropLast, l.getLast (by intro z; subst z; simp at h), (List.dropLast_concat_getLast _).symm⟩
theorem gn0 {S : Store} {a b c : Int} (h : 0 ≤ b ∧ b < 2147483648 ∧ 0 ≤ c ∧ c ≤ 2000) : Gn (S ++ [some (.cl [.int a, .int b, .int c])]) S.length 2000 := ⟨a, b, c, by simp, h.1, h.2.1, h.2.2.1, h.2.2.2⟩
theorem nat3 {r : Int} (h0 : 0 ≤ r) (h1 : r < 3) : ∃ w : Nat, 1 + r = (w : Int) ∧ (w = 1 ∨ w = 2 ∨ w = 3) := ⟨(1 + r).toNat, by omega, by omega⟩
theorem cellR {ns : List Int} {i : Nat} (hi : i = 0 ∨ i = 1 ∨ i = 2) {S : Store} : ∃ c : Int, runF 2 d_law_cell [.scr ns, .int (i : Int)] S = some (.ok (.int c), S) := by
  by_cases hl : i < ns.length
  · obtain ⟨c, e⟩ : ∃ c : Int, atI (ns.map D.int) (i : Int) = some (.int c) := by
      rcases hi with rfl | rfl | rfl
      · match ns, hl with
        | a :: _, _ => exact ⟨a, by simp⟩
      · match ns, hl with
        | _ :: a :: _, _ => exact ⟨a, by simp⟩
      · match ns, hl with
        | _ :: _ :: a :: _, _ => exact ⟨a, by simp⟩
    refine ⟨c, v_F (S' := []) rfl (r := .int c) ?_ rfl⟩
    have h2 : (i : Int) < (ns.length : Int) := by omega
    simp [d_law_cell, h2, e]
  · refine ⟨0, v_F (S' := []) rfl (r := .int 0) ?_ rfl⟩
    have h2 : ¬ (i : Int) < (ns.length : Int) := by omega
    simp [d_law_cell, h2]
theorem pow1 {ρ : Hy.Env} {S : Store} : ∃ p : Int, d2 fPowW (dC (.int 10)) (dC (.int 18)) ρ S = some (.ok (.int p), S) := ⟨_, by rw [v_d2]; exact bind_ok rfl (bind_ok rfl (by rw [fPowW, v_IIc, if_pos (by decide +kernel)]; exact v_ret _))⟩
theorem pow2 {ρ : Hy.Env} {S : Store} : ∃ p : Int, 0 < p ∧ d2 fPowW (d2 fPowW (dC (.int 10)) (dC (.int 60))) (dC (.int 10)) ρ S = some (.ok (.int p), S) := by
  refine ⟨((10 : Int) ^ (60 : Int).toNat) ^ (10 : Int).toNat, Int.pow_pos (Int.pow_pos (by decide)), ?_⟩
  rw [v_d2]
  refine bind_ok (aa := .int (10 ^ (60 : Int).toNat)) (S1 := S) ?_ (bind_ok rfl ?_)
  · rw [v_d2]
    exact bind_ok rfl (bind_ok rfl (by rw [fPowW, v_IIc, if_pos (by decide +kernel)]; exact v_ret _))
  · rw [fPowW, v_IIc, if_pos (by decide +kernel)]
    exact v_ret _
theorem mul1000 {i : Nat} (hi : i = 0 ∨ i = 1 ∨ i = 2) {P X : D} {S : Store} : ∃ c : Int, 0 ≤ c ∧ c ≤ 2000 ∧ dMul (dC (.int 1000)) (dV 1) [some P, some (.int (i : Int)), some X] S = some (.ok (.int c), S) := by
  rcases hi with rfl | rfl | rfl
  · exact ⟨0, by decide, by decide, by kernel_rfl⟩
  · exact ⟨1000, by decide, by decide, by kernel_rfl⟩
  · exact ⟨2000, by decide, by decide, by kernel_rfl⟩
theorem generator {ns : List Int} {i : Nat} (hi : i = 0 ∨ i = 1 ∨ i = 2) {S : Store} : ∃ a b c : Int, runB 3 d_law_generator [.scr ns, .int (i : Int)] S = some (.ok (.h S.length), S ++ [some (.cl [.int a, .int b, .int c])]) ∧ 0 ≤ b ∧ b < 2147483648 ∧ 0 ≤ c ∧ c ≤ 2000 := by
  obtain ⟨x, ex⟩ := cellR (ns := ns) hi (S := S)
  obtain ⟨p, ep⟩ := pow1 (ρ := [some (.scr ns), some (.int (i : Int)), some (.int x)]) (S := S)
  obtain ⟨q, q0, eq⟩ := pow2 (ρ := [some (.scr ns), some (.int (i : Int)), some (.int x)]) (S := S)
  obtain ⟨c, c0, c1, ec⟩ := mul1000 hi (P := .scr ns) (X := .int x) (S := S)
  refine ⟨(if (0 : Int) > x - p then 0 else x - p) % q, x % 2147483647, c, runB_rt ?_, by omega, by omega, c0, c1⟩
  show d_law_generator [some (.scr ns), some (.int (i : Int)), none] S = _
  unfold d_law_generator
  refine seq_nx (ρ1 := [some (.scr ns), some (.int (i : Int)), some (.int x)]) (S1 := S) (asg_n (i := 2) (x := .int x) ?_) (ret_d ?_)
  · simp [ex]
  · rw [v_lst]
    refine bind_ok (aa := [.int ((if (0 : Int) > x - p then 0 else x - p) % q), .int (x % 2147483647), .int c]) (S1 := S) ?_ (by simp)
    rw [v_aCons]
    refine bind_ok (aa := .int ((if (0 : Int) > x - p then 0 else x - p) % q)) (S1 := S) ?_ ?_
    · rw [v_d2]
      refine bind_ok (aa := .int (if (0 : Int) > x - p then 0 else x - p)) (S1 := S) ?_ (bind_ok eq ?_)
      · rw [v_dCB]
        refine bind_ok (aa := [.int (if (0 : Int) > x - p then 0 else x - p)]) (S1 := S) (args1 ?_) rfl
        rw [v_dCB]
        refine bind_ok (aa := [.int (x - p), .int 0]) (S1 := S) (args2 (S1 := S) ?_ rfl) rfl
        rw [v_subI]
        exact bind_ok rfl (bind_ok ep rfl)
      · rw [fMod, v_IIc, if_pos (by simpa using q0)]
        exact v_ret _
    · rw [v_bind]
      rw [args2 (S1 := S) (x := .int (x % 2147483647)) ?_ ec]
      · rfl
      · rw [v_d2]
        refine bind_ok (aa := .int x) (S1 := S) rfl (bind_ok rfl ?_)
        rw [fMod, v_IIc, if_pos (by decide)]
        exact v_ret _
end K13
end
section
/-! what the checks of values tell, for all data -/
namespace K13
open PySem PySem.Spec PyProof.Rows L2 L2.Hy He
@[simp] theorem kqx0 : kq (.b "NoneType") (.b "int") = some false := by decide +kernel
@[simp] theorem kqx1 : kq (.b "bool") (.b "int") = some true := by decide +kernel
@[simp] theorem kqx2 : kq (.b "int") (.b "int") = some true := by decide +kernel
@[simp] theorem kqx3 : kq (.b "str") (.b "int") = some false := by decide +kernel
@[simp] theorem kqx4 : kq (.b "tuple") (.b "int") = some false := by decide +kernel
@[simp] theorem kqx5 : kq (.b "list") (.b "int") = some false := by decide +kernel
@[simp] theorem kqx6 : kq (.b "dict") (.b "int") = some false := by decide +kernel
@[simp] theorem kqx7 : kq (.b "NoneType") (.b "bool") = some false := by decide +kernel
@[simp] theorem kqx8 : kq (.b "bool") (.b "bool") = some true := by decide +kernel
@[simp] theorem kqx9 : kq (.b "int") (.b "bool") = some false := by decide +kernel
@[simp] theorem kqx10 : kq (.b "str") (.b "bool") = some false := by decide +kernel
@[simp] theorem kqx11 : kq (.b "tuple") (.b "bool") = some false := by decide +kernel
@[simp] theorem kqx12 : kq (.b "list") (.b "bool") = some false := by decide +kernel
@[simp] theorem kqx13 : kq (.b "dict") (.b "bool") = some false := by decide +kernel
@[simp] theorem kqx14 : kq (.b "NoneType") (.b "tuple") = some false := by decide +kernel
@[simp] theorem kqx15 : kq (.b "bool") (.b "tuple") = some false := by decide +kernel
@[simp] theorem kqx16 : kq (.b "int") (.b "tuple") = some false := by decide +kernel
@[simp] theorem kqx17 : kq (.b "str") (.b "tuple") = some false := by decide +kernel
@[simp] theorem kqx18 : kq (.b "tuple") (.b "tuple") = some true := by decide +kernel
@[simp] theorem kqx19 : kq (.b "list") (.b "tuple") = some false := by decide +kernel
@[simp] theorem kqx20 : kq (.b "dict") (.b "tuple") = some false := by decide +kernel
@[simp] theorem kqx21 : kq (.b "NoneType") (.b "str") = some false := by decide +kernel
@[simp] theorem kqx22 : kq (.b "bool") (.b "str") = some false := by decide +kernel
@[simp] theorem kqx23 : kq (.b "int") (.b "str") = some false := by decide +kernel
@[simp] theorem kqx24 : kq (.b "str") (.b "str") = some true := by decide +kernel
@[simp] theorem kqx25 : kq (.b "tuple") (.b "str") = some false := by decide +kernel
@[simp] theorem kqx26 : kq (.b "list") (.b "str") = some false := by decide +kernel
@[simp] theorem kqx27 : kq (.b "dict") (.b "str") = some false := by decide +kernel
@[simp] theorem kqx28 : kq (.b "NoneType") (.b "list") = some false := by decide +kernel
@[simp] theorem kqx29 : kq (.b "bool") (.b "list") = some false := by decide +kernel
@[simp] theorem kqx30 : kq (.b "int") (.b "list") = some false := by decide +kernel
@[simp] theorem kqx31 : kq (.b "str") (.b "list") = some false := by decide +kernel
@[simp] theorem kqx32 : kq (.b "tuple") (.b "list") = some false := by decide +kernel
@[simp] theorem kqx33 : kq (.b "list") (.b "list") = some true := by decide +kernel
@[simp] theorem kqx34 : kq (.b "dict") (.b "list") = some false := by decide +kernel
@[simp] theorem tgx0 {S : Store}  : tgD S oc xc .non = some (.b "NoneType") := id rfl
@[simp] theorem tgx1 {S : Store} {z : Bool} : tgD S oc xc (.bl z) = some (.b "bool") := id rfl
@[simp] theorem tgx2 {S : Store} {z : List (Key × D)} : tgD S oc xc (.dct z) = some (.b "dict") := id rfl
mutual
/-- data -/
def dat : D → Bool
  | .non => true
  | .bl _ => true
  | .int _ => true
  | .str x => PyData.strOk x
  | .tup ds => dats ds
  | .lst ds => dats ds
  | .dct kvs => kvs.isEmpty
  | _ => false
def dats : List D → Bool
  | [] => true
  | d :: ds => dat d && dats ds
end
mutual
theorem dat_lo : ∀ d : D, dat d = true → D.lo 0 d = true
  | .non, _ => rfl
  | .bl _, _ => rfl
  | .int _, _ => rfl
  | .str _, _ => rfl
  | .tup ds, h => dats_lo ds h
  | .lst ds, h => dats_lo ds h
  | .dct kvs, h => by
    cases kvs with
    | nil => rfl
    | cons _ _ => cases h
  | .ty _, h => by cases h
  | .cls _, h => by cases h
  | .nfn _, h => by cases h
  | .obj _ _, h => by cases h
  | .exc _ _ _, h => by cases h
  | .h _, h => by cases h
  | .scr _, h => by cases h
theorem dats_lo : ∀ ds : List D, dats ds = true → D.los 0 ds = true
  | [], _ => rfl
  | d :: ds, h => by
    have h : (dat d && dats ds) = true := h
    rw [Bool.and_eq_true] at h
    show (D.lo 0 d && D.los 0 ds) = true
    rw [dat_lo d h.1, dats_lo ds h.2]
    rfl
end
theorem dats_mem : ∀ {ds : List D}, dats ds = true → ∀ d ∈ ds, dat d = true
  | d :: ds, h, x, hx => by
    have h : (dat d && dats ds) = true := h
    rw [Bool.and_eq_true] at h
    rcases List.mem_cons.mp hx with rfl | z
    · exact h.1
    · exact dats_mem h.2 x z
theorem dats_of : ∀ {ds : List D}, (∀ d ∈ ds, dat d = true) → dats ds = true
  | [], _ => rfl
  | d :: ds, h => by
    show (dat d && dats ds) = true
    rw [h d (by simp), dats_of fun x hx => h x (by simp [hx])]
    rfl
def wholeB : D → Bool
  | .int _ => true
  | _ => false
def tupB (n : Int) : D → Bool
  | .tup ds => (ds.length : Int) == n
  | _ => false
def lstB (n : Int) : D → Bool
  | .lst ds => (ds.length : Int) == n
  | _ => false
def fracB : D → Bool
  | .tup [.int a, .int b] => decide (1 ≤ b) && (((Nat.gcd a.natAbs b.natAbs : Nat) : Int) == 1)
  | _ => false
def amB : D → Bool
  | .tup [.int a, .int b] => fracB (.tup [.int a, .int b]) && decide (0 ≤ a)
  | _ => false
def aboveB : D → Bool
  | .tup [.int a, .int b] => fracB (.tup [.int a, .int b]) && decide (0 < a)
  | _ => false
section
variable {d : D} {S : Store} {n : Int}
theorem wholeD (h : dat d = true) : runF 1 d_is_whole [d] S = some (.ok (.bl (wholeB d)), S) := by
  refine v_F (S' := []) (by simp [dat_lo d h]) ?_ rfl
  cases d <;> first | (cases h; done) | simp [d_is_whole, wholeB]
theorem tupleD (h : dat d = true) : runF 2 d_is_tuple_of [d, .int n] S = some (.ok (.bl (tupB n d)), S) := by
  refine v_F (S' := []) (by simp [dat_lo d h]) ?_ rfl
  cases d <;> first | (cases h; done) | simp [d_is_tuple_of, tupB, fEq_D, eqD]
theorem listD (h : dat d = true) : runF 2 d_is_list_of [d, .int n] S = some (.ok (.bl (lstB n d)), S) := by
  refine v_F (S' := []) (by simp [dat_lo d h]) ?_ rfl
  cases d <;> first | (cases h; done) | simp [d_is_list_of, lstB, fEq_D, eqD]
@[simp] theorem v_gcd {a b : Int} : fGcd [.int a, .int b] S = some (.ok (.int ((Nat.gcd a.natAbs b.natAbs : Nat) : Int)), S) := id rfl
theorem fracD (h : dat d = true) : runF 1 d_is_fraction [d] S = some (.ok (.bl (fracB d)), S) := by
  refine v_F (S' := []) (by simp [dat_lo d h]) ?_ rfl
  cases d with
  | tup ds =>
    match ds, h with
    | [], _ => simp [d_is_fraction, fracB, fEq_D, eqD]
    | [x], _ => simp [d_is_fraction, fracB, fEq_D, eqD]
    | [x, y], h =>
      have h : (dat x && (dat y && true)) = true := h
      simp only [Bool.and_eq_true, and_true] at h
      have hx := fun S => wholeD (S := S) h.1
      have hy := fun S => wholeD (S := S) h.2
      cases x with
      | int a =>
        cases y with
        | int b =>
          by_cases hb : 1 ≤ b <;> simp [d_is_fraction, fracB, fEq_D, eqD, hx, hy, wholeB, hb]
        | _ => simp [d_is_fraction, fracB, fEq_D, eqD, hx, hy, wholeB]
      | _ => simp [d_is_fraction, fracB, fEq_D, eqD, hx, hy, wholeB]
    | x :: y :: z :: r, _ =>
      have : ¬ ((r.length : Int) + 1 + 1 + 1 = 2) := by omega
      simp [d_is_fraction, fracB, fEq_D, eqD, this]
  | _ => first | (cases h; done) | simp [d_is_fraction, fracB]
end
end K13
end
section
/-! steps, blocks, rows; holdings -/
namespace K13
open PySem PySem.Spec PyProof.Rows L2 L2.Hy He
section
variable {d : D} {S : Store} {n : Int}
theorem frac_form (h : fracB d = true) : ∃ a b : Int, d = .tup [.int a, .int b] := by
  unfold fracB at h
  split at h
  · exact ⟨_, _, rfl⟩
  · cases h
theorem am_not (h : fracB d = false) : amB d = false := by
  unfold amB
  split
  · rw [h]
    rfl
  · rfl
theorem above_not (h : fracB d = false) : aboveB d = false := by
  unfold aboveB
  split
  · rw [h]
    rfl
  · rfl
theorem amD (h : dat d = true) : runF 1 d_is_amount [d] S = some (.ok (.bl (amB d)), S) := by
  refine v_F (S' := []) (by simp [dat_lo d h]) ?_ rfl
  have hf := fun S => fracD (S := S) h
  cases e : fracB d with
  | false => simp [d_is_amount, hf, e, am_not e]
  | true =>
    obtain ⟨a, b, rfl⟩ := frac_form e
    simp [d_is_amount, hf, e, amB]
theorem aboveD (h : dat d = true) : runF 1 d_is_above_nothing [d] S = some (.ok (.bl (aboveB d)), S) := by
  refine v_F (S' := []) (by simp [dat_lo d h]) ?_ rfl
  have hf := fun S => fracD (S := S) h
  cases e : fracB d with
  | false => simp [d_is_above_nothing, hf, e, above_not e]
  | true =>
    obtain ⟨a, b, rfl⟩ := frac_form e
    simp [d_is_above_nothing, hf, e, aboveB]
end
/-- the tables of a mill: what is looked at -/
structure TabOk (T : D) (rooms : List (Option Int)) (rn : List Str) : Prop where
  lo : D.lo 0 T = true
  ex : ∃ fs : List (Str × D), (∀ S, objD S T = some (("Tables" : Str), fs)) ∧ List.lookup ("rooms" : Str) fs = some (D.lst (rooms.map roomD)) ∧ List.lookup ("recipe_names" : Str) fs = some (D.lst (rn.map D.str))
  st : ∀ a ∈ rn, PyData.strOk a = true
theorem oAr : oA_rooms "Tables" = true := by decide +kernel
theorem oAn : oA_recipe_names "Tables" = true := by decide +kernel
theorem blsD_map {α : Type} (f : α → Bool) : ∀ l : List α, blsD (l.map fun a => D.bl (f a)) = some (l.map f)
  | [] => rfl
  | a :: l => by
    rw [List.map_cons, blsD, blsD_map f l]
    rfl
theorem all_map {α : Type} (f : α → Bool) (l : List α) : (l.map f).all (fun b => b) = l.all f := by
  rw [List.all_map]
  rfl
def stepB (rn : List Str) : D → Bool
  | .tup [.str n, a] => decide (n ∈ rn) && aboveB a
  | _ => false
def blockB (rn : List Str) : D → Bool
  | .tup [.int t, .lst ss] => decide (1 ≤ t) && (decide (0 < ss.length) && ss.all (stepB rn))
  | _ => false
def rowB (rn : List Str) : D → Bool
  | .lst bs => bs.all (blockB rn)
  | _ => false
section
variable {T d : D} {rooms : List (Option Int)} {rn : List Str} {S : Store}
theorem stepD (hT : TabOk T rooms rn) (h : dat d = true) : runF 2 d_is_step [T, d] S = some (.ok (.bl (stepB rn d)), S) := by
  obtain ⟨fs, o1, o2, o3⟩ := hT.ex
  refine v_F (S' := []) (by simp [dat_lo d h, hT.lo]) ?_ rfl
  have ht := fun S => tupleD (S := S) (n := 2) h
  cases d with
  | tup ds =>
    match ds, h with
    | [], _ => simp [d_is_step, stepB, ht, tupB]
    | [x], _ => simp [d_is_step, stepB, ht, tupB]
    | [x, y], h =>
      have h : (dat x && (dat y && true)) = true := h
      simp only [Bool.and_eq_true, and_true] at h
      have hy := fun S => aboveD (S := S) h.2
      cases x with
      | str a =>
        have ha : PyData.strOk a = true := h.1
        by_cases hm : a ∈ rn <;> simp [d_is_step, stepB, ht, tupB, o1, o3, oAn, hy, fIn_strs ha hT.st, hm]
      | _ => first | (cases h.1; done) | simp [d_is_step, stepB, ht, tupB]
    | x :: y :: z :: r, _ =>
      have : ¬ ((r.length : Int) + 1 + 1 + 1 = 2) := by omega
      simp [d_is_step, stepB, ht, tupB, this]
  | _ => first | (cases h; done) | simp [d_is_step, stepB, ht, tupB]
theorem blockD (hT : TabOk T rooms rn) (h : dat d = true) (hs : ∀ t ss, d = .tup [t, .lst ss] → ss.length ≤ 16777216) : runF 3 d_is_block [T, d] S = some (.ok (.bl (blockB rn d)), S) := by
  refine v_F (S' := []) (by simp [dat_lo d h, hT.lo]) ?_ rfl
  have ht := fun S => tupleD (S := S) (n := 2) h
  cases d with
  | tup ds =>
    match ds, h with
    | [], _ => simp [d_is_block, blockB, ht, tupB]
    | [x], _ => simp [d_is_block, blockB, ht, tupB]
    | [x, y], h =>
      have h : (dat x && (dat y && true)) = true := h
      simp only [Bool.and_eq_true, and_true] at h
      have hx := fun S => wholeD (S := S) h.1
      cases x with
      | int a =>
        cases y with
        | lst ss =>
          have l := hs _ ss rfl
          have e := lc_map (f := fun d => d) (g := fun d => D.bl (stepB rn d)) (bd := bN 2) (de := ce_is_block_1) (ρ := [some T, some (.tup [.int a, .lst ss]), none]) (S := []) (xs := ss) fun d hd =>
            ⟨[some T, some (.tup [.int a, .lst ss]), some d], by simp, by simp [ce_is_block_1, stepD hT (dats_mem h.2 d hd)]⟩
          rw [List.map_id'] at e
          by_cases h1 : 1 ≤ a
          · cases ss with
            | nil => simp [d_is_block, blockB, ht, tupB, hx, wholeB, h1]
            | cons s0 sr =>
              have l0 : (0 : Int) < (sr.length : Int) + 1 := by omega
              simp [d_is_block, blockB, ht, tupB, hx, wholeB, h1, l0]
              rw [e]
              simp only [List.length_cons] at l
              have bm := blsD_map (stepB rn) (s0 :: sr)
              simp only [List.map_cons] at bm
              simp [l, bm, List.all_map]
              rfl
          · simp [d_is_block, blockB, ht, tupB, hx, wholeB, h1]
        | _ => first | (cases h.2; done) | simp [d_is_block, blockB, ht, tupB, hx, wholeB]
      | _ => first | (cases h.1; done) | simp [d_is_block, blockB, ht, tupB, hx, wholeB]
    | x :: y :: z :: r, _ =>
      have : ¬ ((r.length : Int) + 1 + 1 + 1 = 2) := by omega
      simp [d_is_block, blockB, ht, tupB, this]
  | _ => first | (cases h; done) | simp [d_is_block, blockB, ht, tupB]
theorem rowD (hT : TabOk T rooms rn) (h : dat d = true) (hl : ∀ bs, d = .lst bs → bs.length ≤ 16777216 ∧ ∀ b ∈ bs, ∀ t ss, b = .tup [t, .lst ss] → ss.length ≤ 16777216) : runF 3 d_is_row_of [T, d] S = some (.ok (.bl (rowB rn d)), S) := by
  refine v_F (S' := []) (by simp [dat_lo d h, hT.lo]) ?_ rfl
  cases d with
  | lst bs =>
    obtain ⟨l, hb⟩ := hl bs rfl
    have e := lc_map (f := fun d => d) (g := fun d => D.bl (blockB rn d)) (bd := bN 2) (de := ce_is_row_of_1) (ρ := [some T, some (.lst bs), none]) (S := []) (xs := bs) fun d hd =>
      ⟨[some T, some (.lst bs), some d], by simp, by simp [ce_is_row_of_1, blockD hT (dats_mem h d hd) (hb d hd)]⟩
    rw [List.map_id'] at e
    simp [d_is_row_of, rowB]
    rw [e]
    simp [l, blsD_map, List.all_map]
    rfl
  | _ => first | (cases h; done) | simp [d_is_row_of, rowB]
/-- an amount within a room -/
def fitB (d : D) : Option Int → Bool
  | none => true
  | some r => match d with
    | .tup [.int a, .int b] => !decide (r * b < a * 1)
    | _ => true
/-- no larger than what is multiplied here -/
def bndB : D → Bool
  | .tup [.int a, .int b] => decide (a.natAbs < 2 ^ 200) && decide (b.natAbs < 2 ^ 200)
  | _ => true
theorem fitsD {r : Option Int} (h : dat d = true) (hf : fracB d = true) (hb : bndB d = true) (hr : ∀ i, r = some i → i.natAbs < 2 ^ 200) : runF 2 d_fits_room [d, roomD r] S = some (.ok (.bl (fitB d r)), S) := by
  refine v_F (S' := []) (by simp [dat_lo d h]) ?_ rfl
  obtain ⟨a, b, rfl⟩ := frac_form hf
  cases r with
  | none => simp [d_fits_room, roomD, fitB]
  | some i =>
    have hb : (decide (a.natAbs < 2 ^ 200) && decide (b.natAbs < 2 ^ 200)) = true := hb
    rw [Bool.and_eq_true, decide_eq_true_eq, decide_eq_true_eq] at hb
    have m1 := mul_ok (hr i rfl) hb.2
    have m2 := mul_ok hb.1 (by decide : (1 : Int).natAbs < 2 ^ 200)
    have q : ∀ S, runF 2 d_is_less [.tup [.int i, .int 1], .tup [.int a, .int b]] S = some (.ok (.bl (decide (i * b < a * 1))), S) := fun S => by
      refine v_F (S' := []) (by simp) ?_ rfl
      simp [d_is_less, v_mul, v_mulC m1, v_mulC m2]
    simp [d_fits_room, roomD, fitB, q]
def holdB (rooms : List (Option Int)) : D → Bool
  | .lst vs => (vs.length == rooms.length) && (List.zip vs rooms).all fun p => amB p.1 && fitB p.1 p.2
  | _ => false
theorem zp_map : ∀ (vs : List D) (rooms : List (Option Int)), zpD vs (rooms.map roomD) = (List.zip vs rooms).map fun p => .tup [p.1, roomD p.2]
  | [], _ => by simp [zpD]
  | _ :: _, [] => by simp [zpD]
  | v :: vs, r :: rooms => by
    have := zp_map vs rooms
    unfold zpD at this ⊢
    simp [this]
theorem holdD (hT : TabOk T rooms rn) (h : dat d = true) (hr : ∀ i, some i ∈ rooms → i.natAbs < 2 ^ 200) (hl : rooms.length ≤ 1000) (hb : ∀ vs, d = .lst vs → ∀ v ∈ vs, bndB v = true) : runF 4 d_is_holdings [T, d] S = some (.ok (.bl (holdB rooms d)), S) := by
  obtain ⟨fs, o1, o2, o3⟩ := hT.ex
  refine v_F (S' := []) (by simp [dat_lo d h, hT.lo]) ?_ rfl
  have ht := fun S n => listD (S := S) (n := n) h
  cases d with
  | lst vs =>
    by_cases hv : vs.length = rooms.length
    · have l : (List.zip vs rooms).length ≤ 16777216 := by rw [List.length_zip]; omega
      have hv' : (vs.length : Int) = (rooms.length : Int) := by omega
      have e := lc_map (f := fun p : D × Option Int => .tup [p.1, roomD p.2]) (g := fun p => D.bl (amB p.1 && fitB p.1 p.2)) (bd := bTup 2 (bCons (bN 2) (bCons (bN 3) bNil))) (de := ce_is_holdings_1) (ρ := [some T, some (.lst vs), none, none]) (S := []) (xs := List.zip vs rooms) fun p hp => by
        have hm := List.of_mem_zip hp
        have hd := dats_mem h p.1 hm.1
        refine ⟨[some T, some (.lst vs), some p.1, some (roomD p.2)], by simp, ?_⟩
        have ha := fun S => amD (S := S) hd
        cases e : fracB p.1 with
        | false => simp [ce_is_holdings_1, ha, am_not e]
        | true =>
          have hf := fun S => fitsD (S := S) (r := p.2) hd e (hb vs rfl p.1 hm.1) fun i hi => hr i (by rw [← hi]; exact hm.2)
          cases e2 : amB p.1 <;> simp [ce_is_holdings_1, ha, hf, e2]
      simp [d_is_holdings, holdB, ht, lstB, hv, hv', o1, o2, oAr, itZ, zp_map]
      rw [e]
      have bm := blsD_map (fun p : D × Option Int => amB p.1 && fitB p.1 p.2) (List.zip vs rooms)
      have l2 : min vs.length rooms.length ≤ 16777216 := by omega
      simp [l2, bm, List.all_map]
      rfl
    · have hv' : ¬ (vs.length : Int) = (rooms.length : Int) := by omega
      simp [d_is_holdings, holdB, ht, lstB, hv, hv', o1, o2, oAr]
  | _ => first | (cases h; done) | simp [d_is_holdings, holdB, ht, lstB, o1, o2, oAr]
end
end K13
end
section
/-! the tables of a drawn mill -/
namespace K13
open PySem PySem.Spec PyProof.Rows L2 L2.Hy He
def ixn (w : Nat) (n : Str) : Nat := (ab w).idxOf n
def nmD (p : Nat × Int) : D := .tup [.int (p.1 : Nat), .int p.2]
@[simp] theorem lo_nm (p : Nat × Int) : D.lo 0 (nmD p) = true := by simp [nmD]
theorem ix_ok {w : Nat} (hw : w = 1 ∨ w = 2 ∨ w = 3) {n : Str} (h : n ∈ ab w) : ixn w n < w ∧ ∀ S, fIndex (.lst ((ab w).map D.str)) [.str n] S = some (.ok (.int (ixn w n : Nat)), S) := by
  rcases hw with rfl | rfl | rfl
  · have : n = "a" := by simpa [ab] using h
    subst this
    exact ⟨by decide +kernel, fun S => by kernel_rfl⟩
  · have : n = "a" ∨ n = "b" := by simpa [ab] using h
    rcases this with rfl | rfl
    · exact ⟨by decide +kernel, fun S => by kernel_rfl⟩
    · exact ⟨by decide +kernel, fun S => by kernel_rfl⟩
  · have : n = "a" ∨ n = "b" ∨ n = "c" := by simpa [ab] using h
    rcases this with rfl | rfl | rfl
    · exact ⟨by decide +kernel, fun S => by kernel_rfl⟩
    · exact ⟨by decide +kernel, fun S => by kernel_rfl⟩
    · exact ⟨by decide +kernel, fun S => by kernel_rfl⟩
def numL (w : Nat) (s : Sd) : List (Nat × Int) := s.map fun p => (ixn w p.1, p.2)
theorem numbered {w : Nat} (hw : w = 1 ∨ w = 2 ∨ w = 3) {s : Sd} (h : ∀ p ∈ s, p.1 ∈ ab w) (hl : s.length ≤ 1000) {S : Store} : runF 4 d_numbered [.lst ((ab w).map D.str), sdD s] S = some (.ok (.lst ((numL w s).map nmD)), S) := by
  refine v_F (S' := []) (by simp [los_map (fun _ => lo_str)]) ?_ (by simp [los_map lo_nm])
  have e := lc_map (f := prD) (g := fun p => nmD (ixn w p.1, p.2)) (bd := bTup 2 (bCons (bN 2) (bCons (bN 3) bNil))) (de := ce_numbered_1) (ρ := [some (.lst ((ab w).map D.str)), some (sdD s), none, none]) (S := []) (xs := s) fun p hp => by
    refine ⟨[some (.lst ((ab w).map D.str)), some (sdD s), some (.str p.1), some (.int p.2)], by simp [prD], ?_⟩
    have q := (ix_ok hw (h p hp)).2
    have q2 : dIndex (dV 0) (aCons (dV 2) aNil) [some (.lst ((ab w).map D.str)), some (sdD s), some (.str p.1), some (.int p.2)] [] = some (.ok (.int (ixn w p.1 : Nat)), []) := by
      unfold dIndex
      exact bind_ok rfl (bind_ok rfl (bind_ok (args1 rfl) (q _)))
    unfold ce_numbered_1
    rw [v_tup]
    exact bind_ok (args2 q2 rfl) (by simp [nmD])
  have l : s.length ≤ 16777216 := by omega
  have e2 : (numL w s).map nmD = s.map fun p => nmD (ixn w p.1, p.2) := by
    unfold numL
    rw [List.map_map]
    rfl
  rw [e2]
  show d_numbered [some (.lst ((ab w).map D.str)), some (sdD s), none, none] [] = _
  unfold d_numbered
  exact ret_d (lcA_d rfl e (by simpa using l))
theorem los_int (l : List Int) : D.los 0 (l.map D.int) = true := los_map (f := D.int) (fun _ => id rfl) l
/-- what so much does to a list of whole numbers -/
theorem net_step {f : Int → Int → Int} {A B C : Option D} {zs : List Int} {i : Nat} {k : Int} (h : i < zs.length) :
    sAugS f (dV 3) (dV 4) (dV 5) [A, B, C, some (.h 0), some (.int (i : Nat)), some (.int k)] [some (.cl (zs.map D.int))] = some (.nx [A, B, C, some (.h 0), some (.int (i : Nat)), some (.int k)], [some (.cl ((zs.set i (f zs[i] k)).map D.int))]) := by
  have a : ixN (zs.map D.int).length (i : Int) = some i := by
    unfold ixN
    simp [h]
  have b : atI (zs.map D.int) (i : Int) = some (.int zs[i]) := by
    unfold atI
    rw [a]
    simp [h]
  have c : fIxL (.h 0) (.int (i : Nat)) [some (.cl (zs.map D.int))] = some (.ok (.int zs[i]), [some (.cl (zs.map D.int))]) := by
    unfold fIxL
    simp [b]
  have d : fSet (.h 0) (.int (i : Nat)) (.int (f zs[i] k)) [some (.cl (zs.map D.int))] = some (.ok (), [some (.cl ((zs.set i (f zs[i] k)).map D.int))]) := by
    unfold fSet
    simp only [List.length_cons, List.getElem?_cons_zero]
    rw [a]
    simp [List.map_set]
  unfold sAugS
  have e : mbind (dV 3 [A, B, C, some (.h 0), some (.int (i : Nat)), some (.int k)]) (fun o => mbind (dV 4 [A, B, C, some (.h 0), some (.int (i : Nat)), some (.int k)]) fun i' => mbind (fIxL o i') fun x => mbind (dV 5 [A, B, C, some (.h 0), some (.int (i : Nat)), some (.int k)]) fun y => mbind (opI f x y) fun z => fSet o i' z) [some (.cl (zs.map D.int))] = some (.ok (), [some (.cl ((zs.set i (f zs[i] k)).map D.int))]) :=
    bind_ok (aa := .h 0) rfl (bind_ok (aa := .int (i : Nat)) rfl (bind_ok c (bind_ok (aa := .int k) rfl (bind_ok (aa := .int (f zs[i] k)) rfl d))))
  rw [v_lift, e]
  rfl
theorem net_loop {f : Int → Int → Int} {A B C : Option D} : ∀ (l : List (Nat × Int)) (zs : List Int) (o4 o5 : Option D), (∀ p ∈ l, p.1 < zs.length) →
    ∃ (zs' : List Int) (o4' o5' : Option D), zs'.length = zs.length ∧ loopX (bTup 2 (bCons (bN 4) (bCons (bN 5) bNil))) (sAugS f (dV 3) (dV 4) (dV 5)) (l.map nmD) [A, B, C, some (.h 0), o4, o5] [some (.cl (zs.map D.int))] = some (.nx [A, B, C, some (.h 0), o4', o5'], [some (.cl (zs'.map D.int))])
  | [], zs, o4, o5, _ => ⟨zs, o4, o5, rfl, by simp⟩
  | p :: l, zs, o4, o5, h => by
    have hp := h p (by simp)
    obtain ⟨zs', a, b, hl, e⟩ := net_loop (f := f) (A := A) (B := B) (C := C) l (zs.set p.1 (f zs[p.1] p.2)) (some (.int (p.1 : Nat))) (some (.int p.2)) fun q hq => by
      rw [List.length_set]
      exact h q (by simp [hq])
    refine ⟨zs', a, b, by rw [hl, List.length_set], ?_⟩
    rw [List.map_cons]
    exact (loop_nx (ρ1 := [A, B, C, some (.h 0), some (.int (p.1 : Nat)), some (.int p.2)]) (by simp [nmD]) (net_step hp)).trans e
theorem net {n : Nat} (hn : n ≤ 100) {tk gv : List (Nat × Int)} (ht : ∀ p ∈ tk, p.1 < n) (hg : ∀ p ∈ gv, p.1 < n) : ∃ zs : List Int, ∀ S, runF 6 d_net [.int (n : Nat), .lst (tk.map nmD), .lst (gv.map nmD)] S = some (.ok (.lst (zs.map D.int)), S) := by
  obtain ⟨z1, a1, b1, l1, e1⟩ := net_loop (f := fun i j => i + j) (A := some (.int (n : Nat))) (B := some (.lst (tk.map nmD))) (C := some (.lst (gv.map nmD))) gv (List.replicate n 0) none none (by simpa using hg)
  obtain ⟨z2, a2, b2, l2, e2⟩ := net_loop (f := fun i j => i - j) (A := some (.int (n : Nat))) (B := some (.lst (tk.map nmD))) (C := some (.lst (gv.map nmD))) tk z1 a1 b1 (by rw [l1]; simpa using ht)
  refine ⟨z2, fun S => v_Fe (by simp [los_map lo_nm]) ?_ (by simp [los_int])⟩
  show ∃ S', d_net [some (.int (n : Nat)), some (.lst (tk.map nmD)), some (.lst (gv.map nmD)), none, none, none] [] = _
  unfold d_net
  have r : d2 (fRepL true) (dLst false (aCons (dC (.int 0)) aNil)) (dV 0) [some (.int (n : Nat)), some (.lst (tk.map nmD)), some (.lst (gv.map nmD)), none, none, none] [] = some (.ok (.h 0), [some (.cl ((List.replicate n (0 : Int)).map D.int))]) := by
    rw [v_d2]
    refine bind_ok (aa := .lst [.int 0]) (S1 := []) rfl (bind_ok (aa := .int (n : Nat)) (S1 := []) rfl ?_)
    unfold fRepL
    have h1 : (0 : Int) ≤ (n : Int) ∧ (n : Int) ≤ 4294967296 := by omega
    have h2 : (List.replicate n [D.int 0]).flatten = (List.replicate n (0 : Int)).map D.int := by
      simp
    simp [h1, h2, allocL]
    omega
  have z : ((z2.map D.int) : List D).length ≤ 16777216 := by
    rw [List.length_map, l2, l1, List.length_replicate]
    omega
  refine ⟨[none], seq_nx (asg_n r) (seq_nx (ρ1 := [some (.int (n : Nat)), some (.lst (tk.map nmD)), some (.lst (gv.map nmD)), some (.h 0), a1, b1]) (S1 := [some (.cl (z1.map D.int))]) (forA_l rfl e1) (seq_nx (ρ1 := [some (.int (n : Nat)), some (.lst (tk.map nmD)), some (.lst (gv.map nmD)), some (.h 0), a2, b2]) (S1 := [some (.cl (z2.map D.int))]) (forA_l rfl e2) (ret_d ?_)))⟩
  rw [v_frz]
  exact bind_ok (aa := .h 0) rfl (frz_cl (n := 0) (S := [some (.cl (z2.map D.int))]) rfl (los_int z2))
theorem lc_cons {bd : Bd} {de : Den} {ρ ρ1 : Hy.Env} {d x : D} {ds xs : List D} {S S1 S2 : Store} (h : bd.go d ρ = some ρ1) (e : de ρ1 S = some (.ok x, S1)) (r : lcX bd tdYes de ρ ds S1 = some (.ok xs, S2)) : lcX bd tdYes de ρ (d :: ds) S = some (.ok (x :: xs), S2) := by
  rw [v_lcX1, h]
  refine bind_ok (aa := true) (S1 := S) rfl ?_
  rw [if_pos rfl]
  exact bind_ok (by rw [v_nox, e]) (bind_ok r rfl)
/-- recipes by their numbers -/
theorem nets {w : Nat} (hw : w = 1 ∨ w = 2 ∨ w = 3) {rooms : List (Option Int)} (hr : rooms.length = w) : ∀ (rs : List Rc), (∀ r ∈ rs, (∀ p ∈ r.2.1, p.1 ∈ ab w) ∧ ∀ p ∈ r.2.2, p.1 ∈ ab w) →
    ∃ ns : List (List Int), ns.length = rs.length ∧ ∀ (A B E F G : Option D) (S : Store), lcX (bTup 2 (bCons (bN 6) (bCons (bN 7) bNil))) tdYes ce_Tables_init_1 [A, B, some (.lst (rooms.map roomD)), E, F, G, none, none] (zpD (rs.map fun r => .lst ((numL w r.2.1).map nmD)) (rs.map fun r => .lst ((numL w r.2.2).map nmD))) S = some (.ok (ns.map fun z => .lst (z.map D.int)), S)
  | [], _ => ⟨[], rfl, fun _ _ _ _ _ S => rfl⟩
  | r :: rs, h => by
    obtain ⟨ns, el, e⟩ := nets hw hr rs fun x hx => h x (by simp [hx])
    have h0 := h r (by simp)
    have lt : ∀ s : Sd, (∀ p ∈ s, p.1 ∈ ab w) → ∀ q ∈ numL w s, q.1 < w := fun s hs q hq => by
      obtain ⟨p, hp, rfl⟩ := List.mem_map.mp hq
      exact (ix_ok hw (hs p hp)).1
    obtain ⟨z, ez⟩ := net (n := w) (by omega) (lt r.2.1 h0.1) (lt r.2.2 h0.2)
    refine ⟨z :: ns, by simp [el], fun A B E F G S => ?_⟩
    have ee := e A B E F G S
    unfold zpD at ee ⊢
    rw [List.map_cons, List.map_cons, List.zipWith_cons_cons]
    have c : ce_Tables_init_1 [A, B, some (.lst (rooms.map roomD)), E, F, G, some (.lst ((numL w r.2.1).map nmD)), some (.lst ((numL w r.2.2).map nmD))] S = some (.ok (.lst (z.map D.int)), S) := by
      have hr' : ((rooms.length : Nat) : Int) = (w : Nat) := by omega
      simp [ce_Tables_init_1, hr', ez]
    exact lc_cons (ρ1 := [A, B, some (.lst (rooms.map roomD)), E, F, G, some (.lst ((numL w r.2.1).map nmD)), some (.lst ((numL w r.2.2).map nmD))]) rfl c ee
def takesD (w : Nat) (rs : List Rc) : D := .lst (rs.map fun r => .lst ((numL w r.2.1).map nmD))
def givesD (w : Nat) (rs : List Rc) : D := .lst (rs.map fun r => .lst ((numL w r.2.2).map nmD))
def tabD (w : Nat) (ss : List Sf) (rs : List Rc) (ns : List (List Int)) : D := .obj "Tables" [("stuff_names", .lst ((ab w).map D.str)), ("rooms", .lst ((ss.map (·.2)).map roomD)), ("recipe_names", .lst ((rs.map (·.1)).map D.str)), ("takes", takesD w rs), ("gives", givesD w rs), ("nets", .lst (ns.map fun z => .lst (z.map D.int)))]
theorem los_rooms (l : List (Option Int)) : D.los 0 (l.map roomD) = true := los_map lo_room l
theorem los_strs (l : List Str) : D.los 0 (l.map D.str) = true := los_map (f := D.str) (fun _ => id rfl) l
theorem lo_takes {w : Nat} {rs : List Rc} : D.lo 0 (takesD w rs) = true := los_map (f := fun r : Rc => D.lst ((numL w r.2.1).map nmD)) (fun r => los_map lo_nm _) rs
theorem lo_gives {w : Nat} {rs : List Rc} : D.lo 0 (givesD w rs) = true := los_map (f := fun r : Rc => D.lst ((numL w r.2.2).map nmD)) (fun r => los_map lo_nm _) rs
theorem lo_nets {ns : List (List Int)} : D.los 0 (ns.map fun z => D.lst (z.map D.int)) = true := los_map (f := fun z : List Int => D.lst (z.map D.int)) (fun z => los_int z) ns
theorem oAs : oA_stuff_names "Tables" = true ∧ oA_rooms "Tables" = true ∧ oA_recipe_names "Tables" = true ∧ oA_takes "Tables" = true ∧ oA_gives "Tables" = true ∧ oA_nets "Tables" = true := by decide +kernel
theorem tabs_init {n : Nat} {S : Store} {a b c : D} {tk gv nt : List D} (ha : D.lo 0 a = true) (hb : D.lo 0 b = true) (hc : D.lo 0 c = true) (ht : D.los 0 tk = true) (hg : D.los 0 gv = true) (hnt : D.los 0 nt = true) (hn : S[n]? = some (some (.ci "Tables" []))) (hS : Clo S)
    (e : ∀ S, lcX (bTup 2 (bCons (bN 6) (bCons (bN 7) bNil))) tdYes ce_Tables_init_1 [some (.h n), some a, some b, some c, some (.lst tk), some (.lst gv), none, none] (zpD tk gv) S = some (.ok nt, S)) (l : nt.length ≤ 16777216) :
    runC 8 d_Tables_init [.h n, a, b, c, .lst tk, .lst gv] S = some (.ok .non, S.set n (some (.ci "Tables" [("stuff_names", a), ("rooms", b), ("recipe_names", c), ("takes", .lst tk), ("gives", .lst gv), ("nets", .lst nt)]))) := by
  have hlt : n < S.length := (List.getElem?_eq_some_iff.mp hn).1
  obtain ⟨o1, o2, o3, o4, o5, o6⟩ := oAs
  refine v_C ?_ (by simp) rfl (hS.set (by
    show D.lof S.length [("stuff_names", a), ("rooms", b), ("recipe_names", c), ("takes", .lst tk), ("gives", .lst gv), ("nets", .lst nt)] = true
    have m := fun d h => lo_mono (Nat.zero_le S.length) d h
    have ms := fun d h => los_mono (Nat.zero_le S.length) d h
    simp [D.lof, D.lo, m _ ha, m _ hb, m _ hc, ms _ ht, ms _ hg, ms _ hnt]))
  have gs : ∀ o, (S.set n o)[n]? = some o := fun o => by rw [List.getElem?_set_self hlt]
  simp [v_runB, d_Tables_init, hn, gs, o1, o2, o3, o4, o5, o6, putD, itZ]
  rw [e]
  simp [l, gs, o6, putD]
theorem args5 {a b c d e : Den} {ρ : Hy.Env} {S : Store} {x y z u v : D} (h1 : a ρ S = some (.ok x, S)) (h2 : b ρ S = some (.ok y, S)) (h3 : c ρ S = some (.ok z, S)) (h4 : d ρ S = some (.ok u, S)) (h5 : e ρ S = some (.ok v, S)) : aCons a (aCons b (aCons c (aCons d (aCons e aNil)))) ρ S = some (.ok [x, y, z, u, v], S) := by
  simp [h1, h2, h3, h4, h5]
theorem args3 {a b c : Den} {ρ : Hy.Env} {S : Store} {x y z : D} (h1 : a ρ S = some (.ok x, S)) (h2 : b ρ S = some (.ok y, S)) (h3 : c ρ S = some (.ok z, S)) : aCons a (aCons b (aCons c aNil)) ρ S = some (.ok [x, y, z], S) := by
  simp [h1, h2, h3]
section
variable {w m : Nat} {ss : List Sf} {rs : List Rc}
theorem Drawn.lenS (h : Drawn w m ss rs) (hw : w = 1 ∨ w = 2 ∨ w = 3) : ss.length = w := by
  have := congrArg List.length h.sn
  simp [ab] at this
  omega
theorem Drawn.lenR (h : Drawn w m ss rs) (hm : m = 1 ∨ m = 2 ∨ m = 3) : rs.length = m := by
  have := congrArg List.length h.rn
  simp [rst] at this
  omega
theorem Drawn.inS (h : Drawn w m ss rs) : ∀ r ∈ rs, (∀ p ∈ r.2.1, p.1 ∈ ab w) ∧ ∀ p ∈ r.2.2, p.1 ∈ ab w := fun r hr =>
  ⟨fun p hp => (h.pt r hr).1.sub.subset (List.mem_map_of_mem hp), fun p hp => (h.pt r hr).2.sub.subset (List.mem_map_of_mem hp)⟩
theorem pt_len {s : Sd} (p : Pt (ab w) s) : s.length ≤ 3 := by
  have := p.sub.length_le
  unfold ab at this
  simp at this
  omega
theorem tables (h : Drawn w m ss rs) (hw : w = 1 ∨ w = 2 ∨ w = 3) (hm : m = 1 ∨ m = 2 ∨ m = 3) : ∃ ns : List (List Int), ∀ S, runF 10 d_tables_of [millD ss rs] S = some (.ok (tabD w ss rs ns), S) := by
  have ok : MillOk ss rs := h.ok (by omega) (by omega)
  have lS := h.lenS hw
  have lR := h.lenR hm
  obtain ⟨ns, nl, e⟩ := nets hw (rooms := ss.map (·.2)) (by simpa using lS) rs h.inS
  refine ⟨ns, fun S => v_Fe (by simp) ?_ ?_⟩
  · show ∃ S', d_tables_of [some (millD ss rs), none, none, none, none, none, none, none, none, none] [] = _
    unfold d_tables_of
    have l1 : ss.length ≤ 1000 := by omega
    have l2 : rs.length ≤ 1000 := by omega
    have st : ∀ ρ S, ρ[0]? = some (some (millD ss rs)) → dMeth (fun z => z == "Mill") "stuffs" 1 (runF 1 d_Mill_stuffs) [] (dV 0) aNil ρ S = some (.ok (.lst (ss.map sfD)), S) := fun ρ S hρ => by simp [hρ, stuffs2 l1, lk3]
    have rt : ∀ ρ S, ρ[0]? = some (some (millD ss rs)) → dMeth (fun z => z == "Mill") "recipes" 1 (runF 1 d_Mill_recipes) [] (dV 0) aNil ρ S = some (.ok (.lst (rs.map rcD)), S) := fun ρ S hρ => by simp [hρ, recipes2 l2 ok.sides, lk4]
    have nt : ∀ ρ S, ρ[0]? = some (some (millD ss rs)) → dMeth (fun z => z == "Mill") "names" 1 (runF 3 d_Mill_names) [] (dV 0) aNil ρ S = some (.ok (.lst (rs.map fun r => D.str r.1)), S) := fun ρ S hρ => by simp [hρ, names2 l2, lk5]
    have n1 : ss.map (fun s => D.str s.1) = (ab w).map D.str := by rw [← h.sn, List.map_map]; rfl
    have e1 := lc_map (f := sfD) (g := fun s => D.str s.1) (bd := bTup 2 (bCons (bN 2) (bCons (bN 3) bNil))) (de := dV 2) (ρ := [some (millD ss rs), none, none, none, none, none, none, none, none, none]) (S := []) (xs := ss) fun s hs =>
      ⟨[some (millD ss rs), none, some (.str s.1), some (roomD s.2), none, none, none, none, none, none], by simp [sfD], by simp⟩
    rw [n1] at e1
    have e2 := lc_map (f := sfD) (g := fun s => roomD s.2) (bd := bTup 2 (bCons (bN 3) (bCons (bN 5) bNil))) (de := dV 5) (ρ := [some (millD ss rs), some (.lst ((ab w).map D.str)), none, none, none, none, none, none, none, none]) (S := []) (xs := ss) fun s hs =>
      ⟨[some (millD ss rs), some (.lst ((ab w).map D.str)), none, some (.str s.1), none, some (roomD s.2), none, none, none, none], by simp [sfD], by simp⟩
    have e3 := lc_map (f := rcD) (g := fun r => .lst ((numL w r.2.1).map nmD)) (bd := bTup 3 (bCons (bN 3) (bCons (bN 7) (bCons (bN 3) bNil)))) (de := ce_tables_of_1) (ρ := [some (millD ss rs), some (.lst ((ab w).map D.str)), none, none, some (.lst (ss.map fun s => roomD s.2)), none, none, none, none, none]) (S := []) (xs := rs) fun r hr =>
      ⟨[some (millD ss rs), some (.lst ((ab w).map D.str)), none, some (sdD r.2.2), some (.lst (ss.map fun s => roomD s.2)), none, none, some (sdD r.2.1), none, none], by simp [rcD], by
        have := pt_len (h.pt r hr).1
        simp [ce_tables_of_1, numbered hw (h.inS r hr).1 (by omega)]⟩
    have e4 := lc_map (f := rcD) (g := fun r => .lst ((numL w r.2.2).map nmD)) (bd := bTup 3 (bCons (bN 3) (bCons (bN 3) (bCons (bN 9) bNil)))) (de := ce_tables_of_2) (ρ := [some (millD ss rs), some (.lst ((ab w).map D.str)), none, none, some (.lst (ss.map fun s => roomD s.2)), none, some (takesD w rs), none, none, none]) (S := []) (xs := rs) fun r hr =>
      ⟨[some (millD ss rs), some (.lst ((ab w).map D.str)), none, some (sdD r.2.1), some (.lst (ss.map fun s => roomD s.2)), none, some (takesD w rs), none, none, some (sdD r.2.2)], by simp [rcD], by
        have := pt_len (h.pt r hr).2
        simp [ce_tables_of_2, numbered hw (h.inS r hr).2 (by omega)]⟩
    have ll : ∀ {α : Type} {l : List α}, l.length ≤ 1000 → l.length ≤ 16777216 := fun h => by omega
    have abl : ((ab w).map D.str).length ≤ 1000 := by unfold ab; simp; omega
    refine ⟨[none], seq_nx (exp_d (x := .non) (S1 := []) ?_) (seq_nx (asg_n (lcA_d (st _ _ rfl) e1 (ll abl))) (seq_nx (asg_n (lcA_d (st _ _ rfl) e2 (ll (by simpa using l1)))) (seq_nx (asg_n (lcA_d (rt _ _ rfl) e3 (ll (by simpa using l2)))) (seq_nx (asg_n (lcA_d (rt _ _ rfl) e4 (ll (by simpa using l2)))) (ret_d ?_)))))⟩
    · simp [needMill]
    · have r1 : ss.map (fun s => roomD s.2) = (ss.map (·.2)).map roomD := by rw [List.map_map]; rfl
      have r2 : rs.map (fun r => D.str r.1) = (rs.map (·.1)).map D.str := by rw [List.map_map]; rfl
      have q := tabs_init (n := 0) (S := [some (.ci "Tables" [])]) (a := .lst ((ab w).map D.str)) (b := .lst ((ss.map (·.2)).map roomD)) (c := .lst ((rs.map (·.1)).map D.str)) (los_strs _) (los_rooms _) (los_strs _) (lo_takes (w := w) (rs := rs)) (lo_gives (w := w) (rs := rs)) (lo_nets (ns := ns)) rfl rfl (fun S => e _ _ _ _ _ S) (by simp; omega)
      have lof : D.lof 0 [("stuff_names", .lst ((ab w).map D.str)), ("rooms", .lst ((ss.map (·.2)).map roomD)), ("recipe_names", .lst ((rs.map (·.1)).map D.str)), ("takes", takesD w rs), ("gives", givesD w rs), ("nets", .lst (ns.map fun z => .lst (z.map D.int)))] = true := by
        have a1 := los_strs (ab w)
        have a2 := los_rooms (ss.map (·.2))
        have a3 := los_strs (rs.map (·.1))
        simp only [D.lof, D.lo, a1, a2, a3, lo_takes, lo_gives, lo_nets, Bool.and_self]
      rw [v_frz]
      refine bind_ok (aa := .h 0) (S1 := [some (.ci "Tables" [("stuff_names", .lst ((ab w).map D.str)), ("rooms", .lst ((ss.map (·.2)).map roomD)), ("recipe_names", .lst ((rs.map (·.1)).map D.str)), ("takes", takesD w rs), ("gives", givesD w rs), ("nets", .lst (ns.map fun z => .lst (z.map D.int)))])]) ?_ (frz_ci (n := 0) rfl lof)
      rw [v_make]
      refine bind_ok (aa := [.lst ((ab w).map D.str), .lst ((ss.map (·.2)).map roomD), .lst ((rs.map (·.1)).map D.str), takesD w rs, givesD w rs]) (S1 := []) ?_ ?_
      · have nn := nt ((((([some (millD ss rs), none, none, none, none, none, none, none, none, none] : Hy.Env).set 1 (some (D.lst ((ab w).map D.str)))).set 4 (some (.lst (ss.map fun s => roomD s.2)))).set 6 (some (.lst (rs.map fun r => .lst ((numL w r.2.1).map nmD))))).set 8 (some (.lst (rs.map fun r => .lst ((numL w r.2.2).map nmD))))) [] rfl
        rw [r2] at nn
        exact args5 rfl (by rw [← r1]; rfl) nn rfl rfl
      · show (if 1 + 5 + 0 = 6 then _ else _) = _
        rw [if_pos rfl]
        exact bind_ok q rfl
  · show D.lof 0 [("stuff_names", .lst ((ab w).map D.str)), ("rooms", .lst ((ss.map (·.2)).map roomD)), ("recipe_names", .lst ((rs.map (·.1)).map D.str)), ("takes", takesD w rs), ("gives", givesD w rs), ("nets", .lst (ns.map fun z => .lst (z.map D.int)))] = true
    have a1 := los_strs (ab w)
    have a2 := los_rooms (ss.map (·.2))
    have a3 := los_strs (rs.map (·.1))
    simp only [D.lof, D.lo, a1, a2, a3, lo_takes, lo_gives, lo_nets, Bool.and_self]
end
theorem tab_ok {w m : Nat} {ss : List Sf} {rs : List Rc} {ns : List (List Int)} (h : Drawn w m ss rs) : TabOk (tabD w ss rs ns) (ss.map (·.2)) (rst m) := by
  refine ⟨?_, ⟨_, fun S => rfl, rfl, ?_⟩, fun a ha => (rst_nm a ha).ok⟩
  · have a1 := los_strs (ab w)
    have a2 := los_rooms (ss.map (·.2))
    have a3 := los_strs (rs.map (·.1))
    show D.lof 0 _ = true
    simp only [D.lof, D.lo, a1, a2, a3, lo_takes, lo_gives, lo_nets, Bool.and_self]
  · rw [← h.rn]
    rfl
end K13
end
section
/-! holdings drawn -/
namespace K13
open PySem PySem.Spec PyProof.Rows L2 L2.Hy He
def ams : List (Int × Int) := [(0, 1), (1, 1), (2, 1), (3, 1), (4, 1), (5, 1), (6, 1), (1, 2), (3, 2), (5, 2), (1, 3), (2, 3), (4, 3), (5, 3)]
def am (p : Int × Int) : D := .tup [.int p.1, .int p.2]
@[simp] theorem lo_am {n : Nat} (p : Int × Int) : D.lo n (am p) = true := by simp [am]
theorem los_am (l : List (Int × Int)) : D.los 0 (l.map am) = true := los_map lo_am l
def partB (p q : Int) : Option (Int × Int) := match d_law_part [some (.int p), some (.int q), none] [] with
  | some (.rt (.tup [.int a, .int b]), _) => if (ams.any fun x => x.1 == a && x.2 == b) = true then some (a, b) else none
  | _ => none
theorem part_all : ((List.range 7).all fun p => (List.range 3).all fun q => (partB (p : Nat) ((q : Nat) + 1)).isSome) = true := by kernel_rfl
theorem part_ok {p q : Nat} (hp : p < 7) (hq : q < 3) : ∃ a, a ∈ ams ∧ ∀ S, runF 3 d_law_part [.int (p : Nat), .int ((q : Nat) + 1)] S = some (.ok (am a), S) := by
  have h := List.all_eq_true.mp (List.all_eq_true.mp part_all p (by simpa using hp)) q (by simpa using hq)
  obtain ⟨a, ha⟩ := Option.isSome_iff_exists.mp h
  unfold partB at ha
  split at ha
  · rename_i x y S' e
    split at ha
    · rename_i hm
      cases ha
      obtain ⟨z, hz, h2⟩ := List.any_eq_true.mp hm
      rw [Bool.and_eq_true, beq_iff_eq, beq_iff_eq] at h2
      refine ⟨(x, y), ?_, fun S => v_F (S' := S') rfl e rfl⟩
      rw [← h2.1, ← h2.2]
      exact hz
    · cases ha
  · cases ha
theorem four {S : Store} {r : Int} (h0 : 0 ≤ r) (h1 : r < 4) : ∃ q : Nat, q < 3 ∧ fIx (.lst [.int 1, .int 2, .int 2, .int 3]) (.int r) S = some (.ok (.int ((q : Nat) + 1)), S) := by
  have : r = 0 ∨ r = 1 ∨ r = 2 ∨ r = 3 := by omega
  rcases this with rfl | rfl | rfl | rfl
  · exact ⟨0, by decide, rfl⟩
  · exact ⟨1, by decide, rfl⟩
  · exact ⟨1, by decide, rfl⟩
  · exact ⟨2, by decide, rfl⟩
theorem amount {S : Store} {n : Nat} {k : Int} (g : Gn S n k) (hc : Clo S) (hk : k < 1099511627000) : ∃ (a : Int × Int) (S' : Store), a ∈ ams ∧ runC 2 d_law_amount_drawn [.h n, .int 3] S = some (.ok (am a), S') ∧ Gs S S' n (k + 2) := by
  obtain ⟨r1, S1, a1, b1, e1, g1⟩ := rnd g hc (by omega) (m := 7) (by decide) (by decide)
  obtain ⟨r2, S2, a2, b2, e2, g2⟩ := rnd g1.gn g1.clo (by omega) (m := 4) (by decide) (by decide)
  obtain ⟨q, hq, e3⟩ := four (S := S2) a2 b2
  obtain ⟨p, hp, rfl⟩ : ∃ p : Nat, p < 7 ∧ r1 = (p : Int) := ⟨r1.toNat, by omega, by omega⟩
  obtain ⟨a, ha, e4⟩ := part_ok hp hq
  have gg : Gs S S2 n (k + 2) := by
    have := g1.trans g2
    rwa [show k + 1 + 1 = k + 2 by omega] at this
  refine ⟨a, S2, ha, v_C (runB_rt ?_) gg.len (lo_am a) gg.clo, gg⟩
  show d_law_amount_drawn [some (.h n), some (.int 3)] S = _
  unfold d_law_amount_drawn
  have m : dAdd (dMul (dC (.int 2)) (dV 1)) (dC (.int 1)) [some (.h n), some (.int 3)] S = some (.ok (.int 7), S) := by
    rw [Hy.v_add]
    refine bind_ok (aa := .int 6) ?_ (bind_ok (aa := .int 1) rfl rfl)
    rw [v_mul]
    exact bind_ok (aa := .int 2) rfl (bind_ok (aa := .int 3) rfl (v_mulC (by decide)))
  refine ret_d (call2 (S1 := S1) (S2 := S2) (x := .int (p : Nat)) (y := .int ((q : Nat) + 1)) ?_ ?_ (e4 S2))
  · exact call2 (S1 := S) (S2 := S) (x := .h n) (y := .int 7) rfl m e1
  · rw [v_d2]
    refine bind_ok (aa := .lst [.int 1, .int 2, .int 2, .int 3]) (S1 := S1) (by simp) (bind_ok (aa := .int r2) (S1 := S2) (call2 (S1 := S1) (S2 := S1) (x := .h n) (y := .int 4) rfl rfl e2) e3)
theorem amountT {S T : Store} {n : Nat} {k : Int} (g : Gn S n k) (hc : Clo S) (hT : Clo (S ++ T)) (hk : k < 1099511627000) : ∃ (a : Int × Int) (S' : Store), a ∈ ams ∧ runC 2 d_law_amount_drawn [.h n, .int 3] (S ++ T) = some (.ok (am a), S' ++ T) ∧ Gs S S' n (k + 2) := by
  obtain ⟨a, S2, ha, e, gs⟩ := amount (g.app T) hT hk
  obtain ⟨S', rfl, g2⟩ := gs.clo1 g.lt hc
  exact ⟨a, S', ha, e, g2⟩
theorem ams_small : ams.all (fun a => decide (a.1.natAbs < 2 ^ 200) && decide (a.2.natAbs < 2 ^ 200)) = true := by decide +kernel
theorem am_small {a : Int × Int} (h : a ∈ ams) : a.1.natAbs < 2 ^ 200 ∧ a.2.natAbs < 2 ^ 200 := by
  have := List.all_eq_true.mp ams_small a h
  rw [Bool.and_eq_true, decide_eq_true_eq, decide_eq_true_eq] at this
  exact this
theorem lessD {a : Int × Int} (h : a ∈ ams) {i : Int} (hi : i.natAbs < 2 ^ 200) {S : Store} : runF 2 d_law_less [.tup [.int i, .int 1], am a] S = some (.ok (.bl (decide (i * a.2 < a.1 * 1))), S) := by
  obtain ⟨h1, h2⟩ := am_small h
  have m1 := mul_ok hi h2
  have m2 := mul_ok h1 (by decide : (1 : Int).natAbs < 2 ^ 200)
  refine v_F (S' := []) (by simp) ?_ rfl
  simp [d_law_less, am, v_mul, v_mulC m1, v_mulC m2]
def clamp (r : Option Int) (a : Int × Int) : Int × Int := match r with
  | none => a
  | some i => if i * a.2 < a.1 * 1 then (i, 1) else a
theorem room_in {i : Int} (h : 0 ≤ i ∧ i ≤ 3) : (i, (1 : Int)) ∈ ams := by
  have : i = 0 ∨ i = 1 ∨ i = 2 ∨ i = 3 := by omega
  rcases this with rfl | rfl | rfl | rfl <;> simp [ams]
theorem clamp_in {r : Option Int} {a : Int × Int} (hr : RmOk r) (ha : a ∈ ams) : clamp r a ∈ ams := by
  unfold clamp
  cases r with
  | none => exact ha
  | some i =>
    dsimp only
    split
    · exact room_in (hr i rfl)
    · exact ha
theorem clamp_fit {r : Option Int} {a : Int × Int} : fitB (am (clamp r a)) r = true := by
  unfold clamp
  cases r with
  | none => rfl
  | some i =>
    dsimp only
    split
    · simp [fitB, am]
    · rename_i h
      simp [fitB, am]
      omega
def one (r : Option Int) : Int × Int := match r with
  | none => (1, 1)
  | some i => (i, 1)
theorem one_in {r : Option Int} (hr : RmOk r) : one r ∈ ams := by
  cases r with
  | none => simp [one, ams]
  | some i => exact room_in (hr i rfl)
theorem held_step {n : Nat} {X : D} {s : Sf} (hr : RmOk s.2) {S : Store} {k : Int} {acc : List (Int × Int)} {o5 : Option D} (g : Gn S n k) (hc : Clo S) (hk : k < 1099511627000) (hl : acc.length < 1000) :
    ∃ (h : Int × Int) (S' : Store), h ∈ ams ∧ fitB (am h) s.2 = true ∧ lb_law_held_drawn_1 [some (.h n), some X, some (.h S.length), some (.str s.1), some (roomD s.2), o5] (S ++ [some (.cl (acc.map am))]) = some (.nx [some (.h n), some X, some (.h S.length), some (.str s.1), some (roomD s.2), some (am h)], S' ++ [some (.cl ((acc ++ [h]).map am))]) ∧ Gs S S' n (k + 3) := by
  have hT : Clo (S ++ [some (.cl (acc.map am))]) := hc.app (los_mono (Nat.zero_le _) _ (los_am acc))
  obtain ⟨a, S1, ha, e1, g1⟩ := amountT g hc hT hk
  obtain ⟨c, S2, c0, c1, e2, g2⟩ := rndT (m := 3) g1.gn g1.clo (clo_app hT g1.clo g1.len) (by omega) (by decide) (by decide)
  have gg : Gs S S2 n (k + 3) := by
    have := g1.trans g2
    rwa [show k + 2 + 1 = k + 3 by omega] at this
  have gl : S2.length = S.length := gg.len
  have look : ∀ o, (S2 ++ [o])[S.length]? = some o := fun o => by rw [← gl]; simp
  -- the amount picked
  have pick : ∃ b, b ∈ ams ∧ ∀ T, fIx (.lst [am (0, 1), am a, am (one s.2)]) (.int c) T = some (.ok (am b), T) := by
    have : c = 0 ∨ c = 1 ∨ c = 2 := by omega
    rcases this with rfl | rfl | rfl
    · exact ⟨(0, 1), by simp [ams], fun T => by simp⟩
    · exact ⟨a, ha, fun T => by simp⟩
    · exact ⟨one s.2, one_in hr, fun T => by simp⟩
  obtain ⟨b, hb, e3⟩ := pick
  refine ⟨clamp s.2 b, S2, clamp_in hr hb, clamp_fit, ?_, gg⟩
  have one_d : dTup (aCons (dIf (dBool (d2 (fIsN false) (dV 4) (dC .non))) (dC (.int 1)) (dV 4)) (aCons (dC (.int 1)) aNil)) [some (.h n), some X, some (.h S.length), some (.str s.1), some (roomD s.2), o5] (S1 ++ [some (.cl (acc.map am))]) = some (.ok (am (one s.2)), S1 ++ [some (.cl (acc.map am))]) := by
    obtain ⟨nm, r⟩ := s
    cases r <;> simp [roomD, one, am]
  unfold lb_law_held_drawn_1
  refine seq_nx (ρ1 := [some (.h n), some X, some (.h S.length), some (.str s.1), some (roomD s.2), some (am b)]) (S1 := S2 ++ [some (.cl (acc.map am))]) (asg_n (i := 5) ?_) (seq_nx (ρ1 := [some (.h n), some X, some (.h S.length), some (.str s.1), some (roomD s.2), some (am (clamp s.2 b))]) (S1 := S2 ++ [some (.cl (acc.map am))]) ?_ ?_)
  · rw [v_d2]
    refine bind_ok (aa := .lst [am (0, 1), am a, am (one s.2)]) (S1 := S1 ++ [some (.cl (acc.map am))]) ?_ (bind_ok (aa := .int c) (S1 := S2 ++ [some (.cl (acc.map am))]) (call2 (x := .h n) (y := .int 3) rfl rfl e2) (e3 _))
    rw [v_lst]
    refine bind_ok (aa := [am (0, 1), am a, am (one s.2)]) (S1 := S1 ++ [some (.cl (acc.map am))]) ?_ (by simp)
    rw [v_aCons]
    refine bind_ok (aa := am (0, 1)) (S1 := S ++ [some (.cl (acc.map am))]) (by simp [am]) ?_
    rw [v_bind, args2 (call2 (x := .h n) (y := .int 3) rfl rfl e1) one_d]
    rfl
  · obtain ⟨nm, r⟩ := s
    cases r with
    | none =>
      refine if_f (S1 := S2 ++ [some (.cl (acc.map am))]) ?_ rfl
      simp [roomD]
    | some i =>
      have hi : i.natAbs < 2 ^ 200 := by
        have := hr i rfl
        omega
      have le := fun T => lessD (S := T) hb hi
      by_cases hlt : i * b.2 < b.1 * 1
      · refine if_t (S1 := S2 ++ [some (.cl (acc.map am))]) ?_ ?_
        · simp [roomD, le]
          simpa using hlt
        · have : clamp (some i) b = (i, 1) := by simp only [clamp, if_pos hlt]
          dsimp only
          rw [this]
          simp [roomD, am]
      · refine if_f (S1 := S2 ++ [some (.cl (acc.map am))]) ?_ ?_
        · simp [roomD, le]
          simpa using hlt
        · have : clamp (some i) b = b := by simp only [clamp, if_neg hlt]
          dsimp only
          rw [this]
          rfl
  · have l3 : acc.length < 16777216 := by omega
    simp [look, l3, ← gl]
/-- holdings that fit the rooms -/
structure Held (rooms : List (Option Int)) (hs : List (Int × Int)) : Prop where
  len : hs.length = rooms.length
  it : ∀ p ∈ List.zip hs rooms, p.1 ∈ ams ∧ fitB (am p.1) p.2 = true
theorem zip_snoc {α β : Type} : ∀ {as : List α} {bs : List β} {a : α} {b : β}, as.length = bs.length → List.zip (as ++ [a]) (bs ++ [b]) = List.zip as bs ++ [(a, b)]
  | [], [], _, _, _ => rfl
  | _ :: as, _ :: bs, a, b, h => by
    simp only [List.length_cons, Nat.add_right_cancel_iff] at h
    simp [zip_snoc h]
theorem Held.snoc {rooms : List (Option Int)} {hs : List (Int × Int)} (h : Held rooms hs) {a : Int × Int} {r : Option Int} (ha : a ∈ ams) (hf : fitB (am a) r = true) : Held (rooms ++ [r]) (hs ++ [a]) := by
  refine ⟨by simp [h.len], fun p hp => ?_⟩
  rw [zip_snoc h.len] at hp
  rcases List.mem_append.mp hp with z | z
  · exact h.it p z
  · rw [List.mem_singleton] at z
    subst z
    exact ⟨ha, hf⟩
theorem held_loop {n : Nat} {X : D} : ∀ (rest : List Sf) (rooms : List (Option Int)) (acc : List (Int × Int)) (S : Store) (k : Int) (o3 o4 o5 : Option D), (∀ s ∈ rest, RmOk s.2) → Gn S n k → Clo S → k + 3 * rest.length < 1099511627000 → acc.length + rest.length < 1000 → Held rooms acc →
    ∃ (S' : Store) (hs : List (Int × Int)) (ρ : Hy.Env), loopX (bTup 2 (bCons (bN 3) (bCons (bN 4) bNil))) lb_law_held_drawn_1 (rest.map sfD) [some (.h n), some X, some (.h S.length), o3, o4, o5] (S ++ [some (.cl (acc.map am))]) = some (.nx ρ, S' ++ [some (.cl (hs.map am))]) ∧ ρ[2]? = some (some (.h S.length)) ∧ Gs S S' n (k + 3 * rest.length) ∧ Held (rooms ++ rest.map (·.2)) hs
  | [], rooms, acc, S, k, o3, o4, o5, _, g, hc, hk, hl, hp => ⟨S, acc, _, by simp; rfl, rfl, by simpa using Gs.refl g hc, by simpa using hp⟩
  | s :: rest, rooms, acc, S, k, o3, o4, o5, hr, g, hc, hk, hl, hp => by
    simp only [List.length_cons] at hk hl
    obtain ⟨h, S1, ha, hf, e1, g1⟩ := held_step (n := n) (X := X) (s := s) (hr s (by simp)) (acc := acc) (o5 := o5) g hc (by omega) (by omega)
    obtain ⟨S2, hs, ρ, e2, r2, g2, h2⟩ := held_loop (X := X) rest (rooms ++ [s.2]) (acc ++ [h]) S1 (k + 3) (some (.str s.1)) (some (roomD s.2)) (some (am h)) (fun x hx => hr x (by simp [hx])) g1.gn g1.clo (by omega) (by simp; omega) (hp.snoc ha hf)
    rw [g1.len] at e2 r2
    refine ⟨S2, hs, ρ, ?_, r2, ?_, by simpa using h2⟩
    · rw [List.map_cons]
      exact (loop_nx (ρ1 := [some (.h n), some X, some (.h S.length), some (.str s.1), some (roomD s.2), o5]) (by simp [sfD]) e1).trans e2
    · have := g1.trans g2
      rw [List.length_cons, show k + 3 * ((rest.length + 1 : Nat) : Int) = k + 3 + 3 * rest.length by omega]
      exact this
theorem heldDrawn {n : Nat} {ss : List Sf} (hr : ∀ s ∈ ss, RmOk s.2) (hl : ss.length ≤ 3) {S : Store} {k : Int} (g : Gn S n k) (hc : Clo S) (hk : k < 1099511600000) :
    ∃ (S' : Store) (hs : List (Int × Int)), runC 6 d_law_held_drawn [.h n, .lst (ss.map sfD)] S = some (.ok (.lst (hs.map am)), S') ∧ Gs S S' n (k + 9) ∧ Held (ss.map (·.2)) hs := by
  obtain ⟨S', hs, ρ, e, r, gs, hp⟩ := held_loop (n := n) (X := .lst (ss.map sfD)) ss [] [] S k none none none hr g hc (by omega) (by simp; omega) ⟨rfl, by simp⟩
  have g9 : Gs S S' n (k + 9) := ⟨gs.ex, gs.clo, gs.gn.le (by omega)⟩
  refine ⟨S', hs, v_C2 (T := [none]) (runB_rt (S1 := S' ++ [none]) ?_) gs.len (lo_mono (Nat.zero_le _) _ (los_am hs)) gs.clo, g9, by simpa using hp⟩
  show d_law_held_drawn [some (.h n), some (.lst (ss.map sfD)), none, none, none, none] S = _
  unfold d_law_held_drawn
  refine seq_nx (ρ1 := [some (.h n), some (.lst (ss.map sfD)), some (.h S.length), none, none, none]) (S1 := S ++ [some (.cl [])]) (asg_n (i := 2) (by simp)) (seq_nx (forA_l (ds := ss.map sfD) (S1 := S ++ [some (.cl [])]) rfl e) (ret_d ?_))
  have hS : (S' ++ [some (.cl (hs.map am))])[S.length]? = some (some (.cl (hs.map am))) := by rw [← gs.len]; simp
  have hf := frz_cl hS (los_am hs)
  rw [v_frz]
  refine bind_ok (aa := .h S.length) (S1 := S' ++ [some (.cl (hs.map am))]) (by simp [r]) ?_
  rw [hf, ← gs.len]
  simp
end K13
end
section
/-! what the doors raise -/
namespace K13
open PySem PySem.Spec PyProof.Rows L2 L2.Hy He
theorem kq_n0 : (["NoneType", "bool", "int", "str", "tuple", "list", "dict"] : List String).all (fun T => match kq (.b T) (.c "Mill") with | some false => true | _ => false) = true := by decide +kernel
theorem ty_dat {d : D} (h : dat d = true) : ∃ T, tgD [] oc xc d = some (.b T) ∧ (∀ S, tgD S oc xc d = some (.b T)) ∧ kq (.b T) (.c "Mill") = some false := by
  have k : ∀ T ∈ (["NoneType", "bool", "int", "str", "tuple", "list", "dict"] : List String), kq (.b T) (.c "Mill") = some false := fun T hT => by
    have := List.all_eq_true.mp kq_n0 T hT
    split at this
    · assumption
    · cases this
  cases d <;> first | (cases h; done) | exact ⟨_, rfl, fun _ => rfl, k _ (by simp)⟩
section
variable {x y z v M T : D} {rooms : List (Option Int)} {rn : List Str} {S : Store} {C : Str}
theorem needX (h : dat x = true) : runF 1 d_need_mill [x] S = some (.ex "InvalidMill" "value" x, S) := by
  obtain ⟨T, t0, t1, k0⟩ := ty_dat h
  refine v_Fxe (by simp [dat_lo x h]) ⟨[some x], [], ?_⟩ (dat_lo x h)
  show d_need_mill [some x] [] = _
  unfold d_need_mill
  refine if_t (S1 := []) ?_ ?_
  · simp [t0, k0]
  · simp
theorem tablesX (h : dat x = true) : runF 10 d_tables_of [x] S = some (.ex "InvalidMill" "value" x, S) := by
  refine v_Fxe (by simp [dat_lo x h]) ⟨[some x, none, none, none, none, none, none, none, none, none], [], ?_⟩ (dat_lo x h)
  show d_tables_of [some x, none, none, none, none, none, none, none, none, none] [] = _
  unfold d_tables_of
  refine seq_xc ?_
  simp [needX h]
theorem turnedX (h : dat x = true) : runF 4 d_turned [x] S = some (.ex "InvalidMill" "value" x, S) := by
  refine v_Fxe (by simp [dat_lo x h]) ⟨[some x, none, none, none], [], ?_⟩ (dat_lo x h)
  show d_turned [some x, none, none, none] [] = _
  unfold d_turned
  refine seq_xc ?_
  simp [needX h]
/-- what a mill, holdings and a row lead to, where something does not fit -/
structure Bad (x y z : D) (C : Str) (v : D) : Prop where
  lx : D.lo 0 x = true
  ly : D.lo 0 y = true
  lz : D.lo 0 z = true
  lv : D.lo 0 v = true
  trip : ∀ S, runF 5 d_need_trip [x, y, z] S = some (.ex C "value" v, S)
theorem led_x (b : Bad x y z C v) : runF 3 d_led [x, y, z] S = some (.ex C "value" v, S) := by
  refine v_Fxe (by simp [b.lx, b.ly, b.lz]) ⟨[some x, some y, some z], [], ?_⟩ b.lv
  show d_led [some x, some y, some z] [] = _
  simp [d_led, b.trip]
theorem narrows_x (b : Bad x y z C v) : runF 3 d_narrows [x, y, z] S = some (.ex C "value" v, S) := by
  refine v_Fxe (by simp [b.lx, b.ly, b.lz]) ⟨[some x, some y, some z], [], ?_⟩ b.lv
  show d_narrows [some x, some y, some z] [] = _
  simp [d_narrows, b.trip]
/-- no mill -/
theorem trip1 (h : dat x = true) (hy : D.lo 0 y = true) (hz : D.lo 0 z = true) : Bad x y z "InvalidMill" x := by
  refine ⟨dat_lo x h, hy, hz, dat_lo x h, fun S => v_Fxe (by simp [dat_lo x h, hy, hz]) ⟨[some x, some y, some z, none, none], [], ?_⟩ (dat_lo x h)⟩
  show d_need_trip [some x, some y, some z, none, none] [] = _
  unfold d_need_trip
  refine seq_xc ?_
  simp [tablesX h]
theorem is_row1 (h : dat x = true) (hy : D.lo 0 y = true) (hz : D.lo 0 z = true) : runF 4 d_is_row [x, y, z] S = some (.ex "InvalidMill" "value" x, S) := by
  refine v_Fxe (by simp [dat_lo x h, hy, hz]) ⟨[some x, some y, some z, none], [], ?_⟩ (dat_lo x h)
  show d_is_row [some x, some y, some z, none] [] = _
  unfold d_is_row
  refine seq_xc ?_
  simp [tablesX h]
theorem done1 (h : dat x = true) (hz : D.lo 0 z = true) : runF 3 d_done [x, z] S = some (.ex "InvalidMill" "value" x, S) := by
  refine v_Fxe (by simp [dat_lo x h, hz]) ⟨[some x, some z, none], [], ?_⟩ (dat_lo x h)
  show d_done [some x, some z, none] [] = _
  unfold d_done
  refine seq_xc ?_
  simp [tablesX h]
/-- no holdings -/
theorem need2 (hT : TabOk T rooms rn) (hy : D.lo 0 y = true) (h : ∀ S, runF 4 d_is_holdings [T, y] S = some (.ok (.bl false), S)) : runF 2 d_need_holdings [T, y] S = some (.ex "InvalidHoldings" "value" y, S) := by
  refine v_Fxe (by simp [hT.lo, hy]) ⟨[some T, some y], [], ?_⟩ hy
  show d_need_holdings [some T, some y] [] = _
  unfold d_need_holdings
  refine if_t (S1 := []) ?_ ?_
  · simp [h]
  · simp
theorem need2' (hT : TabOk T rooms rn) (hy : D.lo 0 y = true) (h : ∀ S, runF 4 d_is_holdings [T, y] S = some (.ok (.bl true), S)) : runF 2 d_need_holdings [T, y] S = some (.ok .non, S) := by
  refine v_F0e (by simp [hT.lo, hy]) ⟨[some T, some y], [], ?_⟩
  show d_need_holdings [some T, some y] [] = _
  unfold d_need_holdings
  refine if_f (S1 := []) ?_ rfl
  simp [h]
theorem trip2 (hM : D.lo 0 M = true) (ht : ∀ S, runF 10 d_tables_of [M] S = some (.ok T, S)) (hT : TabOk T rooms rn) (hy : D.lo 0 y = true) (hz : D.lo 0 z = true) (h : ∀ S, runF 4 d_is_holdings [T, y] S = some (.ok (.bl false), S)) : Bad M y z "InvalidHoldings" y := by
  refine ⟨hM, hy, hz, hy, fun S => v_Fxe (by simp [hM, hy, hz]) ⟨[some M, some y, some z, some T, none], [], ?_⟩ hy⟩
  show d_need_trip [some M, some y, some z, none, none] [] = _
  unfold d_need_trip
  refine seq_nx (ρ1 := [some M, some y, some z, some T, none]) (S1 := []) (asg_n (i := 3) (x := T) ?_) (seq_xc ?_)
  · simp [ht]
  · simp [need2 hT hy h]
theorem is_row2 (hM : D.lo 0 M = true) (ht : ∀ S, runF 10 d_tables_of [M] S = some (.ok T, S)) (hT : TabOk T rooms rn) (hy : D.lo 0 y = true) (hz : D.lo 0 z = true) (h : ∀ S, runF 4 d_is_holdings [T, y] S = some (.ok (.bl false), S)) : runF 4 d_is_row [M, y, z] S = some (.ex "InvalidHoldings" "value" y, S) := by
  refine v_Fxe (by simp [hM, hy, hz]) ⟨[some M, some y, some z, some T], [], ?_⟩ hy
  show d_is_row [some M, some y, some z, none] [] = _
  unfold d_is_row
  refine seq_nx (ρ1 := [some M, some y, some z, some T]) (S1 := []) (asg_n (i := 3) (x := T) ?_) (seq_xc ?_)
  · simp [ht]
  · simp [need2 hT hy h]
/-- no row -/
theorem trip3 (hM : D.lo 0 M = true) (ht : ∀ S, runF 10 d_tables_of [M] S = some (.ok T, S)) (hT : TabOk T rooms rn) (hy : D.lo 0 y = true) (hz : D.lo 0 z = true) (h : ∀ S, runF 4 d_is_holdings [T, y] S = some (.ok (.bl true), S)) (hr : ∀ S, runF 3 d_is_row_of [T, z] S = some (.ok (.bl false), S)) : Bad M y z "InvalidRow" z := by
  refine ⟨hM, hy, hz, hz, fun S => v_Fxe (by simp [hM, hy, hz]) ⟨[some M, some y, some z, some T, none], [], ?_⟩ hz⟩
  show d_need_trip [some M, some y, some z, none, none] [] = _
  unfold d_need_trip
  refine seq_nx (ρ1 := [some M, some y, some z, some T, none]) (S1 := []) (asg_n (i := 3) (x := T) ?_) (seq_nx (exp_d (x := .non) (S1 := []) ?_) (seq_xc (if_t (S1 := []) ?_ ?_)))
  · simp [ht]
  · simp [need2' hT hy h]
  · simp [hr]
  · simp
theorem is_row3 (hM : D.lo 0 M = true) (ht : ∀ S, runF 10 d_tables_of [M] S = some (.ok T, S)) (hT : TabOk T rooms rn) (hy : D.lo 0 y = true) (hz : D.lo 0 z = true) (h : ∀ S, runF 4 d_is_holdings [T, y] S = some (.ok (.bl true), S)) (hr : ∀ S, runF 3 d_is_row_of [T, z] S = some (.ok (.bl false), S)) : runF 4 d_is_row [M, y, z] S = some (.ok (.bl false), S) := by
  refine v_Fe (by simp [hM, hy, hz]) ⟨[], ?_⟩ rfl
  show d_is_row [some M, some y, some z, none] [] = _
  unfold d_is_row
  refine seq_nx (ρ1 := [some M, some y, some z, some T]) (S1 := []) (asg_n (i := 3) (x := T) ?_) (seq_nx (exp_d (x := .non) (S1 := []) ?_) (ret_d ?_))
  · simp [ht]
  · simp [need2' hT hy h]
  · rw [v_dAnd]
    refine bind_ok (aa := .bl false) (S1 := []) ?_ (bind_ok (aa := false) rfl rfl)
    simp [hr]
theorem done3 (hM : D.lo 0 M = true) (ht : ∀ S, runF 10 d_tables_of [M] S = some (.ok T, S)) (hz : D.lo 0 z = true) (hr : ∀ S, runF 3 d_is_row_of [T, z] S = some (.ok (.bl false), S)) : runF 3 d_done [M, z] S = some (.ex "InvalidRow" "value" z, S) := by
  refine v_Fxe (by simp [hM, hz]) ⟨[some M, some z, some T], [], ?_⟩ hz
  show d_done [some M, some z, none] [] = _
  unfold d_done
  refine seq_nx (ρ1 := [some M, some z, some T]) (S1 := []) (asg_n (i := 2) (x := T) ?_) (seq_xc (if_t (S1 := []) ?_ ?_))
  · simp [ht]
  · simp [hr]
  · simp
end
/-! ### caught -/
inductive Kd where
  | m | h | r
def kOf : Kd → Str
  | .m => "InvalidMill"
  | .h => "InvalidHoldings"
  | .r => "InvalidRow"
def nOf : Kd → Int
  | .m => 0
  | .h => 1
  | .r => 2
def bs : Kd → List D
  | .m => [.bl true, .bl false, .bl false]
  | .h => [.bl false, .bl true, .bl false]
  | .r => [.bl false, .bl false, .bl true]
theorem idx {b : Kd} {S : Store} : fIndex (.lst (bs b ++ [.bl true])) [.bl true] S = some (.ok (.int (nOf b)), S) := by cases b <;> rfl
theorem kqk {b : Kd} : kq (.c (kOf b)) (.c "InvalidMill") = some (decide (nOf b = 0)) ∧ kq (.c (kOf b)) (.c "InvalidHoldings") = some (decide (nOf b = 1)) ∧ kq (.c (kOf b)) (.c "InvalidRow") = some (decide (nOf b = 2)) := by cases b <;> decide +kernel
theorem xck {b : Kd} : xc (kOf b) = true := by cases b <;> decide +kernel
theorem mtk {b : Kd} : mt_MillError (kOf b) = some true := by cases b <;> decide +kernel
theorem bs_eq {b : Kd} : bs b = [.bl (decide (nOf b = 0)), .bl (decide (nOf b = 1)), .bl (decide (nOf b = 2))] := by cases b <;> rfl
section
variable {x y z v : D} {S : Store}
def DoorX (k : Int) (x y z : D) (C : Str) (v : D) : Prop :=
  (k = 0 ∧ ∀ S, runF 3 d_led [x, y, z] S = some (.ex C "value" v, S)) ∨ (k = 1 ∧ ∀ S, runF 3 d_narrows [x, y, z] S = some (.ex C "value" v, S)) ∨
  (k = 2 ∧ ∀ S, runF 4 d_is_row [x, y, z] S = some (.ex C "value" v, S)) ∨ (k = 3 ∧ ∀ S, runF 3 d_done [x, z] S = some (.ex C "value" v, S)) ∨ (k = 4 ∧ ∀ S, runF 4 d_turned [x] S = some (.ex C "value" v, S))
theorem eqT {ρ : Hy.Env} {j : Int} {S : Store} (h : ρ[0]? = some (some (.int j))) : dBool (d2 (fEq false) (dV 0) (dC (.int j))) ρ S = some (.ok true, S) := by
  simp [h, fEq_D, eqD]
theorem eqN {ρ : Hy.Env} {i j : Int} {S : Store} (h : ρ[0]? = some (some (.int i))) (hn : i ≠ j := by decide) : dBool (d2 (fEq false) (dV 0) (dC (.int j))) ρ S = some (.ok false, S) := by
  simp [h, fEq_D, eqD, hn]
theorem caught {b : Kd} {k : Int} {w : Str} (hx : D.lo 0 x = true) (hy : D.lo 0 y = true) (hz : D.lo 0 z = true) (hv : D.lo 0 v = true) (h : DoorX k x y z (kOf b) v) (hw : rpD v = some w) :
    runF 5 d_law_caught [.int k, .lst [x, y, z]] S = some (.ok (.lst [.int (nOf b), .str w]), S) := by
  refine v_Fe (by simp [hx, hy, hz]) ?_ (by simp)
  show ∃ S', d_law_caught [some (.int k), some (.lst [x, y, z]), none, none, none] [] = some (.rt _, S')
  unfold d_law_caught
  refine ex_nx (asg_n (x := .non) (S1 := []) rfl) ?_
  refine ex_nx (ρ1 := [some (.int k), some (.lst [x, y, z]), some (.exc (kOf b) "value" v), none, none]) (S1 := []) ?_ ?_
  · show sTry _ _ _ _ [some (.int k), some (.lst [x, y, z]), some .non, none, none] [] = _
    unfold sTry
    have body : sIf (dBool (d2 (fEq false) (dV 0) (dC (.int 0)))) (sExp (dCall 3 (runF 3 d_led) [] (aCons (d2 fIx (dV 1) (dC (.int 0))) (aCons (d2 fIx (dV 1) (dC (.int 1))) (aCons (d2 fIx (dV 1) (dC (.int 2))) aNil))))) (sIf (dBool (d2 (fEq false) (dV 0) (dC (.int 1)))) (sExp (dCall 3 (runF 3 d_narrows) [] (aCons (d2 fIx (dV 1) (dC (.int 0))) (aCons (d2 fIx (dV 1) (dC (.int 1))) (aCons (d2 fIx (dV 1) (dC (.int 2))) aNil))))) (sIf (dBool (d2 (fEq false) (dV 0) (dC (.int 2)))) (sExp (dCall 3 (runF 4 d_is_row) [] (aCons (d2 fIx (dV 1) (dC (.int 0))) (aCons (d2 fIx (dV 1) (dC (.int 1))) (aCons (d2 fIx (dV 1) (dC (.int 2))) aNil))))) (sIf (dBool (d2 (fEq false) (dV 0) (dC (.int 3)))) (sExp (dCall 2 (runF 3 d_done) [] (aCons (d2 fIx (dV 1) (dC (.int 0))) (aCons (d2 fIx (dV 1) (dC (.int 2))) aNil)))) (sExp (dCall 1 (runF 4 d_turned) [] (aCons (d2 fIx (dV 1) (dC (.int 0))) aNil)))))) [some (.int k), some (.lst [x, y, z]), some .non, none, none] [] = some (.xc [some (.int k), some (.lst [x, y, z]), some .non, none, none] (kOf b) "value" v, []) := by
      rcases h with ⟨rfl, h⟩ | ⟨rfl, h⟩ | ⟨rfl, h⟩ | ⟨rfl, h⟩ | ⟨rfl, h⟩
      · refine if_t (eqT rfl) ?_
        simp [h]
      · refine if_f (eqN rfl) (if_t (eqT rfl) ?_)
        simp [h]
      · refine if_f (eqN rfl) (if_f (eqN rfl) (if_t (eqT rfl) ?_))
        simp [h]
      · refine if_f (eqN rfl) (if_f (eqN rfl) (if_f (eqN rfl) (if_t (eqT rfl) ?_)))
        simp [h]
      · refine if_f (eqN rfl) (if_f (eqN rfl) (if_f (eqN rfl) (if_f (eqN rfl) ?_)))
        simp [h]
    rw [body]
    dsimp only
    rw [mtk]
    simp
  have tg : ∀ S, tgD S oc xc (.exc (kOf b) "value" v) = some (.c (kOf b)) := fun S => by
    unfold tgD
    dsimp only
    rw [if_pos xck]
  obtain ⟨q1, q2, q3⟩ := kqk (b := b)
  refine ex_nx (ρ1 := [some (.int k), some (.lst [x, y, z]), some (.exc (kOf b) "value" v), none, some (.lst (bs b))]) (S1 := []) (asg_n ?_) (ex_nx (ρ1 := [some (.int k), some (.lst [x, y, z]), some (.exc (kOf b) "value" v), none, some (.lst (bs b ++ [.bl true]))]) (S1 := []) (asg_n ?_) ⟨[], ret_d ?_⟩)
  · rw [bs_eq]
    simp [tg, q1, q2, q3]
  · rw [bs_eq]
    simp
  · have h1 : dIndex (dV 4) (aCons (dC (.bl true)) aNil) [some (.int k), some (.lst [x, y, z]), some (.exc (kOf b) "value" v), none, some (.lst (bs b ++ [.bl true]))] [] = some (.ok (.int (nOf b)), []) := by
      unfold dIndex
      refine bind_ok rfl (bind_ok rfl (bind_ok (args1 rfl) idx))
    have h2 : dIf (dBool (d2 (fIsN false) (dV 2) (dC .non))) (dC .non) (dCB fRepr (aCons (d1 (fXf xc "value") (dV 2)) aNil)) [some (.int k), some (.lst [x, y, z]), some (.exc (kOf b) "value" v), none, some (.lst (bs b ++ [.bl true]))] [] = some (.ok (.str w), []) := by
      rw [v_dIf]
      refine bind_ok (aa := false) (S1 := []) (by simp) ?_
      rw [if_neg (by decide), v_dCB]
      refine bind_ok (aa := [v]) (S1 := []) (args1 ?_) (v_repr hv hw)
      rw [v_d1]
      refine bind_ok (aa := .exc (kOf b) "value" v) (S1 := []) rfl ?_
      unfold fXf
      dsimp only
      rw [if_pos ⟨xck, rfl⟩]
      rfl
    rw [v_lst]
    refine bind_ok (args2 h1 h2) ?_
    simp
/-- is_row tells False -/
theorem caughtF (hx : D.lo 0 x = true) (hy : D.lo 0 y = true) (hz : D.lo 0 z = true) (h : ∀ S, runF 4 d_is_row [x, y, z] S = some (.ok (.bl false), S)) :
    runF 5 d_law_caught [.int 2, .lst [x, y, z]] S = some (.ok (.lst [.int 3, .non]), S) := by
  refine v_Fe (by simp [hx, hy, hz]) ?_ (by simp)
  show ∃ S', d_law_caught [some (.int 2), some (.lst [x, y, z]), none, none, none] [] = some (.rt _, S')
  unfold d_law_caught
  refine ex_nx (asg_n (x := .non) (S1 := []) rfl) ?_
  refine ex_nx (ρ1 := [some (.int 2), some (.lst [x, y, z]), some .non, none, none]) (S1 := []) ?_ ?_
  · show sTry _ _ _ _ [some (.int 2), some (.lst [x, y, z]), some .non, none, none] [] = _
    unfold sTry
    rw [if_f (eqN rfl) (if_f (eqN rfl) (if_t (eqT rfl) (o := some (.nx [some (.int 2), some (.lst [x, y, z]), some .non, none, none], [])) ?_))]
    simp [h]
  refine ex_nx (ρ1 := [some (.int 2), some (.lst [x, y, z]), some .non, none, some (.lst [.bl false, .bl false, .bl false])]) (S1 := []) (asg_n ?_) (ex_nx (ρ1 := [some (.int 2), some (.lst [x, y, z]), some .non, none, some (.lst [.bl false, .bl false, .bl false, .bl true])]) (S1 := []) (asg_n ?_) ⟨[], ret_d ?_⟩)
  · kernel_rfl
  · simp
  · kernel_rfl
end
end K13
end
section
/-! the lists of what is none -/
namespace K13
open PySem PySem.Spec PyProof.Rows L2 L2.Hy He
def niceB (d : D) : Bool := match sdG (fun _ => none) d with
  | some p => p.showable && (decide (Xv.wt p ≤ 20000) && (decide (p.depth ≤ 3) && PyData.strOk p.shown))
  | none => false
theorem nice_of {d : D} (h : niceB d = true) : ∃ p, sdG (fun _ => none) d = some p ∧ Nice p 20000 3 := by
  unfold niceB at h
  split at h
  · rename_i p e
    simp only [Bool.and_eq_true, decide_eq_true_eq] at h
    exact ⟨p, e, ⟨h.1, h.2.1, h.2.2.1, h.2.2.2⟩⟩
  · cases h
theorem nices : ∀ {ds : List D}, (∀ d ∈ ds, niceB d = true) → ∃ ps, sdsG (fun _ => none) ds = some ps ∧ ps.length = ds.length ∧ ∀ p ∈ ps, Nice p 20000 3
  | [], _ => ⟨[], rfl, rfl, by simp⟩
  | d :: ds, h => by
    obtain ⟨p, e, n⟩ := nice_of (h d (by simp))
    obtain ⟨ps, e2, l2, n2⟩ := nices fun x hx => h x (List.mem_cons_of_mem _ hx)
    refine ⟨p :: ps, by rw [sdsG, e, e2], by simp [l2], fun q hq => ?_⟩
    rcases List.mem_cons.mp hq with rfl | z
    · exact n
    · exact n2 q z
theorem rp_lst {ds : List D} (h : ∀ d ∈ ds, niceB d = true) (hl : ds.length ≤ 10) : ∃ w, rpD (.lst ds) = some w ∧ PyData.strOk w = true := by
  obtain ⟨ps, e, l, n⟩ := nices h
  have nn : Nice (.list ps) (3 + 10 * (20000 + 2)) 4 := Nice.list n (by omega)
  exact ⟨_, nn.rp (by rw [sdG, e]; rfl) (by decide) (by decide), nn.ok⟩
theorem rp_tup {ds : List D} (h : ∀ d ∈ ds, niceB d = true) (hl : ds.length ≤ 10) : ∃ w, rpD (.tup ds) = some w ∧ PyData.strOk w = true := by
  obtain ⟨ps, e, l, n⟩ := nices h
  have nn : Nice (.tuple ps) (3 + 10 * (20000 + 2)) 4 := Nice.tuple n (by omega)
  exact ⟨_, nn.rp (by rw [sdG, e]; rfl) (by decide) (by decide), nn.ok⟩
theorem ams_ok : ams.all (fun a => niceB (am a) && (amB (am a) && bndB (am a))) = true := by kernel_rfl
theorem am_ok {a : Int × Int} (h : a ∈ ams) : niceB (am a) = true ∧ amB (am a) = true ∧ bndB (am a) = true := by
  have := List.all_eq_true.mp ams_ok a h
  simpa [Bool.and_eq_true] using this
theorem dat_am (a : Int × Int) : dat (am a) = true := rfl
theorem dats_am (l : List (Int × Int)) : dats (l.map am) = true := dats_of fun d hd => by
  obtain ⟨a, _, rfl⟩ := List.mem_map.mp hd
  exact dat_am a
theorem dats_app {a b : List D} (h : dats a = true) (h' : dats b = true) : dats (a ++ b) = true := dats_of fun d hd => by
  rcases List.mem_append.mp hd with z | z
  · exact dats_mem h d z
  · exact dats_mem h' d z
def oddsR (r : Option Int) : List D := [.tup [.int 1], .tup [.int 1, .int 2, .int 3], .lst [.int 1, .int 2], .tup [.int 2, .int 4], .tup [.int (-1), .int 2], .tup [.int 1, .int 0], .tup [.int 1, .int (-2)], .tup [.bl true, .int 1], .tup [.int 1, .bl true], .tup [.str "1", .int 1], .tup [.int 1, .str "1"]] ++
  ((match r with
  | none => []
  | some i => [.tup [.int (i + 1), .int 1], .tup [.int (2 * i + 1), .int 2]]) ++ [.tup [.non, .int 1], .tup [.int 0, .int 2], .dct [], .tup []])
def oddB (r : Option Int) (o : D) : Bool := dat o && (bndB o && (niceB o && !(amB o && fitB o r)))
theorem odds_ok : ([none, some 0, some 1, some 2, some 3] : List (Option Int)).all (fun r => (.non :: .int 1 :: oddsR r).all (oddB r)) = true := by kernel_rfl
theorem rm_in {r : Option Int} (h : RmOk r) : r ∈ ([none, some 0, some 1, some 2, some 3] : List (Option Int)) := by
  cases r with
  | none => simp
  | some i =>
    have := h i rfl
    have : i = 0 ∨ i = 1 ∨ i = 2 ∨ i = 3 := by omega
    rcases this with rfl | rfl | rfl | rfl <;> simp
theorem odd_ok {r : Option Int} (h : RmOk r) {o : D} (ho : o ∈ (.non :: .int 1 :: oddsR r : List D)) : dat o = true ∧ bndB o = true ∧ niceB o = true ∧ (amB o && fitB o r) = false := by
  have := List.all_eq_true.mp (List.all_eq_true.mp odds_ok r (rm_in h)) o ho
  unfold oddB at this
  simp only [Bool.and_eq_true, Bool.not_eq_true'] at this
  exact ⟨this.1, this.2.1, this.2.2.1, this.2.2.2⟩
def oddH (hs ini : List (Int × Int)) (r : Option Int) : List D := [.non, .int 3, .tup [], .str "held", .dct [], .bl true, .tup (hs.map am), .lst (hs.map am ++ [am (0, 1)]), .lst (ini.map am), .lst (ini.map am ++ [.non])] ++ ([.lst (ini.map am ++ [.int 1])] ++ (oddsR r).map fun o => .lst (ini.map am ++ [o]))
def od0 : List D := [.tup [.int 1], .tup [.int 1, .int 2, .int 3], .lst [.int 1, .int 2], .tup [.int 2, .int 4], .tup [.int (-1), .int 2], .tup [.int 1, .int 0], .tup [.int 1, .int (-2)], .tup [.bl true, .int 1], .tup [.int 1, .bl true], .tup [.str "1", .int 1], .tup [.int 1, .str "1"]]
def od1 (r : Option Int) : List D := match r with
  | none => []
  | some i => [.tup [.int (i + 1), .int 1], .tup [.int (2 * i + 1), .int 2]]
theorem room_i {r : Option Int} (h : RmOk r) : ∀ i, r = some i → (2 : Int).natAbs.log2 + i.natAbs.log2 < 900000 := fun i hi => by
  have := h i hi
  exact mul_ok (by decide) (by omega)
theorem oddH_mem {hs ini : List (Int × Int)} {r : Option Int} {v : D} (h : v ∈ oddH hs ini r) : v ∈ ([.non, .int 3, .tup [], .str "held", .dct [], .bl true] : List D) ∨ v = .tup (hs.map am) ∨ v = .lst (hs.map am ++ [am (0, 1)]) ∨ v = .lst (ini.map am) ∨ ∃ o, o ∈ (.non :: .int 1 :: oddsR r : List D) ∧ v = .lst (ini.map am ++ [o]) := by
  unfold oddH at h
  rcases List.mem_append.mp h with z | z
  · simp only [List.mem_cons, List.not_mem_nil, or_false] at z
    rcases z with z | z | z | z | z | z | z | z | z | z
    · exact .inl (by simp [z])
    · exact .inl (by simp [z])
    · exact .inl (by simp [z])
    · exact .inl (by simp [z])
    · exact .inl (by simp [z])
    · exact .inl (by simp [z])
    · exact .inr (.inl z)
    · exact .inr (.inr (.inl z))
    · exact .inr (.inr (.inr (.inl z)))
    · exact .inr (.inr (.inr (.inr ⟨_, by simp, z⟩)))
  · rcases List.mem_append.mp z with z | z
    · rw [List.mem_singleton] at z
      exact .inr (.inr (.inr (.inr ⟨_, by simp, z⟩)))
    · obtain ⟨o, ho, rfl⟩ := List.mem_map.mp z
      exact .inr (.inr (.inr (.inr ⟨o, by simp [ho], rfl⟩)))
theorem base_ok : ([.non, .int 3, .tup [], .str "held", .dct [], .bl true] : List D).all (fun v => dat v && (rpB v && match v with
  | .lst _ => false
  | _ => true)) = true := by kernel_rfl
theorem oddH_dat {hs ini : List (Int × Int)} {r : Option Int} (hr : RmOk r) : ∀ v ∈ oddH hs ini r, dat v = true := fun v hv => by
  rcases oddH_mem hv with z | rfl | rfl | rfl | ⟨o, ho, rfl⟩
  · have := List.all_eq_true.mp base_ok v z
    rw [Bool.and_eq_true] at this
    exact this.1
  · exact dats_am hs
  · exact dats_app (dats_am hs) rfl
  · exact dats_am ini
  · have h1 := (odd_ok hr ho).1
    exact dats_app (dats_am ini) (by
      show (dat o && true) = true
      rw [h1]
      rfl)
theorem am_all {l : List (Int × Int)} (h : ∀ a ∈ l, a ∈ ams) : (∀ d ∈ l.map am, niceB d = true) ∧ ∀ d ∈ l.map am, bndB d = true := by
  refine ⟨fun d hd => ?_, fun d hd => ?_⟩
  · obtain ⟨a, ha, rfl⟩ := List.mem_map.mp hd
    exact (am_ok (h a ha)).1
  · obtain ⟨a, ha, rfl⟩ := List.mem_map.mp hd
    exact (am_ok (h a ha)).2.2
theorem mem_app1 {P : D → Prop} {l : List D} {o : D} (h : ∀ d ∈ l, P d) (ho : P o) : ∀ d ∈ l ++ [o], P d := fun d hd => by
  rcases List.mem_append.mp hd with z | z
  · exact h d z
  · rw [List.mem_singleton] at z
    subst z
    exact ho
structure Odd (rooms : List (Option Int)) (v : D) : Prop where
  dt : dat v = true
  rp : ∃ w, rpD v = some w ∧ PyData.strOk w = true
  no : holdB rooms v = false
  bn : ∀ vs, v = .lst vs → ∀ x ∈ vs, bndB x = true
theorem oddH_all {hs ini : List (Int × Int)} {la : Int × Int} {rooms ri : List (Option Int)} {rl : Option Int} (hr : RmOk rl) (hh : hs = ini ++ [la]) (hrr : rooms = ri ++ [rl]) (hl : hs.length = rooms.length) (h3 : hs.length ≤ 3) (ha : ∀ a ∈ hs, a ∈ ams) : ∀ v ∈ oddH hs ini rl, Odd rooms v := fun v hv => by
  have hd := oddH_dat hr v hv
  have hai : ∀ a ∈ ini, a ∈ ams := fun a h => ha a (by rw [hh]; simp [h])
  have li : ini.length = ri.length := by
    rw [hh, hrr] at hl
    simpa using hl
  have l2 : ini.length + 1 ≤ 3 := by
    rw [hh] at h3
    simpa using h3
  rcases oddH_mem hv with z | rfl | rfl | rfl | ⟨o, ho, rfl⟩
  · have := List.all_eq_true.mp base_ok v z
    simp only [Bool.and_eq_true] at this
    have h2 := this.2.2
    obtain ⟨_, w, hw, ok⟩ := rpB_of this.2.1
    refine ⟨hd, ⟨w, hw, ok⟩, ?_, ?_⟩
    · cases v <;> first | rfl | cases h2
    · rintro vs rfl
      cases h2
  · exact ⟨hd, rp_tup (am_all ha).1 (by simp; omega), rfl, fun vs e => by cases e⟩
  · refine ⟨hd, rp_lst (mem_app1 (P := fun d => niceB d = true) (am_all ha).1 (am_ok (by simp [ams])).1) (by simp; omega), ?_, ?_⟩
    · unfold holdB
      have : (((hs.map am ++ [am (0, 1)]).length == rooms.length) : Bool) = false := by
        simp
        omega
      dsimp only
      rw [this]
      rfl
    · intro vs e
      cases e
      exact mem_app1 (P := fun d => bndB d = true) (am_all ha).2 (am_ok (by simp [ams])).2.2
  · refine ⟨hd, rp_lst (am_all hai).1 (by simp; omega), ?_, ?_⟩
    · unfold holdB
      have : (((ini.map am).length == rooms.length) : Bool) = false := by
        rw [hrr]
        simp
        omega
      dsimp only
      rw [this]
      rfl
    · intro vs e
      cases e
      exact (am_all hai).2
  · obtain ⟨o1, o2, o3, o4⟩ := odd_ok hr ho
    refine ⟨hd, rp_lst (mem_app1 (P := fun d => niceB d = true) (am_all hai).1 o3) (by simp; omega), ?_, ?_⟩
    · unfold holdB
      dsimp only
      rw [hrr, zip_snoc (by simpa using li), List.all_append]
      have : (List.all [((o : D), (rl : Option Int))] fun p => amB p.1 && fitB p.1 p.2) = false := by
        simpa using o4
      rw [this, Bool.and_false, Bool.and_false]
    · intro vs e
      cases e
      exact mem_app1 (P := fun d => bndB d = true) (am_all hai).2 o2
def od2 : List D := [.tup [.non, .int 1], .tup [.int 0, .int 2], .dct [], .tup []]
theorem oddsR_eq (r : Option Int) : oddsR r = (od0 ++ od1 r) ++ od2 := by
  unfold oddsR od0 od1 od2
  rw [List.append_assoc]
theorem oddsR_len (r : Option Int) : (oddsR r).length ≤ 100 := by
  unfold oddsR
  cases r <;> simp
theorem oddsD {ss : List Sf} {rs : List Rc} {si : List Sf} {sl : Sf} (hss : ss = si ++ [sl]) (hr : RmOk sl.2) (hl : ss.length ≤ 3) {hs ini : List (Int × Int)} {la : Int × Int} (hh : hs = ini ++ [la]) (hl2 : hs.length ≤ 3) {S : Store} :
    runF 6 d_law_odd_holdings [millD ss rs, .lst (hs.map am)] S = some (.ok (.lst (oddH hs ini sl.2)), S) := by
  have l2 : ini.length ≤ 16777216 := by rw [hh] at hl2; simp at hl2; omega
  have sl1 : ∀ T, fSl false (.lst (hs.map am)) none (some (-1)) T = some (.ok (.lst (ini.map am)), T) := fun T => by
    rw [hh, List.map_append, List.map_singleton]
    exact v_slInit (by simpa using l2)
  refine v_Fe (by simp [los_am]) ⟨[], ?_⟩ ?_
  · show d_law_odd_holdings [some (millD ss rs), some (.lst (hs.map am)), none, none, none, none] [] = _
    unfold d_law_odd_holdings
    have hl3 : ini.length ≤ 3 := by rw [hh] at hl2; simp at hl2; omega
    have hsl : ss.length ≤ 1000 := by omega
    have f1 : hs.length + 1 ≤ 16777216 := by omega
    have f2 : ini.length + 1 ≤ 16777216 := by omega
    have f3 : hs.length ≤ 16777216 := by omega
    let A : List D := [.non, .int 3, .tup [], .str "held", .dct [], .bl true, .tup (hs.map am), .lst (hs.map am ++ [am (0, 1)]), .lst (ini.map am), .lst (ini.map am ++ [.non])]
    refine seq_nx (ρ1 := [some (millD ss rs), some (.lst (hs.map am)), some (.lst A), none, none, none]) (S1 := []) (by simp [sl1, fTupOf, f1, f2, f3, am, A]) ?_
    refine seq_nx (ρ1 := [some (millD ss rs), some (.lst (hs.map am)), some (.lst (A ++ [.lst (ini.map am ++ [.int 1])])), none, none, none]) (S1 := []) (by simp [sl1, f2, A]) ?_
    have hA : oddH hs ini sl.2 = (A ++ [.lst (ini.map am ++ [.int 1])]) ++ (oddsR sl.2).map fun o => .lst (ini.map am ++ [o]) := by
      rw [List.append_assoc]
      rfl
    have lB : (A ++ [D.lst (ini.map am ++ [.int 1])]).length = 11 := rfl
    rw [hA]
    generalize hB : (A ++ [.lst (ini.map am ++ [.int 1])] : List D) = B at lB ⊢
    refine seq_nx (ρ1 := [some (millD ss rs), some (.lst (hs.map am)), some (.lst B), some (.lst od0), none, none]) (S1 := []) (by kernel_rfl) ?_
    refine seq_nx (ρ1 := [some (millD ss rs), some (.lst (hs.map am)), some (.lst B), some (.lst od0), some (roomD sl.2), none]) (S1 := []) (asg_n (i := 4) ?_) ?_
    · rw [v_d2]
      refine bind_ok (aa := sfD sl) (S1 := []) ?_ (bind_ok (aa := .int 1) rfl (by simp [sfD]))
      rw [v_d2]
      refine bind_ok (aa := .lst (ss.map sfD)) (S1 := []) (by simp [stuffs2 hsl, lk3]) (bind_ok (aa := .int (-1)) rfl ?_)
      rw [hss, List.map_append, List.map_singleton, v_ixL, v_atLast]
      rfl
    refine seq_nx (ρ1 := [some (millD ss rs), some (.lst (hs.map am)), some (.lst B), some (.lst (od0 ++ od1 sl.2)), some (roomD sl.2), none]) (S1 := []) ?_ ?_
    · have q := room_i hr
      generalize sl.2 = r at q ⊢
      cases r with
      | none => exact if_f (S1 := []) (by simp [roomD]) (by simp [od1])
      | some i => exact if_t (S1 := []) (by simp [roomD]) (by simp [roomD, od1, od0, v_mul, v_mulC (q i rfl)])
    · refine ret_d ?_
      rw [v_d2]
      refine bind_ok (aa := .lst B) (S1 := []) rfl (bind_ok (aa := .lst ((oddsR sl.2).map fun o => .lst (ini.map am ++ [o]))) (S1 := []) ?_ ?_)
      · have e := lc_map (S := []) (f := fun d : D => d) (g := fun o => D.lst (ini.map am ++ [o])) (bd := bN 5) (de := ce_law_odd_holdings_1) (ρ := [some (millD ss rs), some (.lst (hs.map am)), some (.lst B), some (.lst (od0 ++ od1 sl.2)), some (roomD sl.2), none]) (xs := oddsR sl.2) fun o _ => ⟨[some (millD ss rs), some (.lst (hs.map am)), some (.lst B), some (.lst (od0 ++ od1 sl.2)), some (roomD sl.2), some o], by simp, by simp [ce_law_odd_holdings_1, sl1, f2]⟩
        rw [List.map_id'] at e
        refine lcA_d (ds := oddsR sl.2) (S1 := []) ?_ e (by have := oddsR_len sl.2; simp; omega)
        rw [v_d2]
        refine bind_ok (aa := .lst (od0 ++ od1 sl.2)) rfl (bind_ok (aa := .lst od2) (S1 := []) (by kernel_rfl) ?_)
        rw [oddsR_eq, v_cat]
        dsimp only [v_lstL, lstD]
        rw [v_allocF, if_pos]
        have := oddsR_len sl.2
        rw [oddsR_eq] at this
        omega
      · rw [v_cat]
        dsimp only [v_lstL, lstD]
        rw [v_allocF, if_pos]
        have := oddsR_len sl.2
        simp [lB]
        omega
  · exact dats_lo _ (dats_of fun v hv => (oddH_dat hr v hv))
theorem held_hold {rooms : List (Option Int)} {hs : List (Int × Int)} (h : Held rooms hs) : holdB rooms (.lst (hs.map am)) = true := by
  unfold holdB
  rw [Bool.and_eq_true]
  refine ⟨by simp [h.len], List.all_eq_true.mpr fun p hp => ?_⟩
  rw [List.zip_map_left] at hp
  obtain ⟨q, hq, rfl⟩ := List.mem_map.mp hp
  obtain ⟨h1, h2⟩ := h.it q hq
  show (amB (am q.1) && fitB (am q.1) q.2) = true
  rw [(am_ok h1).2.1, h2]
  rfl
theorem Held.ams {rooms : List (Option Int)} {hs : List (Int × Int)} (h : Held rooms hs) : ∀ a ∈ hs, a ∈ ams := fun a ha => by
  obtain ⟨i, hi, rfl⟩ := List.getElem_of_mem ha
  have hz : i < (List.zip hs rooms).length := by rw [List.length_zip, ← h.len]; omega
  have := h.it _ (List.getElem_mem hz)
  rw [List.getElem_zip] at this
  exact this.1
end K13
end
section
/-! refused, all of it -/
namespace K13
open PySem PySem.Spec PyProof.Rows L2 L2.Hy He
def oddW : List D := match d_law_odd_rows [some (.str "r"), none] [] with
  | some (.rt (.lst ds), _) => ds
  | _ => []
theorem oddW_run : d_law_odd_rows [some (.str "r"), none] [] = some (.rt (.lst oddW), []) := by kernel_rfl
def lenB : D → Bool
  | .lst bs => decide (bs.length ≤ 1000) && bs.all fun b => match b with
    | .tup [_, .lst ss] => decide (ss.length ≤ 1000)
    | _ => true
  | _ => true
theorem len_ok {d : D} (h : lenB d = true) : ∀ bs, d = .lst bs → bs.length ≤ 16777216 ∧ ∀ b ∈ bs, ∀ t ss, b = .tup [t, .lst ss] → ss.length ≤ 16777216 := by
  rintro bs rfl
  unfold lenB at h
  rw [Bool.and_eq_true, decide_eq_true_eq] at h
  refine ⟨by omega, ?_⟩
  rintro b hb t ss rfl
  have := List.all_eq_true.mp h.2 _ hb
  simp only [decide_eq_true_eq] at this
  omega
theorem oddW_ok : oddW.all (fun d => dat d && (rpB d && (lenB d && ([1, 2, 3] : List Nat).all fun m => !rowB (rst m) d))) = true := by kernel_rfl
structure OddW (m : Nat) (v : D) : Prop where
  dt : dat v = true
  rp : ∃ w, rpD v = some w ∧ PyData.strOk w = true
  len : lenB v = true
  no : rowB (rst m) v = false
theorem oddW_all {m : Nat} (hm : m = 1 ∨ m = 2 ∨ m = 3) : ∀ v ∈ oddW, OddW m v := fun v hv => by
  have := List.all_eq_true.mp oddW_ok v hv
  simp only [Bool.and_eq_true] at this
  obtain ⟨h1, h2, h3, h4⟩ := this
  obtain ⟨_, w, hw, ok⟩ := rpB_of h2
  refine ⟨h1, ⟨w, hw, ok⟩, h3, ?_⟩
  have := List.all_eq_true.mp h4 m (by rcases hm with rfl | rfl | rfl <;> simp)
  simpa using this
theorem rg_i {S : Store} {i : Nat} (h : i = 2 ∨ i = 3 ∨ i = 4 ∨ i = 5) : itR1 [.int (i : Nat)] S = some (.ok (((List.range i).map fun j => ((j : Nat) : Int)).map D.int), S) := by
  rcases h with rfl | rfl | rfl | rfl <;> simp [itR1, rgD, List.range, List.range.loop]
theorem same_ne {n : Nat} {i : Int} {w : Str} (hw : PyData.strOk w = true) {S : Store} : fEq true (.lst (List.replicate n (.lst [.int i, .str w]))) (.lst (List.replicate n (.lst [.int i, .str w]))) S = some (.ok (.bl false), S) := by
  have ok : okD 20 (.lst (List.replicate n (.lst [.int i, .str w]))) = true := by
    show okDs 19 (List.replicate n (.lst [.int i, .str w])) = true
    induction n with
    | zero => rfl
    | succ n ih =>
      rw [List.replicate_succ]
      show (okD 19 (.lst [.int i, .str w]) && okDs 19 _) = true
      rw [ih]
      simp [okD, okDs, hw]
  have nb : nbD (.lst (List.replicate n (.lst [.int i, .str w]))) = true := by
    show nbDs (List.replicate n (.lst [.int i, .str w])) = true
    clear ok
    induction n with
    | zero => rfl
    | succ n ih =>
      rw [List.replicate_succ]
      show (nbD (.lst [.int i, .str w]) && nbDs _) = true
      rw [ih]
      rfl
  rw [fEq_D ok ok, (eqD_iff 20 _ _ ok ok nb nb).mpr rfl]
  rfl
theorem rep_d {n : Nat} (hn : n ≤ 100) {L : D} {S : Store} : fRepL false (.lst [L]) (.int (n : Nat)) S = some (.ok (.lst (List.replicate n L)), S) := by
  unfold fRepL
  have h1 : (0 : Int) ≤ (n : Int) ∧ (n : Int) ≤ 4294967296 := by omega
  have h2 : (List.replicate n [L]).flatten = List.replicate n L := by simp
  simp [h1, h2, allocL]
  omega
section
variable {M H bad : D} {nm : Str} {o4 : Option D} {S : Store}
/-- one bad mill -/
theorem body2 (hd : dat bad = true) {w : Str} (hw : rpD bad = some w) (ok : PyData.strOk w = true) : lb_law_refused_2 [some M, some H, some (.str nm), some bad, o4] S = some (.nx [some M, some H, some (.str nm), some bad, o4], S) := by
  have lo := dat_lo bad hd
  have b := trip1 hd (y := .non) (z := .non) rfl rfl
  unfold lb_law_refused_2
  refine if_f (S1 := S) ?_ rfl
  rw [v_bool]
  refine bind_ok (aa := .bl false) (S1 := S) ?_ rfl
  rw [v_d2]
  have e := lc_map (f := D.int) (g := fun _ => .lst [.int 0, .str w]) (bd := bN 4) (de := ce_law_refused_1) (ρ := [some M, some H, some (.str nm), some bad, none]) (S := S) (xs := (List.range 5).map fun j => ((j : Nat) : Int)) fun k hk => by
    refine ⟨[some M, some H, some (.str nm), some bad, some (.int k)], by simp, ?_⟩
    have dx : DoorX k bad .non .non (kOf .m) bad := by
      simp [List.range, List.range.loop] at hk
      rcases hk with rfl | rfl | rfl | rfl | rfl
      · exact .inl ⟨rfl, fun S => led_x b⟩
      · exact .inr (.inl ⟨rfl, fun S => narrows_x b⟩)
      · exact .inr (.inr (.inl ⟨rfl, fun S => is_row1 hd rfl rfl⟩))
      · exact .inr (.inr (.inr (.inl ⟨rfl, fun S => done1 hd rfl⟩)))
      · exact .inr (.inr (.inr (.inr ⟨rfl, fun S => turnedX hd⟩)))
    have c := caught (S := S) (b := .m) lo rfl rfl lo dx hw
    unfold ce_law_refused_1
    refine call2 (x := .int k) (y := .lst [bad, .non, .non]) rfl (by simp) c
  simp only [List.map_const', List.length_map, List.length_range, List.length_cons, List.length_nil, Nat.zero_add, Nat.reduceAdd] at e
  refine bind_ok (aa := .lst (List.replicate 5 (.lst [.int 0, .str w]))) (S1 := S) (lc_d (bind_ok (args1 rfl) (rg_i (i := 5) (by simp))) e (by simp)) (bind_ok (aa := .lst (List.replicate 5 (.lst [.int 0, .str w]))) (S1 := S) ?_ (same_ne ok))
  rw [v_d2]
  refine bind_ok (aa := .lst [.lst [.int 0, .str w]]) (S1 := S) ?_ (bind_ok (aa := .int 5) rfl (rep_d (n := 5) (by decide)))
  have r : ∀ S, fRepr [bad] S = some (.ok (.str w), S) := fun S => v_repr lo hw
  simp [r]
/-- one that is no holdings -/
theorem body4 {T : D} {rooms : List (Option Int)} {rn : List Str} (hM : D.lo 0 M = true) (ht : ∀ S, runF 10 d_tables_of [M] S = some (.ok T, S)) (hT : TabOk T rooms rn) (hr : ∀ i, some i ∈ rooms → i.natAbs < 2 ^ 200) (hl : rooms.length ≤ 1000) (o : Odd rooms bad) :
    lb_law_refused_4 [some M, some H, some (.str nm), some bad, o4] S = some (.nx [some M, some H, some (.str nm), some bad, o4], S) := by
  have lo := dat_lo bad o.dt
  obtain ⟨w, hw, ok⟩ := o.rp
  have hh : ∀ S, runF 4 d_is_holdings [T, bad] S = some (.ok (.bl false), S) := fun S => by
    rw [holdD hT o.dt hr hl o.bn, o.no]
  have b := trip2 (z := .non) hM ht hT lo rfl hh
  unfold lb_law_refused_4
  refine if_f (S1 := S) ?_ rfl
  rw [v_bool]
  refine bind_ok (aa := .bl false) (S1 := S) ?_ rfl
  rw [v_d2]
  have e := lc_map (f := D.int) (g := fun _ => .lst [.int 1, .str w]) (bd := bN 4) (de := ce_law_refused_3) (ρ := [some M, some H, some (.str nm), some bad, none]) (S := S) (xs := (List.range 3).map fun j => ((j : Nat) : Int)) fun k hk => by
    refine ⟨[some M, some H, some (.str nm), some bad, some (.int k)], by simp, ?_⟩
    have dx : DoorX k M bad .non (kOf .h) bad := by
      simp [List.range, List.range.loop] at hk
      rcases hk with rfl | rfl | rfl
      · exact .inl ⟨rfl, fun S => led_x b⟩
      · exact .inr (.inl ⟨rfl, fun S => narrows_x b⟩)
      · exact .inr (.inr (.inl ⟨rfl, fun S => is_row2 hM ht hT lo rfl hh⟩))
    have c := caught (S := S) (b := .h) hM lo rfl lo dx hw
    unfold ce_law_refused_3
    refine call2 (x := .int k) (y := .lst [M, bad, .non]) rfl (by simp) c
  simp only [List.map_const', List.length_map, List.length_range, List.length_cons, List.length_nil, Nat.zero_add, Nat.reduceAdd] at e
  refine bind_ok (aa := .lst (List.replicate 3 (.lst [.int 1, .str w]))) (S1 := S) (lc_d (bind_ok (args1 rfl) (rg_i (i := 3) (by simp))) e (by simp)) (bind_ok (aa := .lst (List.replicate 3 (.lst [.int 1, .str w]))) (S1 := S) ?_ (same_ne ok))
  rw [v_d2]
  refine bind_ok (aa := .lst [.lst [.int 1, .str w]]) (S1 := S) ?_ (bind_ok (aa := .int 3) rfl (rep_d (n := 3) (by decide)))
  have r : ∀ S, fRepr [bad] S = some (.ok (.str w), S) := fun S => v_repr lo hw
  simp [r]
/-- one that is no row -/
theorem body6 {T : D} {rooms : List (Option Int)} {m : Nat} (hM : D.lo 0 M = true) (hH : D.lo 0 H = true) (ht : ∀ S, runF 10 d_tables_of [M] S = some (.ok T, S)) (hT : TabOk T rooms (rst m)) (hh : ∀ S, runF 4 d_is_holdings [T, H] S = some (.ok (.bl true), S)) (o : OddW m bad) :
    lb_law_refused_6 [some M, some H, some (.str nm), some bad, o4] S = some (.nx [some M, some H, some (.str nm), some bad, o4], S) := by
  have lo := dat_lo bad o.dt
  obtain ⟨w, hw, ok⟩ := o.rp
  have hr : ∀ S, runF 3 d_is_row_of [T, bad] S = some (.ok (.bl false), S) := fun S => by
    rw [rowD hT o.dt (len_ok o.len), o.no]
  have b := trip3 hM ht hT hH lo hh hr
  have f3 := fun S => is_row3 (S := S) hM ht hT hH lo hh hr
  have r : ∀ S, fRepr [bad] S = some (.ok (.str w), S) := fun S => v_repr lo hw
  unfold lb_law_refused_6
  refine seq_nx (ρ1 := [some M, some H, some (.str nm), some bad, o4]) (S1 := S) (if_f (S1 := S) ?_ rfl) (if_f (S1 := S) ?_ rfl)
  · rw [v_bool]
    refine bind_ok (aa := .bl false) (S1 := S) ?_ rfl
    rw [v_d2]
    have e := lc_map (f := D.int) (g := fun _ => .lst [.int 2, .str w]) (bd := bN 4) (de := ce_law_refused_5) (ρ := [some M, some H, some (.str nm), some bad, none]) (S := S) (xs := [0, 1, 3]) fun k hk => by
      refine ⟨[some M, some H, some (.str nm), some bad, some (.int k)], by simp, ?_⟩
      have dx : DoorX k M H bad (kOf .r) bad := by
        simp only [List.mem_cons, List.not_mem_nil, or_false] at hk
        rcases hk with rfl | rfl | rfl
        · exact .inl ⟨rfl, fun S => led_x b⟩
        · exact .inr (.inl ⟨rfl, fun S => narrows_x b⟩)
        · exact .inr (.inr (.inr (.inl ⟨rfl, fun S => done3 hM ht lo hr⟩)))
      have c := caught (S := S) (b := .r) hM hH lo lo dx hw
      unfold ce_law_refused_5
      refine call2 (x := .int k) (y := .lst [M, H, bad]) rfl (by simp) c
    simp only [List.map_const', List.length_map, List.length_range, List.length_cons, List.length_nil, Nat.zero_add, Nat.reduceAdd] at e
    refine bind_ok (aa := .lst (List.replicate 3 (.lst [.int 2, .str w]))) (S1 := S) (lcA_d (ds := [.int 0, .int 1, .int 3]) (by simp) e (by simp)) (bind_ok (aa := .lst (List.replicate 3 (.lst [.int 2, .str w]))) (S1 := S) ?_ (same_ne ok))
    rw [v_d2]
    refine bind_ok (aa := .lst [.lst [.int 2, .str w]]) (S1 := S) ?_ (bind_ok (aa := .int 3) rfl (rep_d (n := 3) (by decide)))
    simp [r]
  · rw [v_tdOr]
    refine bind_ok (aa := false) (S1 := S) ?_ ?_
    · rw [v_bool]
      refine bind_ok (aa := .bl false) (S1 := S) ?_ rfl
      rw [v_d2]
      refine bind_ok (aa := .lst [.int 3, .non]) (S1 := S) (call2 (x := .int 2) (y := .lst [M, H, bad]) rfl (by simp) (caughtF hM hH lo f3)) (bind_ok (aa := .lst [.int 3, .non]) (S1 := S) (by simp) (by kernel_rfl))
    · rw [if_neg (by decide), v_bool]
      refine bind_ok (aa := .bl false) (S1 := S) ?_ rfl
      rw [v_d2]
      refine bind_ok (aa := .bl false) (S1 := S) ?_ (bind_ok (aa := .bl false) rfl rfl)
      simp [f3]
end
end K13
end
section
/-! all that is refused -/
namespace K13
open PySem PySem.Spec PyProof.Rows L2 L2.Hy He
theorem base_m : ([.non, .int 3, .lst [], .tup [], .dct [], .str "mill", .bl true] : List D).all (fun v => dat v && rpB v) = true := by kernel_rfl
theorem dat_sd {w : Nat} {s : Sd} (p : Pt (ab w) s) : dat (sdD s) = true := by
  refine dats_of fun d hd => ?_
  obtain ⟨x, hx, rfl⟩ := List.mem_map.mp hd
  have := (ab_nm (w := w) x.1 (p.sub.subset (List.mem_map_of_mem hx))).ok
  show (PyData.strOk x.1 && (true && true)) = true
  rw [this]
  rfl
section
variable {w m : Nat} {ss : List Sf} {rs : List Rc}
theorem Drawn.datR (h : Drawn w m ss rs) : dat (.lst (rs.map rcD)) = true := by
  refine dats_of fun d hd => ?_
  obtain ⟨r, hr, rfl⟩ := List.mem_map.mp hd
  have hn := (rst_nm (m := m) r.1 (by rw [← h.rn]; exact List.mem_map_of_mem hr)).ok
  have h1 := dat_sd (h.pt r hr).1
  have h2 := dat_sd (h.pt r hr).2
  show (PyData.strOk r.1 && (dat (sdD r.2.1) && (dat (sdD r.2.2) && true))) = true
  rw [hn, h1, h2]
  rfl
theorem Drawn.rpR (h : Drawn w m ss rs) (hw : w ≤ 3) (hl : rs.length ≤ 3) : ∃ z, rpD (.lst (rs.map rcD)) = some z ∧ PyData.strOk z = true := by
  have n2 : Nice (.list (rs.map rcP)) (3 + 3 * (3 + 3 * (3 + 3 * (4007 + 2) + 2) + 2)) 4 := Nice.list (d := 3) (fun q hq => by
    obtain ⟨x, hx, rfl⟩ := List.mem_map.mp hq
    exact h.niceR hw x hx) (by simpa using hl)
  refine ⟨_, n2.rp ?_ (by decide) (by decide), n2.ok⟩
  rw [sdG, sds_map fun s _ => sd_rc]
  rfl
theorem refusedD (D0 : Drawn w m ss rs) (hw : w = 1 ∨ w = 2 ∨ w = 3) (hm : m = 1 ∨ m = 2 ∨ m = 3) {hs : List (Int × Int)} (hh : Held (ss.map (·.2)) hs) {S : Store} :
    runF 5 d_law_refused [millD ss rs, .lst (hs.map am), .str "r"] S = some (.ok (.bl true), S) := by
  have lS := D0.lenS hw
  have lR := D0.lenR hm
  have ok : MillOk ss rs := D0.ok (by omega) (by omega)
  obtain ⟨ns, ht⟩ := tables D0 hw hm
  have hT := tab_ok (ns := ns) D0
  have hM : D.lo 0 (millD ss rs) = true := by simp
  have hH : D.lo 0 (.lst (hs.map am)) = true := los_am hs
  have rm : ∀ i, some i ∈ ss.map (·.2) → i.natAbs < 2 ^ 200 := fun i hi => by
    obtain ⟨s, h1, h2⟩ := List.mem_map.mp hi
    have := D0.sr s h1 i h2
    omega
  have rl : (ss.map (·.2)).length ≤ 1000 := by simp; omega
  have hl : hs.length = ss.length := by rw [hh.len]; simp
  have hhd : ∀ S, runF 4 d_is_holdings [tabD w ss rs ns, .lst (hs.map am)] S = some (.ok (.bl true), S) := fun S => by
    rw [holdD (d := .lst (hs.map am)) hT (show dats (hs.map am) = true from dats_am hs) rm rl (fun vs e => by cases e; exact (am_all hh.ams).2), held_hold hh]
  obtain ⟨si, sl, hss⟩ := last_of (l := ss) (by omega)
  obtain ⟨ini, la, hhs⟩ := last_of (l := hs) (by omega)
  have hr : RmOk sl.2 := D0.sr sl (by rw [hss]; simp)
  have od := fun S => oddsD (S := S) (rs := rs) hss hr (by omega) hhs (by omega)
  have oh := oddH_all (rooms := ss.map (·.2)) (ri := si.map (·.2)) (rl := sl.2) hr hhs (by rw [hss]; simp) hh.len (by omega) hh.ams
  have rcs := fun S => recipes2 (ss := ss) (rs := rs) (S := S) (by omega) ok.sides
  have I0 : ∃ o3, ([some (millD ss rs), some (.lst (hs.map am)), some (.str "r"), none, none] : Hy.Env) = [some (millD ss rs), some (.lst (hs.map am)), some (.str "r"), o3, none] := ⟨none, rfl⟩
  obtain ⟨ρ1, S1, e1, rfl, o1, rfl⟩ := loop_all (bd := bN 3) (b := lb_law_refused_2) (fun ρ S' => S' = [] ∧ ∃ o3, ρ = [some (millD ss rs), some (.lst (hs.map am)), some (.str "r"), o3, none]) [.non, .int 3, .lst [], .tup [], .dct [], .str "mill", .bl true, .lst (rs.map rcD)] _ [] ⟨rfl, I0⟩ (by
    rintro d hd _ _ ⟨rfl, o3, rfl⟩
    have hd' : d ∈ ([.non, .int 3, .lst [], .tup [], .dct [], .str "mill", .bl true] : List D) ∨ d = .lst (rs.map rcD) := by
      simp only [List.mem_cons, List.not_mem_nil, or_false] at hd ⊢
      rcases hd with z | z | z | z | z | z | z | z <;> simp [z]
    have q : dat d = true ∧ ∃ z, rpD d = some z ∧ PyData.strOk z = true := by
      rcases hd' with z | rfl
      · have q := List.all_eq_true.mp base_m d z
        rw [Bool.and_eq_true] at q
        exact ⟨q.1, (rpB_of q.2).2⟩
      · exact ⟨D0.datR, D0.rpR (by omega) (by omega)⟩
    obtain ⟨h1, z, h2, h3⟩ := q
    exact ⟨_, _, _, rfl, body2 h1 h2 h3, rfl, _, rfl⟩)
  obtain ⟨ρ2, S2, e2, rfl, o2, rfl⟩ := loop_all (bd := bN 3) (b := lb_law_refused_4) (fun ρ S' => S' = [] ∧ ∃ o3, ρ = [some (millD ss rs), some (.lst (hs.map am)), some (.str "r"), o3, none]) (oddH hs ini sl.2) [some (millD ss rs), some (.lst (hs.map am)), some (.str "r"), o1, none] [] ⟨rfl, _, rfl⟩ (by
    rintro d hd _ _ ⟨rfl, o3, rfl⟩
    exact ⟨_, _, _, rfl, body4 hM ht hT rm rl (oh d hd), rfl, _, rfl⟩)
  obtain ⟨ρ3, S3, e3, rfl, o3, rfl⟩ := loop_all (bd := bN 3) (b := lb_law_refused_6) (fun ρ S' => S' = [] ∧ ∃ o3, ρ = [some (millD ss rs), some (.lst (hs.map am)), some (.str "r"), o3, none]) oddW [some (millD ss rs), some (.lst (hs.map am)), some (.str "r"), o2, none] [] ⟨rfl, _, rfl⟩ (by
    rintro d hd _ _ ⟨rfl, o3, rfl⟩
    exact ⟨_, _, _, rfl, body6 hM hH ht hT hhd (oddW_all hm d hd), rfl, _, rfl⟩)
  have lw : D.lo 0 (.lst oddW) = true := dats_lo _ (dats_of fun d hd => (oddW_all hm d hd).dt)
  have ow : ∀ S, runF 2 d_law_odd_rows [.str "r"] S = some (.ok (.lst oddW), S) := fun S => v_F (S' := []) rfl oddW_run lw
  refine v_Fe (by simp [los_am]) ?_ rfl
  show ∃ S', d_law_refused [some (millD ss rs), some (.lst (hs.map am)), some (.str "r"), none, none] [] = some (.rt (.bl true), S')
  unfold d_law_refused
  refine ex_nx (forA_l (S1 := []) ?_ e1) (ex_nx (forA_l (S1 := []) (call2 rfl rfl (od [])) e2) (ex_nx (forA_l (S1 := []) (call1 rfl (ow [])) e3) ⟨[], ret_d rfl⟩))
  simp [rcs, lk4]
end
end K13
end
section
namespace K13
open PySem PySem.Spec PyProof.Rows L2 L2.Hy He
theorem round {ns : List Int} {i : Nat} (hi : i = 0 ∨ i = 1) {o2 o3 o4 o5 : Option D} {S : Store} (hc : Clo S) :
    ∃ a b c d S', lb_law_1 [some (.scr ns), some (.int (i : Int)), o2, o3, o4, o5, none, none, none] S = some (.nx [some (.scr ns), some (.int (i : Int)), a, b, c, d, none, none, none], S') ∧ Clo S' := by
  obtain ⟨a, b, c, eg, hg⟩ := generator (ns := ns) (i := i) (by omega) (S := S)
  have g0 := gn0 (S := S) (a := a) hg
  have c0 : Clo (S ++ [some (.cl [.int a, .int b, .int c])]) := hc.app rfl
  obtain ⟨r1, S1, r10, r11, e1, g1⟩ := rnd g0 c0 (by omega) (m := 3) (by omega) (by omega)
  obtain ⟨r2, S2, r20, r21, e2, g2⟩ := rnd g1.gn g1.clo (by omega) (m := 3) (by omega) (by omega)
  obtain ⟨w, ew, hw⟩ := nat3 r10 r11
  obtain ⟨m, em, hm⟩ := nat3 r20 r21
  obtain ⟨S3, ss, rs, e3, g3, D0⟩ := millDrawn (w := w) (m := m) g2.gn g2.clo (by omega) hw hm
  have lw := D0.lenS hw
  have lm := D0.lenR hm
  have ok : MillOk ss rs := D0.ok (by omega) (by omega)
  have c4 : Clo (S3 ++ [none]) := g3.clo.app rfl
  obtain ⟨S4, hs, e4, g4, hh⟩ := heldDrawn (ss := ss) D0.sr (by omega) (g3.gn.app [none]) c4 (by omega)
  have e5 := fun S => refusedD (S := S) D0 hw hm hh
  obtain ⟨x0, rt, hrs⟩ : ∃ x0 rt, rs = x0 :: rt := by
    match rs, (show 1 ≤ rs.length by omega) with
    | x0 :: rt, _ => exact ⟨x0, rt, rfl⟩
  have nm : x0.1 = "r" := by
    have := D0.rn
    rw [hrs] at this
    rcases hm with rfl | rfl | rfl <;> exact (List.cons.inj this).1
  obtain ⟨P, hP⟩ : ∃ P, P = D.tup [.lst (ss.map sfD), .lst (rs.map rcD)] := ⟨_, rfl⟩
  have p0 : ∀ S, fIx P (.int 0) S = some (.ok (.lst (ss.map sfD)), S) := fun S => by rw [hP]; simp
  have p1 : ∀ S, fIx P (.int 1) S = some (.ok (.lst (rs.map rcD)), S) := fun S => by rw [hP]; simp
  have p2 : ∀ S, fIx (.lst (rs.map rcD)) (.int 0) S = some (.ok (rcD x0), S) := fun S => by rw [hrs]; simp
  have p3 : ∀ S, fIx (rcD x0) (.int 0) S = some (.ok (.str "r"), S) := fun S => by rw [← nm]; simp [rcD]
  rw [← hP] at e3
  refine ⟨some (.h S.length), some P, some (millD ss rs), some (.lst (hs.map am)), S4, ?_, g4.clo⟩
  unfold lb_law_1
  refine seq_nx (ρ1 := [some (.scr ns), some (.int (i : Int)), some (.h S.length), o3, o4, o5, none, none, none]) (S1 := S ++ [some (.cl [.int a, .int b, .int c])]) (asg_n (i := 2) (x := .h S.length) ?_) ?_
  · rw [v_call]
    exact bind_ok (args2 rfl rfl) eg
  refine seq_nx (ρ1 := [some (.scr ns), some (.int (i : Int)), some (.h S.length), some P, o4, o5, none, none, none]) (S1 := S3) (asg_n (i := 3) (x := P) ?_) ?_
  · simp [e1, e2, ew, em, e3]
  refine seq_nx (ρ1 := [some (.scr ns), some (.int (i : Int)), some (.h S.length), some P, some (millD ss rs), some (.lst (hs.map am)), none, none, none]) (S1 := S4) (par_d (args2 (S1 := S3 ++ [none]) (made ok (S1 := S3) ?_ g3.clo) (call2 (S1 := S3 ++ [none]) (S2 := S3 ++ [none]) rfl ?_ e4))) ?_
  · refine args2 (S1 := S3) ?_ ?_
    · rw [v_d2]
      exact bind_ok rfl (bind_ok rfl (p0 _))
    · rw [v_d2]
      exact bind_ok rfl (bind_ok rfl (p1 _))
  · rw [v_d2]
    exact bind_ok rfl (bind_ok rfl (p0 _))
  refine if_f (S1 := S4) ?_ rfl
  simp [p1, p2, p3, e5]
theorem madeW {ss : List Sf} {rs : List Rc} (h : MillOk ss rs) {ρ : Hy.Env} {S S1 : Store} {dd : AD} (hd : dd ρ S = some (.ok [.lst (rs.map rcD), .lst (ss.map sfD)], S1)) (hc : Clo S1) :
    dFrz (dMakeW "Mill" 2 2 [1, 0] (runC 5 d_Mill_init) dd) ρ S = some (.ok (millD ss rs), S1 ++ [none]) := by
  have hc2 : Clo (S1 ++ [some (.ci "Mill" [])]) := hc.app rfl
  have hn : (S1 ++ [some (.ci "Mill" [])])[S1.length]? = some (some (.ci "Mill" [])) := by simp
  have hn2 : (S1 ++ [some (.ci "Mill" [("_stuffs", .lst (ss.map sfD)), ("_recipes", .lst (rs.map rcD))])])[S1.length]? = some (some (.ci "Mill" [("_stuffs", .lst (ss.map sfD)), ("_recipes", .lst (rs.map rcD))])) := by simp
  have e := init2 h hn hc2
  simp at e
  have mk : dMakeW "Mill" 2 2 [1, 0] (runC 5 d_Mill_init) dd ρ S = some (.ok (.h S1.length), S1 ++ [some (.ci "Mill" [("_stuffs", .lst (ss.map sfD)), ("_recipes", .lst (rs.map rcD))])]) := by
    unfold dMakeW
    rw [v_bind, hd]
    refine (if_pos (c := _ ∧ _) ⟨rfl, rfl⟩).trans ?_
    exact bind_ok e rfl
  simp [v_frz, mk, frz_ci hn2, millD]
def sS : List Sf := [("a", some 2)]
def sR : List Rc := [("r", [("a", 1)], [])]
theorem s_ok : MillOk sS sR := by
  have a : NameOk "a" := nm_in (by simp)
  have r : NameOk "r" := nm_in (by simp)
  refine ⟨by decide, by decide, ?_, by decide, by decide, ?_, by decide⟩
  · intro x hx
    cases List.mem_singleton.mp hx
    exact ⟨a, fun i hi => by cases hi; decide⟩
  · intro x hx
    cases List.mem_singleton.mp hx
    refine ⟨r, ⟨by decide, ?_, by decide⟩, ⟨by decide, ?_, by decide⟩⟩
    · intro p hp
      cases List.mem_singleton.mp hp
      exact ⟨by simp [sS], by decide, by decide⟩
    · intro p hp
      cases hp
def late : D := .lst [.tup [.int 3, .lst [.tup [.str "r", .tup [.int 1, .int 2]]]]]
section
variable {a b c d e f g : Option D} {S : Store}
theorem t_doors : dBool (d2 (fEq true) (dLc false [8] (fun ρ => mbind ((aCons (dC (.int 4)) aNil) ρ) itR1) (bN 8) tdYes ce_law_2) (d2 (fCat false) (d2 (fRepL false) (dLst false (aCons (dLst false (aCons (dC (.int 2)) (aCons (dCB fRepr (aCons (dV 7) aNil)) aNil))) aNil)) (dC (.int 2))) (d2 (fRepL false) (dLst false (aCons (dLst false (aCons (dC (.int 3)) (aCons (dC .non) aNil))) aNil)) (dC (.int 2))))) [a, b, c, d, e, f, some (millD sS sR), some late, g] S = some (.ok false, S) := by kernel_rfl
theorem t_led : dBool (d2 (fEq true) (dCallW 3 3 [2, 1, 0] (runF 3 d_led) (aCons (dV 7) (aCons (dLst false (aCons (dTup (aCons (dC (.int 2)) (aCons (dC (.int 1)) aNil))) aNil)) (aCons (dV 6) aNil)))) (dLst false (aCons (dTup (aCons (dC (.int 1)) (aCons (dC (.int 2)) aNil))) aNil))) [a, b, c, d, e, f, some (millD sS sR), some late, g] S = some (.ok false, S) := by kernel_rfl
theorem t_narrows : dBool (d2 (fEq true) (dCallW 3 3 [2, 1, 0] (runF 3 d_narrows) (aCons (dV 7) (aCons (dLst false (aCons (dTup (aCons (dC (.int 2)) (aCons (dC (.int 1)) aNil))) aNil)) (aCons (dV 6) aNil)))) (dLst false (aCons (dTup (aCons (dTup (aCons (dC (.int 1)) (aCons (dC (.int 2)) aNil))) (aCons (dTup (aCons (dC (.int 2)) (aCons (dC (.int 1)) aNil))) aNil))) aNil))) [a, b, c, d, e, f, some (millD sS sR), some late, g] S = some (.ok false, S) := by kernel_rfl
theorem t_done : dBool (d2 (fEq true) (dCallW 2 2 [1, 0] (runF 3 d_done) (aCons (dV 7) (aCons (dV 6) aNil))) (dLst false (aCons (dTup (aCons (dC (.int 3)) (aCons (dC (.int 2)) aNil))) aNil))) [a, b, c, d, e, f, some (millD sS sR), some late, g] S = some (.ok false, S) := by kernel_rfl
theorem t_row : d2 (fIsB false) (dCallW 3 3 [2, 1, 0] (runF 4 d_is_row) (aCons (dV 7) (aCons (dLst false (aCons (dTup (aCons (dC (.int 2)) (aCons (dC (.int 1)) aNil))) aNil)) (aCons (dV 6) aNil)))) (dC (.bl true)) [a, b, c, d, e, f, some (millD sS sR), some late, g] S = some (.ok (.bl true), S) := by kernel_rfl
theorem t_turned (hc : Clo S) : dBool (d2 (fEqO true "Mill" (runP (runF 2 d_Mill_eq))) (dCallW 1 1 [0] (runF 4 d_turned) (aCons (dV 6) aNil)) (dFrz (dMake "Mill" 3 (runC 5 d_Mill_init) [] (aCons (dLst false (aCons (dTup (aCons (dC (.str "a")) (aCons (dC (.int 2)) aNil))) aNil)) (aCons (dLst false (aCons (dTup (aCons (dC (.str "r")) (aCons (dLst false aNil) (aCons (dLst false (aCons (dTup (aCons (dC (.str "a")) (aCons (dC (.int 1)) aNil))) aNil)) aNil)))) aNil)) aNil))))) [a, b, c, d, e, f, some (millD sS sR), some late, g] S = some (.ok false, S ++ [none]) := by
  have tu := turned (S := S) s_ok
  have mk := made s_ok.swap (ρ := [a, b, c, d, e, f, some (millD sS sR), some late, g]) (S := S) (S1 := S) (dd := (aCons (dLst false (aCons (dTup (aCons (dC (.str "a")) (aCons (dC (.int 2)) aNil))) aNil)) (aCons (dLst false (aCons (dTup (aCons (dC (.str "r")) (aCons (dLst false aNil) (aCons (dLst false (aCons (dTup (aCons (dC (.str "a")) (aCons (dC (.int 1)) aNil))) aNil)) aNil)))) aNil)) aNil))) (by kernel_rfl) hc
  rw [v_bool]
  refine bind_ok (aa := .bl false) (S1 := S ++ [none]) ?_ rfl
  rw [v_d2]
  refine bind_ok (aa := millD sS (sR.map swap)) (S1 := S) ?_ (bind_ok mk ?_)
  · exact tu
  · rw [eqMM s_ok.swap s_ok.swap]
    simp
end
theorem main (ns : List Int) (h : ns.length ≤ 63) : ∃ S', runF 9 d_law [.scr ns] [] = some (.ok (.bl true), S') := by
  refine ⟨[], v_Fe rfl ?_ rfl⟩
  show ∃ S', d_law [some (.scr ns), none, none, none, none, none, none, none, none] [] = some (.rt (.bl true), S')
  obtain ⟨a1, b1, c1, d1, S1, e1, k1⟩ := round (ns := ns) (i := 0) (.inl rfl) (o2 := none) (o3 := none) (o4 := none) (o5 := none) (S := []) rfl
  obtain ⟨a2, b2, c2, d2, S2, e2, k2⟩ := round (ns := ns) (i := 1) (.inr rfl) (o2 := a1) (o3 := b1) (o4 := c1) (o5 := d1) k1
  have k3 : Clo (S2 ++ [none]) := k2.app rfl
  unfold d_law
  refine ex_nx (for_d (bind_ok (args1 rfl) (rg_i (i := 2) (by simp))) (Eq.trans (loop_nx (bd := bN 1) rfl e1) (Eq.trans (loop_nx (bd := bN 1) rfl e2) rfl))) ?_
  refine ex_nx (ρ1 := [some (.scr ns), some (.int 1), a2, b2, c2, d2, some (millD sS sR), none, none]) (S1 := S2 ++ [none]) (asg_n (i := 6) (madeW s_ok (S1 := S2) (by kernel_rfl) k2)) ?_
  refine ex_nx (ρ1 := [some (.scr ns), some (.int 1), a2, b2, c2, d2, some (millD sS sR), some late, none]) (S1 := S2 ++ [none]) (asg_n (i := 7) (x := late) (by kernel_rfl)) ?_
  refine ex_nx (if_f t_doors rfl) (ex_nx (if_f t_led rfl) (ex_nx (if_f t_narrows rfl) ?_))
  refine ex_nx (S1 := S2 ++ [none] ++ [none]) (if_f (S1 := S2 ++ [none] ++ [none]) ?_ rfl) ⟨_, ret_d t_row⟩
  rw [v_tdOr]
  refine bind_ok t_done ?_
  rw [if_neg (by decide)]
  exact t_turned k3
end K13
end
section
open PySem PySem.W PySem.Calls PyProof.Rows
set_option maxRecDepth 100000 in
set_option maxHeartbeats 0 in
theorem PySem.Challenge.cw_millpapers_k13_rows_refused_holds : PySem.Challenge.rw_millpapers_k13_rows_refused.Holds := by
  w_on; o_law
  refine HandSHeadRun.head_imp (r := K13.R) (q := view K13.R.prog [0, 77]) (H := K13.hk) (ob := K13.ob) (M := 20000) (loose := K13.loose) (d := HandSHeadRun.topDef K13.R.prog 77) (kwd := []) K13.ob_eq
    K13.run (by kernel_rfl) (by kernel_rfl) (by kernel_rfl) (by rfl) (by first | assumption | decide +kernel) (by decide +kernel) ⟨rfl, rfl, rfl, rfl, rfl, by decide +kernel⟩ ?hw ?hc
  case hw => w_witness2
  case hc =>
    refine L2.Xv.law_by (l := PySem.Challenge.rw_millpapers_k13_rows_refused) (n := 63) (k := 11) (x := "_law_script") rfl (by decide) (by kernel_rfl) ⟨rfl, by decide, by decide⟩ ?F
    intro w mg fa h Y G hmg0
    obtain ⟨K, KX, c, S⟩ := Y
    have hmg : mg ("law" : PySem.Str) = some (.ref fa) := by
      have e : (HandSHeadRun.topDef K13.R.prog 77).name = ("law" : PySem.Str) := by kernel_rfl
      rw [← e]
      exact hmg0
    obtain ⟨fd, hb, hF⟩ := K13.all_facts (P := (PySem.Challenge.rw_millpapers_k13_rows_refused).prog) (w := w) KX G hmg c S
    exact ⟨K, fd, fun vs H Q _ => L2.Hy.spH K 1 (L2.Hy.runF 9 K13.d_law) vs H Q fun _ _ _ => False, KX, hb, fun H a ns hl hS => L2.Hy.law_sp hS (K13.main ns hl), fun base h1 h2 => (hF base h1 h2).toQ⟩
end
