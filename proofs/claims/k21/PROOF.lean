import PyProof.Rows.All
import Wide.All
import OpenK.AllK
import Wide.FinOn
import HandS.ForMost
import HandS.IsInst
import HandS.Style
import HandS.StrMore
import HandS.ForExc
import HandS.Defaults
import HandS.MakeKwOnly
import HandS.ExcIs
import HandS.TryOnly
import HandS.Deep
import HandS.TupMul
import HandS.TupAny
import HandS.Steps
import HandS.Conv
import HandS.ExcInit
import HandS.ExcField
import HandS.Iter
import HandS.Star
import KE.KExcIs
import HandS.SortKw
import HandS.DictComp
import HandS.More
import HandS.Small
import KE.DatumOrd
import KE.KUnpackStar
import HandS.Flow
import HandS.DictTup
import HandS.Finally
import PySem.Challenge.RW_mouthrules_k21_books_have_worths
set_option Elab.async false
set_option linter.all false
set_option maxRecDepth 100000
set_option maxHeartbeats 1000000
namespace V2
open PySem PySem.Spec PyProof.Rows L2

/-! ### guards: a promise that may lean on no repr being under way -/
abbrev NoG (A : Around) : Prop := A.guards = some []
theorem noG_deeper {A : Around} (h : NoG A) (e : Env) : NoG (A.deeper e) := h
structure FnG (P : Program) (w : World) (K : PySem.W.Frag) (mg : Str → Option Value) (base : Heap) (CX : CXT) (k : Nat) (f : Addr) (fd : FuncData) (ps : List Str) (sp : Sp) : Prop where
  arity : ∀ vs H Q E, sp vs H Q E → vs.length = ps.length
  goes : ∀ (A : Around) (outer : List Env) (s : Shared) (H : Hp) (args : Args) (us : List Value) (vs : List V) (Q : VK) (E : XK), Room k A → NoG A →
    Env0 P w K mg base A outer s H → BindsTo s fd args (ps.zip us) → Vals vs us → sp vs H Q E →
    codeAny (model P w) A (.call (.ref f) args) (CR CX outer P w H s Q E) s
section
variable {P : Program} {w : World} {K : PySem.W.Frag} {mg : Str → Option Value} {base : Heap} {CX : CXT} {k j : Nat} {f : Addr} {fd : FuncData} {ps N : List Str} {sp : Sp}
theorem FnG.of (F : FnOk P w K mg base CX k f fd ps sp) : FnG P w K mg base CX k f fd ps sp :=
  ⟨F.len, fun A outer s H args us vs Q E hr _ he hb hv hs => F.run A outer s H args us vs Q E hr he hb hv hs⟩
theorem FnG.mono (F : FnG P w K mg base CX j f fd ps sp) (h : j ≤ k) : FnG P w K mg base CX k f fd ps sp :=
  ⟨F.arity, fun A outer s H args us vs Q E hr => F.goes A outer s H args us vs Q E (hr.mono h)⟩

/-- a def by its body, where no repr is under way -/
theorem okG {x qual : Str} {st : Stmt} (F : Fun K x qual st f fd) (S : FnScope N ps (defScope st)) (len : ∀ vs H Q E, sp vs H Q E → vs.length = ps.length)
    (body : ∀ (cdv : Value) (A : Around) (outer : List Env) (s : Shared) (H : Hp) (vs : List V) (Q : VK) (E : XK),
      Room k (A.deeper (envOfC qual (defScope st) s.heap.objs.size f cdv)) → NoG A → sp vs H Q E →
      ∃ t, PSs (cxOf CX P w K mg base N qual (defScope st) f cdv A outer s H E) (defBody st) t ∧ t ⟨fun _ H' => Q .non H', Q, fun _ _ => False, fun _ _ => False⟩ (start N vs) H) :
    FnG P w K mg base CX (k + 1) f fd ps sp := by
  obtain ⟨oc, od, kV, doc, pm, an, cdv, ct, osl, rfl, lk, hcd⟩ := F.ex
  constructor
  · exact len
  intro A outer s H args us vs Q E room ng env binds rel promise
  have inK : K.In s.heap := env.mod.kin.keeps fun b o h => (env.bs b o h).1
  have kinds : ∀ y ∈ ps.zip us, (defScope st).names.lookup y.1 = some .local ∨
      ((defScope st).names.lookup y.1 = some .cell ∧ ((cellsFrom (s.heap.objs.size + 1) (defScope st).names []).lookup y.1).isSome = true) := by
    rintro ⟨n, v⟩ mem
    rcases S.par n (List.of_mem_zip mem).1 with loc | cel
    · exact Or.inl loc
    · exact Or.inr ⟨cel, PySem.W.cellsFrom_some _ _ _ (Or.inl cel)⟩
  apply codeAny_call_function room.depth (inK _ _ lk) rfl S.co S.gen rfl (PySem.W.codeRec_of inK hcd)
  apply binds
  apply wpAny_newFunctionEnv_cells S.kind kinds
  intro ev hev s1 x
  subst hev
  refine ⟨?_, codeAny_func ?_⟩
  · have nl : s.heap.NoLimit := env.mod.nolimit.keeps fun b o h => (env.bs b o h).1
    exact nl.keeps x.toInCall.keep
  obtain ⟨t, ht, hq⟩ := body cdv A outer s H vs Q E (room.deeper _) ng promise
  have I := inv_start (CX := CX) (E := E) S room.hd env (len _ _ _ _ promise) rel x
  apply wpAny_mono (ht.run [] s1 (start N vs) H _ I hq)
  · rintro (_ | _ | _ | v) s' hs
    · obtain ⟨σ', H', J, q⟩ := hs
      exact ⟨.non, H', J.os, J.bare, J.base, J.hok, rfl, q⟩
    · obtain ⟨_, _, _, q⟩ := hs
      cases q
    · obtain ⟨_, _, _, q⟩ := hs
      cases q
    · obtain ⟨y, σ', H', J, rv, q⟩ := hs
      exact ⟨y, H', J.os, J.bare, J.base, J.hok, rv, q⟩
  · exact fun e s' hs => hs
end

section
variable {X : Cx} {CX : CXT} {k : Nat} {f : Addr} {fd : FuncData} {ps : List Str} {sp : Sp} {dvs : List V} {ds : List Value} {E : XK} {x : Str} {p pos : Pos} {e : Expr} {es : List Expr} {ta : TE} {t : TA}
theorem runG {pins : List (Addr × Obj)} {σ : L2.St} {H : Hp} {s : Shared} {Q : VK} {us : List Value} {vs : List V} (F : FnG X.prog X.w X.K X.mg X.base CX k f fd ps sp) (hr : Room k X.A) (ng : NoG X.A) (hb : Binds X.K fd ps ds) (hd : Vals dvs ds)
    (hx : Passes CX X E) (I : Inv X pins σ H s) (r : Vals vs us) (h : sp (vs ++ dvs) H Q E) : wpAny (model X.prog X.w) X.A (call (.ref f) us) (EP X pins σ Q) X.xe s := by
  have all : Vals (vs ++ dvs) (us ++ ds) := Vals.append r hd
  have num : (us ++ ds).length = ps.length := all.length.symm.trans (F.arity _ _ _ _ h)
  apply wpAny_call
  apply codeAny_mono (F.goes X.A X.stack s H ⟨us, []⟩ (us ++ ds) (vs ++ dvs) Q E hr ng I.env0 (hb s us I.kIn num) all h)
  rintro (e | (_ | _ | _ | u)) s' q
  · exact hx pins σ H s e s' I q
  · exact q.elim
  · exact q.elim
  · exact q.elim
  · exact I.after q
theorem pe_callG (F : FnG X.prog X.w X.K X.mg X.base CX k f fd ps sp) (hr : Room k X.A) (ng : NoG X.A) (hg : Gl X x) (hm : X.mg x = some (.ref f)) (hk : PySem.W.keepIn X.K (.ref f) = true) (hb : Binds X.K fd ps ds) (hd : Vals dvs ds) (hx : Passes CX X E)
    (ha : PA X (e :: es) t) (hdb : (x == ("__debug__" : Str)) = false := by decide) (he : starEach (e :: es) X.env = (false, eval e X.env) :: starEach es X.env := by rfl)
    (hpl : (backTo pos (starEach es X.env)).any (·.1) = false := by rfl) : PE X (.Call (.Name x p) (e :: es) [] pos) (tCall sp dvs E t) := by
  constructor
  intro pins s σ H Q I h
  apply wpAny_Call_Name_kw
  apply ld_glob I hg hm _ hdb
  apply PySem.W.callWith_K (h₀ := X.base) I.ok.mod.kin hk _ he hpl
  refine thn (ha.run pos pins s σ H _ I h) ?_
  rintro us s1 ⟨vs, H1, I1, r, q⟩
  exact ⟨I1.kIn, runG F hr ng hb hd hx I1 r q⟩
theorem pe_callG0 (F : FnG X.prog X.w X.K X.mg X.base CX k f fd ps sp) (hr : Room k X.A) (ng : NoG X.A) (hg : Gl X x) (hm : X.mg x = some (.ref f)) (hk : PySem.W.keepIn X.K (.ref f) = true) (hb : Binds X.K fd ps ds) (hd : Vals dvs ds) (hx : Passes CX X E)
    (hdb : (x == ("__debug__" : Str)) = false := by decide) : PE X (.Call (.Name x p) [] [] pos) (tCall sp dvs E tNil) := by
  constructor
  intro pins s σ H Q I h
  apply wpAny_Call_Name_kw
  apply ld_glob I hg hm _ hdb
  exact PySem.W.callWith_K0 I.kIn hk (runG (us := []) F hr ng hb hd hx I .nil h)
end

/-! ### the law's end, where no repr is under way -/
def TrueEnd (s₁ : Shared) (r : Result) (s' : Shared) : Prop := r = .ok (.ret (.bool true)) ∧ OldK s₁.heap s'.heap ∧ s'.os = s₁.os ∧ AllBare s'.gens
section
variable {P : Program} {w : World} {K : PySem.W.Frag} {mg mb : Str → Option Value} {CX : CXT} {k : Nat} {fa a : Addr} {fd : FuncData} {x : Str} {sp : Sp} {s₁ : Shared} {vs : List Value} {ns : List Int} {H : Hp}
theorem lawG_at (KX : K.In s₁.heap) (hns : s₁.heap.Ns mainGlobals mg) (hb : s₁.heap.Ns builtinsNs mb) (hbb : ∀ x : Str, x ≠ "__name__" → mb x = bootBuiltins x) (hlim : s₁.heap.NoLimit) (hg : s₁.gens = #[])
    (ha : s₁.heap.get? a = some { cls := .type "list", data := .seq vs.toArray }) (hr : Room k callerA)
    (F : ∀ base : Heap, K.In base → base.Ns mainGlobals mg → FnG P w K mg base CX k fa fd [x] sp) (bind : ∀ (s : Shared) (u : Value), BindsTo s fd ⟨[u], []⟩ [(x, u)])
    (calm : ∀ H e s', CX [] H s₁ (fun _ _ _ => False) e s' → False) (only : Only H) (hok : HOk P w H s₁.heap) (alone : ∀ b, H b ≠ none → b = a) (notK : H a ≠ none → K.lookup a = none)
    (sps : sp [.ref a] H (fun v _ => v = .bl true) fun _ _ _ => False) :
    codeAny (model P w) callerA (.call (.ref fa) ⟨[.ref a], []⟩) (TrueEnd s₁) s₁ := by
  have dictFree : ∀ (b : Addr) (o : Obj) (es : Array DictEntry) (ep : Nat), s₁.heap.get? b = some o → o.data = .dict es ep → H b = none := by
    intro b o es ep e d
    cases q : H b with
    | none => rfl
    | some u =>
      obtain rfl := alone b (by rw [q]; nofun)
      rw [ha] at e
      cases e
      cases d
  have spaces : ∀ (b : Addr) (m : Str → Option Value), s₁.heap.Ns b m → (hidT s₁.heap H).Ns b m := by
    rintro b m ⟨o, es, ep, e, d, r⟩
    exact ⟨o, es, ep, hidT_get e (dictFree b o es ep e d), d, r⟩
  have kb : K.In (hidT s₁.heap H) := by
    intro b o e
    refine hidT_get (KX b o e) ?_
    cases q : H b with
    | none => rfl
    | some u =>
      obtain rfl := alone b (by rw [q]; nofun)
      rw [notK (by rw [q]; nofun)] at e
      cases e
  obtain ⟨mc, l1, l2⟩ := hlim
  have md : Mod K mg (hidT s₁.heap H) := ⟨kb, spaces _ _ hns, ⟨mb, spaces _ _ hb, hbb⟩, ⟨mc, spaces _ _ l1, l2⟩⟩
  have env : Env0 P w K mg (hidT s₁.heap H) callerA [] s₁ H :=
    { frames := rfl, mod := md, bs := fun b o e => of_hidT e, bsz := Nat.le_of_eq (hidT_size _ _), funs := trivial, frf := fun b h => (List.not_mem_nil h).elim, hok := hok, bare := .of_eq hg }
  apply codeAny_mono ((F _ kb (spaces _ _ hns)).goes callerA [] s₁ H ⟨[.ref a], []⟩ [.ref a] [.ref a] _ _ hr rfl env (bind s₁ (.ref a)) (.cons rfl .nil) sps)
  rintro (e | (_ | _ | _ | u)) s' h
  · exact (calm H e s' h).elim
  · exact h.elim
  · exact h.elim
  · exact h.elim
  · obtain ⟨v, H', os, bare, un, hok', rv, q⟩ := h
    obtain rfl : v = .bl true := q
    obtain rfl : u = Value.bool true := rv
    refine ⟨rfl, OldK.of_keep ?_, os, bare⟩
    intro b o e
    rcases only b with z | ⟨ob, xs, z⟩
    · exact un.keep b o e z (fun m => (List.not_mem_nil m).elim) (by simp)
    · have e1 := (hok b _ z).1
      rw [e] at e1
      cases e1
      exact (hok' b _ (un.frzs b _ _ z)).1
theorem lawG (KX : K.In s₁.heap) (hns : s₁.heap.Ns mainGlobals mg) (hb : s₁.heap.Ns builtinsNs mb) (hbb : ∀ x : Str, x ≠ "__name__" → mb x = bootBuiltins x) (hlim : s₁.heap.NoLimit) (hg : s₁.gens = #[])
    (ha : s₁.heap.get? a = some { cls := .type "list", data := .seq vs.toArray }) (hi : IntsAre vs ns) (hl : ns.length ≤ sizeLine) (hr : Room k callerA)
    (F : ∀ base : Heap, K.In base → base.Ns mainGlobals mg → FnG P w K mg base CX k fa fd [x] sp) (bind : ∀ (s : Shared) (u : Value), BindsTo s fd ⟨[u], []⟩ [(x, u)])
    (calm : ∀ H e s', CX [] H s₁ (fun _ _ _ => False) e s' → False)
    (sps : ∀ H : Hp, Only H → SqL K H a (ns.map V.int) → sp [.ref a] H (fun v _ => v = .bl true) fun _ _ _ => False) :
    codeAny (model P w) callerA (.call (.ref fa) ⟨[.ref a], []⟩) (TrueEnd s₁) s₁ := by
  have rv : Vals (ns.map V.int) vs := vals_ints hi
  cases hk : K.lookup a with
  | some o =>
    have e := KX a o hk
    rw [ha] at e
    cases e
    have sq : SqL K (fun _ => none) a (ns.map V.int) := .inr ⟨_, vs.toArray, _, hk, rfl, rfl, rfl, by rw [List.size_toArray, hi.length]; exact hl, rv⟩
    exact lawG_at (H := fun _ => none) KX hns hb hbb hlim hg ha hr F bind calm (fun _ => .inl rfl) (fun b u z => nomatch z) (fun b z => absurd rfl z) (fun z => absurd rfl z) (sps _ (fun _ => .inl rfl) sq)
  | none =>
    let o : Obj := { cls := .type "list", data := .seq vs.toArray }
    let H : Hp := fun b => if b = a then some (.frz o (.lst (ns.map V.int))) else none
    have at_a : H a = some (.frz o (.lst (ns.map V.int))) := if_pos rfl
    have off : ∀ b, b ≠ a → H b = none := fun b hb => if_neg hb
    have on : Only H := fun b => by
      by_cases q : b = a
      · rw [q]; exact .inr ⟨_, _, at_a⟩
      · exact .inl (off b q)
    refine lawG_at (H := H) KX hns hb hbb hlim hg ha hr F bind calm on ?_ (fun b z => ?_) (fun _ => hk) (sps H on (.inl (.inr ⟨o, at_a⟩)))
    · intro b u z
      by_cases q : b = a
      · subst q
        rw [at_a] at z
        cases z
        exact ⟨ha, by rw [List.length_map]; exact hl, vs, _, rv, ha⟩
      · rw [off b q] at z
        cases z
    · by_cases q : b = a
      · exact q
      · exact absurd (off b q) z
end
/-- the goal that the head leaves, from a promise that leans on no repr being under way -/
theorem walkG {l : PySem.W.OpenLaw} {n k : Nat} {q : Program} {loose : List Str} {XP : (Str → Option Value) → Heap → Prop} {YP : World → Heap → Prop} {d : DefRec} {K : Params → PySem.W.Frag} {CX : World → CXT} {sp : World → Sp} {x : Str}
    (hn : l.most = some n) (hn2 : n ≤ sizeLine) (hdf : d.params.defaults = []) (hr : Room k callerA) (hY : ∀ (w : World) (h : Heap), YP w h → (K w.params).In h)
    (F : ∀ (w : World) (mg : Str → Option Value) (fa : Addr) (h : Heap), (K w.params).In h → h.Ns mainGlobals mg → mg d.name = some (.ref fa) →
      ∃ fd : FuncData, (∀ (s : Shared) (u : Value), BindsTo s fd ⟨[u], []⟩ [(x, u)]) ∧
        ∀ base : Heap, (K w.params).In base → base.Ns mainGlobals mg → FnG l.prog w (K w.params) mg base (CX w) k fa fd [x] (sp w))
    (sps : ∀ (w : World) (H : Hp) (a : Addr) (ns : List Int), ns.length ≤ n → Only H → SqL (K w.params) H a (ns.map V.int) → sp w [.ref a] H (fun v _ => v = .bl true) fun _ _ _ => False)
    (calm : ∀ (w : World) (H : Hp) (s : Shared) (e : Value) (s' : Shared), CX w [] H s (fun _ _ _ => False) e s' → False) :
    PySem.W.WalkO q loose XP YP l.row.toRowW d [] (fun f vs => PySem.call f vs) := by
  apply Att.attach_call hn hdf
  intro w s₀ s₁ mg mb fa o pm cd doc a vs ns G Y ho hd hcd hmg hobj hints hlen hg
  have KX := hY w _ Y
  obtain ⟨fd, hb, hF⟩ := F w mg fa _ KX G.T.g hmg
  exact lawG KX G.T.g G.T.b G.T.builtins G.T.nolimit hg hobj hints (Nat.le_trans hlen hn2) hr hF hb (fun H e s' => calm w H s₁ e s') (fun H hO hS => sps w H a ns hlen hO hS)
end V2

set_option Elab.async false
set_option linter.all false
set_option maxRecDepth 100000
set_option maxHeartbeats 1000000
namespace V2
open PySem PySem.Spec PyProof.Rows L2

/-! ### deep data on the tracked heap -/
def keyD : Key → PyData
  | .inl i => .int i
  | .inr x => .str x
mutual
inductive Dt (K : PySem.W.Frag) (H : Hp) : V → PyData → Prop
  | non : Dt K H .non .none
  | bl (b : Bool) : Dt K H (.bl b) (.bool b)
  | int (i : Int) : Dt K H (.int i) (.int i)
  | str (x : Str) : Dt K H (.str x) (.str x)
  | lst {a : Addr} {xs : List V} {ds : List PyData} : H a = some (.lst xs) → DtAll K H xs ds → Dt K H (.ref a) (.list ds)
  | tup {a : Addr} {xs : List V} {ds : List PyData} : SqT K H a xs → DtAll K H xs ds → Dt K H (.ref a) (.tuple ds)
  | dct {a : Addr} {kvs : List (Key × V)} {ds : List (PyData × PyData)} : H a = some (.dK kvs) → DtKv K H kvs ds → Dt K H (.ref a) (.dict ds)
inductive DtAll (K : PySem.W.Frag) (H : Hp) : List V → List PyData → Prop
  | nil : DtAll K H [] []
  | cons {v : V} {vs : List V} {d : PyData} {ds : List PyData} : Dt K H v d → DtAll K H vs ds → DtAll K H (v :: vs) (d :: ds)
inductive DtKv (K : PySem.W.Frag) (H : Hp) : List (Key × V) → List (PyData × PyData) → Prop
  | nil : DtKv K H [] []
  | cons {k : Key} {v : V} {vs : List (Key × V)} {d : PyData} {ds : List (PyData × PyData)} : Dt K H v d → DtKv K H vs ds → DtKv K H ((k, v) :: vs) ((keyD k, d) :: ds)
end
theorem sqT_same {K : PySem.W.Frag} {H H' : Hp} (e : Same H H') {a : Addr} {xs : List V} (h : SqT K H a xs) : SqT K H' a xs := by
  rcases h with (h | ⟨o, h⟩) | h
  · exact .inl (.inl (e _ _ h))
  · exact .inl (.inr ⟨o, e _ _ h⟩)
  · exact .inr h
section
variable {K : PySem.W.Frag} {H H' : Hp}
mutual
theorem Dt.ext (e : Same H H') : ∀ (d : PyData) (v : V), Dt K H v d → Dt K H' v d
  | .none, _, .non => .non
  | .bool _, _, .bl b => .bl b
  | .int _, _, .int i => .int i
  | .str _, _, .str x => .str x
  | .list ds, _, .lst h q => .lst (e _ _ h) (DtAll.ext e ds _ q)
  | .tuple ds, _, .tup h q => .tup (sqT_same e h) (DtAll.ext e ds _ q)
  | .dict ds, _, .dct h q => .dct (e _ _ h) (DtKv.ext e ds _ q)
theorem DtAll.ext (e : Same H H') : ∀ (ds : List PyData) (vs : List V), DtAll K H vs ds → DtAll K H' vs ds
  | [], _, .nil => .nil
  | d :: ds, _, .cons h q => .cons (Dt.ext e d _ h) (DtAll.ext e ds _ q)
theorem DtKv.ext (e : Same H H') : ∀ (ds : List (PyData × PyData)) (vs : List (Key × V)), DtKv K H vs ds → DtKv K H' vs ds
  | [], _, .nil => .nil
  | (_, d) :: ds, _, .cons h q => .cons (Dt.ext e d _ h) (DtKv.ext e ds _ q)
end
mutual
theorem Dt.dp : ∀ (d : PyData) (v : V), d.hasDict = false → Dt K H v d → Dp K H v d
  | .none, _, _, .non => .non
  | .bool _, _, _, .bl b => .bl b
  | .int _, _, _, .int i => .int i
  | .str _, _, _, .str x => .str x
  | .list ds, _, n, .lst h q => .lst (.inl (.inl h)) (DtAll.dp ds _ (by simpa only [PyData.hasDict] using n) q)
  | .tuple ds, _, n, .tup h q => .tup h (DtAll.dp ds _ (by simpa only [PyData.hasDict] using n) q)
  | .dict ds, _, n, .dct h q => by simp [PyData.hasDict] at n
theorem DtAll.dp : ∀ (ds : List PyData) (vs : List V), PyData.hasDictAll ds = false → DtAll K H vs ds → DpAll K H vs ds
  | [], _, _, .nil => .nil
  | d :: ds, _, n, .cons h q => by
    simp only [PyData.hasDictAll, Bool.or_eq_false_iff] at n
    exact .cons (Dt.dp d _ n.1 h) (DtAll.dp ds _ n.2 q)
end
theorem DtAll.length : ∀ {vs : List V} {ds : List PyData}, DtAll K H vs ds → vs.length = ds.length
  | _, _, .nil => rfl
  | _, _, .cons _ q => congrArg (· + 1) q.length
theorem DtAll.get : ∀ {vs : List V} {ds : List PyData} {i : Nat} {d : PyData}, DtAll K H vs ds → ds[i]? = some d → ∃ v, vs[i]? = some v ∧ Dt K H v d
  | _, _, i, d, .nil, h => by simp at h
  | _, _, 0, d, .cons h _, e => by simp at e; subst e; exact ⟨_, rfl, h⟩
  | _, _, i + 1, d, .cons _ q, e => by
    obtain ⟨v, h1, h2⟩ := DtAll.get (i := i) (d := d) q (by simpa using e)
    exact ⟨v, by simpa using h1, h2⟩
theorem DtAll.append : ∀ {vs us : List V} {ds es : List PyData}, DtAll K H vs ds → DtAll K H us es → DtAll K H (vs ++ us) (ds ++ es)
  | _, _, _, _, .nil, s => s
  | _, _, _, _, .cons r t, s => .cons r (DtAll.append t s)
theorem DtAll.take : ∀ {vs : List V} {ds : List PyData} (n : Nat), DtAll K H vs ds → DtAll K H (vs.take n) (ds.take n)
  | _, _, 0, _ => .nil
  | _, _, _ + 1, .nil => .nil
  | _, _, n + 1, .cons r t => .cons r (DtAll.take n t)
theorem DtAll.drop : ∀ {vs : List V} {ds : List PyData} (n : Nat), DtAll K H vs ds → DtAll K H (vs.drop n) (ds.drop n)
  | _, _, 0, r => r
  | _, _, _ + 1, .nil => .nil
  | _, _, n + 1, .cons _ t => DtAll.drop n t
theorem DtAll.reverse : ∀ {vs : List V} {ds : List PyData}, DtAll K H vs ds → DtAll K H vs.reverse ds.reverse
  | _, _, .nil => .nil
  | _, _, .cons r t => by
    rw [List.reverse_cons, List.reverse_cons]
    exact DtAll.append (DtAll.reverse t) (.cons r .nil)
end

/-! ### repr of data -/
mutual
def wt : PyData → Nat
  | .none => 10
  | .bool _ => 10
  | .int i => ((toString i : String) : Str).length + 10
  | .str x => (reprText x).length + 10
  | .list xs => wts xs + 10
  | .tuple xs => wts xs + 10
  | .dict _ => 0
def wts : List PyData → Nat
  | [] => 0
  | x :: xs => wt x + 2 + wts xs
end
theorem textFrom_len_le : ∀ (ts : List Str) (k : Nat) (acc : Str), (textFrom k acc ts).length ≤ acc.length + piled ts
  | [], _, _ => Nat.le_add_right _ _
  | t :: r, k, acc => by
    have h := textFrom_len_le r (k + 1) (acc ++ (if k > 0 then ", " else "" : String) ++ t)
    have e : (acc ++ (if k > 0 then ", " else "" : String) ++ t).length = acc.length + (if k > 0 then 2 else 0) + t.length := by
      rw [strLen_append, strLen_append]
      by_cases q : k > 0
      · rw [if_pos q, if_pos q]; rfl
      · rw [if_neg q, if_neg q]; rfl
    have p : piled (t :: r) = t.length + 2 + piled r := by simp [piled]
    show (textFrom (k + 1) _ r).length ≤ _
    have z : (if k > 0 then 2 else 0) ≤ 2 := by split <;> omega
    omega
theorem join_le (ts : List Str) : (Str.join ", " ts).length ≤ piled ts := by
  by_cases h : ts = []
  · subst h; exact Nat.zero_le _
  · have q := join_length_add ts h
    omega
mutual
theorem wt_le : ∀ d : PyData, d.hasDict = false → d.shown.length ≤ wt d
  | .none, _ => by simp only [PyData.shown, wt]; decide
  | .bool b, _ => by cases b <;> (simp only [PyData.shown, wt]; decide)
  | .int i, _ => by simp only [PyData.shown, wt]; omega
  | .str x, _ => by simp only [PyData.shown, wt]; omega
  | .list xs, h => by
    have q := wts_le xs (by simpa only [PyData.hasDict] using h)
    simp only [PyData.shown, wt]
    have e := textFrom_len_le (PyData.shownAll xs) 0 "["
    have e2 : (listText (PyData.shownAll xs)).length = (textFrom 0 "[" (PyData.shownAll xs)).length + 1 := by
      unfold listText
      rw [strLen_append]; rfl
    have e3 : (("[" : String) : Str).length = 1 := rfl
    omega
  | .tuple xs, h => by
    have q := wts_le xs (by simpa only [PyData.hasDict] using h)
    simp only [PyData.shown, wt]
    have e := join_le (PyData.shownAll xs)
    have e2 : (tupleText (PyData.shownAll xs)).length ≤ 1 + (Str.join ", " (PyData.shownAll xs)).length + 2 := by
      unfold tupleText
      rw [strLen_append, strLen_append]
      by_cases q : ((PyData.shownAll xs).length == 1) = true
      · rw [if_pos q]; exact Nat.le_refl _
      · rw [if_neg q]; exact Nat.le_succ _
    omega
  | .dict _, h => by simp [PyData.hasDict] at h
theorem wts_le : ∀ ds : List PyData, PyData.hasDictAll ds = false → piled (PyData.shownAll ds) ≤ wts ds
  | [], _ => by simp [PyData.shownAll, piled, wts]
  | d :: ds, h => by
    simp only [PyData.hasDictAll, Bool.or_eq_false_iff] at h
    have q1 := wt_le d h.1
    have q2 := wts_le ds h.2
    simp only [PyData.shownAll, wts]
    have p : piled (d.shown :: PyData.shownAll ds) = d.shown.length + 2 + piled (PyData.shownAll ds) := by simp [piled]
    omega
end
def flat : PyData → Bool
  | .none | .bool _ | .int _ | .str _ => true
  | _ => false
def flatKv : List (PyData × PyData) → Bool
  | [] => true
  | (_, d) :: r => flat d && flatKv r
theorem reads_kv {P : Program} {w : World} {K : PySem.W.Frag} {H : Hp} {h : Heap} : ∀ (ds : List (PyData × PyData)) (kvs : List (Key × V)) (vs : List (Key × Value)) (es : List DictEntry), DtKv K H kvs ds → flatKv ds = true → KV kvs vs → Pairs (mixKind P w) es vs →
    ReadsAll h (es.map (·.key)) (ds.map (·.1)) [] ∧ ReadsAll h (es.map (·.val)) (ds.map (·.2)) [] := by
  intro ds
  induction ds with
  | nil =>
    intro kvs vs es hd _ r ps
    cases hd
    cases r
    cases ps
    exact ⟨.nil, .nil⟩
  | cons d0 ds ih =>
    intro kvs vs es hd f r ps
    cases hd with
    | cons hd t =>
      rename_i k v vs1 d
      cases r with
      | cons r rt =>
        cases ps with
        | cons hk hv ps =>
          rename_i r0 rs e es
          simp only [flatKv, Bool.and_eq_true] at f
          obtain ⟨h1, h2⟩ := ih _ _ _ t f.2 rt ps
          obtain ⟨ek, ev⟩ := r
          have hk' : keyIs r0.1 e.key = true := hk
          have ek' : k = r0.1 := ek
          have ev' : RelV v r0.2 := ev
          rw [← ek'] at hk'
          refine ⟨?_, ?_⟩
          · rcases keyIs_shape hk' with ⟨i, u, e1, e2⟩ | ⟨x, u, e1, e2⟩
            · subst e1
              show ReadsAll h (e.key :: _) (keyD (.inl i) :: _) ([] ++ [])
              rw [e2]
              exact .cons (.int i u) h1
            · subst e1
              show ReadsAll h (e.key :: _) (keyD (.inr x) :: _) ([] ++ [])
              rw [e2]
              exact .cons (.str x u) h1
          · show ReadsAll h (e.val :: _) (d :: _) ([] ++ [])
            rw [hv]
            refine .cons ?_ h2
            cases hd with
            | non => rw [show r0.2 = Value.none from ev']; exact .none
            | bl b => rw [show r0.2 = Value.bool b from ev']; exact .bool b
            | int i => obtain ⟨u, e⟩ := ev'; rw [e]; exact .int i u
            | str x => obtain ⟨u, e⟩ := ev'; rw [e]; exact .str x u
            | lst _ _ => simp [flat] at f
            | tup _ _ => simp [flat] at f
            | dct _ _ => simp [flat] at f
def rReprD (K : PySem.W.Frag) : List V → Hp → VK → Prop := fun xs H Q => ∃ (x : V) (d : PyData), xs = [x] ∧ Dt K H x d ∧ d.hasDict = false ∧ d.showable = true ∧ d.depth ≤ 60 ∧ wt d ≤ 1000000 ∧ Q (.str d.shown) H
def rReprK (K : PySem.W.Frag) : List V → Hp → VK → Prop := fun xs H Q => ∃ (x : V) (ds : List (PyData × PyData)), xs = [x] ∧ Dt K H x (.dict ds) ∧ flatKv ds = true ∧ PyData.showable (.dict ds) = true ∧ PyData.depth (.dict ds) ≤ 60 ∧ (PyData.shown (.dict ds)).length ≤ 1000000 ∧ Q (.str (PyData.shown (.dict ds))) H
def rRepr (K : PySem.W.Frag) : List V → Hp → VK → Prop := fun xs H Q => rReprD K xs H Q ∨ rReprK K xs H Q
theorem call_reprK {X : Cx} (ng : NoG X.A) (hu : X.A.units + 64 < cLine) : CallR X (.builtin "repr") (rReprK X.K) := by
  intro pins s σ H xs us Q I r h
  obtain ⟨x, ds, rfl, hd, fl, sh, dp, hw, q⟩ := h
  obtain ⟨u, rfl, ru⟩ := vals1 r
  cases hd with
  | dct ha hk =>
    rename_i a kvs
    cases ru
    obtain ⟨_, nsys, vs, rv, o, es, ep, hget, hex, hdat, _, hp, _⟩ := (show ObjOk X.prog X.w H s.heap a (.dK kvs) from I.hok a _ ha)
    obtain ⟨h1, h2⟩ := reads_kv (h := s.heap) _ _ _ _ hk fl rv hp
    have rd : Reads s.heap (.ref a) (.dict ds) (a :: [] ++ []) := .dict hget hex.1 hdat h1 h2
    refine repr_of_reads' rd sh (fun _ m => ?_) ng (by omega) (fun _ _ e => e) (fun h' u tk hk => ⟨.str _, H, I.kept hk, ⟨_, rfl⟩, q⟩) (Nat.le_trans hw (by decide))
    have e : sysModules = a := by simpa using m
    rw [e] at nsys
    simp at nsys
theorem call_repr {X : Cx} (ng : NoG X.A) (hu : X.A.units + 64 < cLine) : CallR X (.builtin "repr") (rRepr X.K) := by
  intro pins s σ H xs us Q I r h
  rcases h with h | h
  case inr => exact call_reprK ng hu pins s σ H xs us Q I r h
  obtain ⟨x, d, rfl, hd, nd, sh, dp, hw, q⟩ := h
  obtain ⟨u, rfl, ru⟩ := vals1 r
  have hz : d.shown.length ≤ sizeLine := Nat.le_trans (wt_le d nd) (Nat.le_trans hw (by decide))
  obtain ⟨as, rd⟩ := Dp.reads I d x u (Dt.dp d x nd hd) ru
  cases hd with
  | non => cases ru; exact PySem.P.repr_of_none ⟨.str _, H, I.tok _, ⟨_, rfl⟩, q⟩
  | bl b => cases ru; exact PySem.P.repr_of_bool ⟨.str _, H, I.tok _, ⟨_, rfl⟩, (by cases b <;> exact q)⟩
  | int i =>
    obtain ⟨t, rfl⟩ := ru
    exact PySem.P.repr_of_int (of_decide_eq_true sh) ⟨.str _, H, I.tok _, ⟨_, rfl⟩, q⟩
  | str y =>
    obtain ⟨t, rfl⟩ := ru
    exact PySem.P.repr_of_str ⟨.str _, H, I.tok _, ⟨_, rfl⟩, q⟩ hz
  | lst _ _ =>
    cases ru
    exact repr_of_reads' rd sh (PyData.noDict_hsm nd) ng (by omega) (fun _ _ e => e) (fun h' u tk hk => ⟨.str _, H, I.kept hk, ⟨_, rfl⟩, q⟩) hz
  | tup _ _ =>
    cases ru
    exact repr_of_reads' rd sh (PyData.noDict_hsm nd) ng (by omega) (fun _ _ e => e) (fun h' u tk hk => ⟨.str _, H, I.kept hk, ⟨_, rfl⟩, q⟩) hz
  | dct _ _ => simp [PyData.hasDict] at nd
end V2

set_option Elab.async false
set_option linter.all false
set_option maxRecDepth 100000
set_option maxHeartbeats 1000000
namespace V2
open PySem PySem.Spec PyProof.Rows L2

/-! ### worlds: what may change (M) and what stays true of it (J) -/
structure Wd where
  M : Addr → Prop
  J : Hp → Prop
  live : ∀ H a, J H → M a → H a ≠ none
  loc : ∀ H H', (∀ a, M a → H' a = H a) → J H → J H'
noncomputable def hid (M : Addr → Prop) (H : Hp) : Hp := open Classical in fun a => if M a then none else H a
theorem hid_in {M : Addr → Prop} {H : Hp} {a : Addr} (h : M a) : hid M H a = none := by unfold hid; rw [if_pos h]
theorem hid_out {M : Addr → Prop} {H : Hp} {a : Addr} (h : ¬ M a) : hid M H a = H a := by unfold hid; rw [if_neg h]
theorem hid_le {M : Addr → Prop} {H : Hp} : Same (hid M H) H := fun a o e => by
  by_cases h : M a
  · rw [hid_in h] at e; cases e
  · rw [hid_out h] at e; exact e
/-- from H to H': all that may not change stands, and what may is as it must be -/
structure Fr (W : Wd) (H H' : Hp) : Prop where
  keep : ∀ a o, ¬ W.M a → H a = some o → H' a = some o
  j : W.J H'
section
variable {W : Wd} {H H1 H2 : Hp} {K : PySem.W.Frag}
theorem Fr.refl (j : W.J H) : Fr W H H := ⟨fun _ _ _ e => e, j⟩
theorem Fr.trans (a : Fr W H H1) (b : Fr W H1 H2) : Fr W H H2 := ⟨fun x o n e => b.keep x o n (a.keep x o n e), b.j⟩
theorem Wd.fresh (j : W.J H) {p : Addr} (h : H p = none) : ¬ W.M p := fun m => W.live H p j m h
theorem Fr.new (j : W.J H) {p : Addr} {o : HO} (h : H p = none) : Fr W H (upd H p o) :=
  ⟨fun a u _ e => by rw [upd_ne (ne_of_none e h)]; exact e, W.loc H _ (fun a m => upd_ne fun z => W.fresh j h (z ▸ m)) j⟩
theorem Fr.same (f : Fr W H H1) : Same (hid W.M H) (hid W.M H1) := fun a o e => by
  by_cases m : W.M a
  · rw [hid_in m] at e; cases e
  · rw [hid_out m] at e ⊢; exact f.keep a o m e
theorem Fr.of_same (s : Same H H1) (j : W.J H1) : Fr W H H1 := ⟨fun a o _ e => s a o e, j⟩
theorem hid_new (j : W.J H) {p : Addr} {o : HO} (h : H p = none) : hid W.M (upd H p o) p = some o := by
  rw [hid_out (W.fresh j h), upd_same]
end
/-- one more address that may change, as φ tells -/
def Wd.add (W : Wd) (D : Addr) (φ : HO → Prop) : Wd where
  M a := W.M a ∨ a = D
  J H := W.J H ∧ ∃ u, H D = some u ∧ φ u
  live H a j m := m.elim (W.live H a j.1) fun e => by
    obtain ⟨u, h, _⟩ := j.2
    rw [e, h]
    nofun
  loc H H' e j := ⟨W.loc H H' (fun a m => e a (.inl m)) j.1, by rw [e D (.inr rfl)]; exact j.2⟩
section
variable {W : Wd} {H H' : Hp} {K : PySem.W.Frag} {D : Addr} {u' : HO} {φ ψ : HO → Prop}
theorem Fr.add (f : Fr W H H') (hD : H' D = some u') (hp : φ u') : Fr (W.add D φ) H H' := ⟨fun a o n e => f.keep a o (fun m => n (.inl m)) e, f.j, u', hD, hp⟩
theorem Fr.drop (f : Fr (W.add D φ) H H') (h : H D = none) : Fr W H H' := ⟨fun a o n e => f.keep a o (fun m => m.elim n fun z => by rw [z, h] at e; cases e) e, f.j.1⟩
end

/-! ### data whose tuples are all tracked (keys of dicts) -/
mutual
inductive Tk (H : Hp) : V → PyData → Prop
  | non : Tk H .non .none
  | bl (b : Bool) : Tk H (.bl b) (.bool b)
  | int (i : Int) : Tk H (.int i) (.int i)
  | str (x : Str) : Tk H (.str x) (.str x)
  | lst {a : Addr} {xs : List V} {ds : List PyData} : H a = some (.lst xs) → TkAll H xs ds → Tk H (.ref a) (.list ds)
  | tup {a : Addr} {xs : List V} {ds : List PyData} : H a = some (.tup xs) → TkAll H xs ds → Tk H (.ref a) (.tuple ds)
inductive TkAll (H : Hp) : List V → List PyData → Prop
  | nil : TkAll H [] []
  | cons {v : V} {vs : List V} {d : PyData} {ds : List PyData} : Tk H v d → TkAll H vs ds → TkAll H (v :: vs) (d :: ds)
end
section
variable {K : PySem.W.Frag} {H H' : Hp}
mutual
theorem Tk.ext (e : Same H H') : ∀ (d : PyData) (v : V), Tk H v d → Tk H' v d
  | .none, _, .non => .non
  | .bool _, _, .bl b => .bl b
  | .int _, _, .int i => .int i
  | .str _, _, .str x => .str x
  | .list ds, _, .lst h q => .lst (e _ _ h) (TkAll.ext e ds _ q)
  | .tuple ds, _, .tup h q => .tup (e _ _ h) (TkAll.ext e ds _ q)
theorem TkAll.ext (e : Same H H') : ∀ (ds : List PyData) (vs : List V), TkAll H vs ds → TkAll H' vs ds
  | [], _, .nil => .nil
  | d :: ds, _, .cons h q => .cons (Tk.ext e d _ h) (TkAll.ext e ds _ q)
end
mutual
theorem Tk.dt : ∀ (d : PyData) (v : V), Tk H v d → Dt K H v d
  | .none, _, .non => .non
  | .bool _, _, .bl b => .bl b
  | .int _, _, .int i => .int i
  | .str _, _, .str x => .str x
  | .list ds, _, .lst h q => .lst h (TkAll.dt ds _ q)
  | .tuple ds, _, .tup h q => .tup (.inl (.inl h)) (TkAll.dt ds _ q)
theorem TkAll.dt : ∀ (ds : List PyData) (vs : List V), TkAll H vs ds → DtAll K H vs ds
  | [], _, .nil => .nil
  | d :: ds, _, .cons h q => .cons (Tk.dt d _ h) (TkAll.dt ds _ q)
end
end
/-! ### what a value is -/
/-- what is seen of a value, and stays so as long as what stands stays -/
structure Vis where
  r : V → Hp → Prop
  ext : ∀ v H H', Same H H' → r v H → r v H'
inductive A where
  | d (x : PyData)
  | v (x : V)
  /-- a list of whole numbers that is only read (the script) -/
  | s (ns : List Int)
  /-- a value x, and beside it what is known of others that an object of ours holds -/
  | w (x : V) (vs : List V) (ds : List PyData)
  /-- data whose tuples are all tracked -/
  | t (x : PyData)
  /-- whatever else is seen -/
  | o (R : Vis)
def Is (K : PySem.W.Frag) (M : Addr → Prop) (H : Hp) (v : V) : A → Prop
  | .d x => Dt K (hid M H) v x
  | .v x => v = x
  | .s ns => ∃ a, v = .ref a ∧ SqL K (hid M H) a (ns.map V.int)
  | .w x vs ds => v = x ∧ DtAll K (hid M H) vs ds
  | .t x => Tk (hid M H) v x
  | .o R => R.r v (hid M H)
abbrev Env := List (Option A)
structure StOk (K : PySem.W.Frag) (M : Addr → Prop) (H : Hp) (σ : L2.St) (Δ : Env) : Prop where
  len : σ.length = Δ.length
  get : ∀ (i : Nat) (a : A), Δ[i]? = some (some a) → ∃ v, σ[i]? = some (some v) ∧ Is K M H v a
section
variable {W : Wd} {H H' : Hp} {K : PySem.W.Frag} {v : V} {a : A} {σ : L2.St} {Δ : Env} {M M' : Addr → Prop}
theorem Is.ext (s : Same (hid M H) (hid M' H')) (h : Is K M H v a) : Is K M' H' v a := by
  cases a with
  | d x => exact Dt.ext s x v h
  | v x => exact h
  | s ns =>
    obtain ⟨b, e, q⟩ := h
    exact ⟨b, e, Same.seq s q⟩
  | w x vs ds => exact ⟨h.1, DtAll.ext s _ _ h.2⟩
  | t x => exact Tk.ext s x v h
  | o R => exact R.ext _ _ _ s h
theorem Is.fr (f : Fr W H H') (h : Is K W.M H v a) : Is K W.M H' v a := h.ext f.same
theorem StOk.ext (s : Same (hid M H) (hid M' H')) (h : StOk K M H σ Δ) : StOk K M' H' σ Δ :=
  ⟨h.len, fun i a e => let ⟨v, h1, h2⟩ := h.get i a e; ⟨v, h1, h2.ext s⟩⟩
theorem StOk.fr (f : Fr W H H') (h : StOk K W.M H σ Δ) : StOk K W.M H' σ Δ := h.ext f.same
theorem StOk.set (h : StOk K M H σ Δ) (i : Nat) (hv : Is K M H v a) : StOk K M H (σ.set i (some v)) (Δ.set i (some a)) := by
  refine ⟨by rw [List.length_set, List.length_set]; exact h.len, fun j b e => ?_⟩
  by_cases q : i = j
  · subst q
    by_cases l : i < Δ.length
    · rw [List.getElem?_set_self l] at e
      cases e
      exact ⟨v, List.getElem?_set_self (by rw [h.len]; exact l), hv⟩
    · rw [List.getElem?_eq_none (by rw [List.length_set]; omega)] at e
      cases e
  · rw [List.getElem?_set_ne q] at e
    obtain ⟨w, h1, h2⟩ := h.get j b e
    exact ⟨w, by rw [List.getElem?_set_ne q]; exact h1, h2⟩
theorem StOk.unset (h : StOk K M H σ Δ) (i : Nat) (o : Option V) : StOk K M H (σ.set i o) (Δ.set i none) := by
  refine ⟨by rw [List.length_set, List.length_set]; exact h.len, fun j b e => ?_⟩
  by_cases q : i = j
  · subst q
    by_cases l : i < Δ.length
    · rw [List.getElem?_set_self l] at e; cases e
    · rw [List.getElem?_eq_none (by rw [List.length_set]; omega)] at e; cases e
  · rw [List.getElem?_set_ne q] at e
    obtain ⟨w, h1, h2⟩ := h.get j b e
    exact ⟨w, by rw [List.getElem?_set_ne q]; exact h1, h2⟩
end
def wipeE (Δ : Env) : List Nat → Env
  | [] => Δ
  | v :: vs => (wipeE Δ vs).set v none
theorem StOk.wipe {K : PySem.W.Frag} {M : Addr → Prop} {H : Hp} {σ : L2.St} {Δ : Env} (h : StOk K M H σ Δ) : ∀ vs, StOk K M H (L2.wipe σ vs) (wipeE Δ vs)
  | [] => h
  | v :: vs => StOk.unset (StOk.wipe h vs) v none
/-- adding a new address hides nothing that stood -/
theorem StOk.add {K : PySem.W.Frag} {W : Wd} {H : Hp} {σ : L2.St} {Δ : Env} {D : Addr} {u : HO} {φ : HO → Prop} (j : W.J H) (h : StOk K W.M H σ Δ) (n : H D = none) : StOk K (W.add D φ).M (upd H D u) σ Δ :=
  h.ext fun a o e => by
    by_cases m : W.M a
    · rw [hid_in m] at e; cases e
    · rw [hid_out m] at e
      have q : a ≠ D := ne_of_none e n
      have q' : ¬ (W.add D φ).M a := fun z => z.elim m q
      rw [hid_out q', upd_ne q]
      exact e
theorem Is.add {K : PySem.W.Frag} {W : Wd} {H : Hp} {v : V} {a : A} {D : Addr} {u : HO} {φ : HO → Prop} (h : Is K W.M H v a) (n : H D = none) : Is K (W.add D φ).M (upd H D u) v a :=
  h.ext fun b o e => by
    by_cases m : W.M b
    · rw [hid_in m] at e; cases e
    · rw [hid_out m] at e
      have q : b ≠ D := ne_of_none e n
      rw [hid_out (fun z : W.M b ∨ b = D => z.elim m q), upd_ne q]
      exact e
/-- .. and what stands with one more hidden stands without -/
theorem hid_add_le {W : Wd} {H : Hp} {D : Addr} {φ : HO → Prop} : Same (hid (W.add D φ).M H) (hid W.M H) := fun a o e => by
  by_cases m : W.M a ∨ a = D
  · rw [hid_in (M := (W.add D φ).M) m] at e; cases e
  · rw [hid_out (M := (W.add D φ).M) m] at e
    rw [hid_out fun z => m (.inl z)]
    exact e

/-! ### judgements -/
/-- an expression: from a state that is Δ it comes to something that R tells -/
def XE (K : PySem.W.Frag) (W : Wd) (te : TE) (Δ : Env) (R : A → Prop) : Prop := ∀ σ H, W.J H → StOk K W.M H σ Δ → ∀ Q : VK, (∀ v H' a, Fr W H H' → R a → Is K W.M H' v a → Q v H') → te σ H Q
def XT (K : PySem.W.Frag) (W : Wd) (tt : TT) (Δ : Env) (R : Bool → Prop) : Prop := ∀ σ H, W.J H → StOk K W.M H σ Δ → ∀ Q : Bool → Hp → Prop, (∀ b H', Fr W H H' → R b → Q b H') → tt σ H Q
inductive IsAll (K : PySem.W.Frag) (M : Addr → Prop) (H : Hp) : List V → List A → Prop
  | nil : IsAll K M H [] []
  | cons {v vs a as} : Is K M H v a → IsAll K M H vs as → IsAll K M H (v :: vs) (a :: as)
theorem IsAll.ext {K : PySem.W.Frag} {M M' : Addr → Prop} {H H' : Hp} (s : Same (hid M H) (hid M' H')) : ∀ {vs : List V} {as : List A}, IsAll K M H vs as → IsAll K M' H' vs as
  | _, _, .nil => .nil
  | _, _, .cons h t => .cons (h.ext s) (t.ext s)
theorem IsAll.length {K : PySem.W.Frag} {M : Addr → Prop} {H : Hp} : ∀ {vs : List V} {as : List A}, IsAll K M H vs as → vs.length = as.length
  | _, _, .nil => rfl
  | _, _, .cons _ t => congrArg (· + 1) t.length
def XA (K : PySem.W.Frag) (W : Wd) (ta : TA) (Δ : Env) (R : List A → Prop) : Prop := ∀ σ H, W.J H → StOk K W.M H σ Δ → ∀ Q : List V → Hp → Prop, (∀ vs H' as, Fr W H H' → R as → IsAll K W.M H' vs as → Q vs H') → ta σ H Q
/-- a statement -/
def XS (K : PySem.W.Frag) (W : Wd) (ts : TS) (Δ : Env) (N : Env → Prop) (Rt : A → Prop) (Bk Ct : Env → Prop) : Prop := ∀ σ H, W.J H → StOk K W.M H σ Δ → ∀ D : Ends,
  (∀ σ' H' Δ', Fr W H H' → StOk K W.M H' σ' Δ' → N Δ' → D.nx σ' H') → (∀ v H' a, Fr W H H' → Rt a → Is K W.M H' v a → D.rt v H') →
  (∀ σ' H' Δ', Fr W H H' → StOk K W.M H' σ' Δ' → Bk Δ' → D.bk σ' H') → (∀ σ' H' Δ', Fr W H H' → StOk K W.M H' σ' Δ' → Ct Δ' → D.ct σ' H') → ts D σ H
/-- a pure value -/
abbrev XV (K : PySem.W.Frag) (W : Wd) (te : TE) (Δ : Env) (a : A) : Prop := XE K W te Δ (· = a)
abbrev XB (K : PySem.W.Frag) (W : Wd) (tt : TT) (Δ : Env) (b : Bool) : Prop := XT K W tt Δ (· = b)
abbrev XAs (K : PySem.W.Frag) (W : Wd) (ta : TA) (Δ : Env) (as : List A) : Prop := XA K W ta Δ (· = as)

section
variable {K : PySem.W.Frag} {W : Wd} {Δ : Env} {ta tb tc te : TE} {R S : A → Prop} {x y z : PyData} {N N1 : Env → Prop} {Rt : A → Prop} {Bk Ct : Env → Prop} {ts tu : TS} {tt ut : TT}
theorem XE.mono (h : XE K W te Δ R) (m : ∀ a, R a → S a) : XE K W te Δ S := fun σ H j s Q q => h σ H j s Q fun v H' a f r i => q v H' a f (m a r) i
theorem XE.is {a b : A} (h : XV K W te Δ a) (e : a = b) : XV K W te Δ b := e ▸ h
theorem XT.mono {B C : Bool → Prop} (h : XT K W tt Δ B) (m : ∀ b, B b → C b) : XT K W tt Δ C := fun σ H j s Q q => h σ H j s Q fun b H' f r => q b H' f (m b r)
theorem XT.is {a b : Bool} (h : XB K W tt Δ a) (e : a = b) : XB K W tt Δ b := e ▸ h
theorem xe_var {i : Nat} {a : A} (h : Δ[i]? = some (some a)) : XV K W (tVar i) Δ a := fun σ H j s Q q => let ⟨v, h1, h2⟩ := s.get i a h; ⟨v, h1, q v H a (.refl j) rfl h2⟩
theorem xe_str {s : Str} : XV K W (tC (.str s)) Δ (.d (.str s)) := fun σ H j _ Q q => q _ H _ (.refl j) rfl (.str s)
theorem xe_int {i : Int} : XV K W (tC (.int i)) Δ (.d (.int i)) := fun σ H j _ Q q => q _ H _ (.refl j) rfl (.int i)
theorem xe_bl {b : Bool} : XV K W (tC (.bl b)) Δ (.d (.bool b)) := fun σ H j _ Q q => q _ H _ (.refl j) rfl (.bl b)
theorem xe_non : XV K W (tC .non) Δ (.d .none) := fun σ H j _ Q q => q _ H _ (.refl j) rfl .non
theorem xe_c {v : V} : XV K W (tC v) Δ (.v v) := fun σ H j _ Q q => q _ H _ (.refl j) rfl rfl
theorem xa_nil : XAs K W tNil Δ [] := fun σ H j _ Q q => q _ H _ (.refl j) rfl .nil
theorem xa_cons {tr : TA} {a : A} {as : List A} (h : XV K W te Δ a) (r : XAs K W tr Δ as) : XAs K W (tCons te tr) Δ (a :: as) := fun σ H j s Q q =>
  h σ H j s _ fun v H1 b f1 e1 i1 => r σ H1 f1.j (s.fr f1) _ fun vs H2 bs f2 e2 i2 => by
    subst e1 e2
    exact q _ H2 _ (f1.trans f2) rfl (.cons (i1.fr f2) i2)
/-- all arguments data -/
def dAll : List PyData → List A := List.map A.d
theorem dts_of {M : Addr → Prop} {H : Hp} : ∀ {ds : List PyData} {vs : List V}, IsAll K M H vs (dAll ds) → DtAll K (hid M H) vs ds
  | [], _, .nil => .nil
  | d :: ds, _, .cons h t => .cons h (dts_of t)
theorem xe_tup {t : TA} {ds : List PyData} (h : XAs K W t Δ (dAll ds)) (n : ds.length ≤ 10000 := by decide) : XV K W (tTup t) Δ (.d (.tuple ds)) := fun σ H j s Q q =>
  h σ H j s _ fun vs H1 as f1 e i => by
    subst e
    have d := dts_of i
    refine ⟨by rw [d.length]; exact Nat.le_trans n (by decide), fun p np => q _ _ _ (f1.trans (.new f1.j np)) rfl ?_⟩
    exact Dt.tup (.inl (.inl (hid_new f1.j np))) (DtAll.ext (Fr.same (.new f1.j np)) _ _ d)
theorem xe_lst {t : TA} {ds : List PyData} (h : XAs K W t Δ (dAll ds)) (n : ds.length ≤ 10000 := by decide) : XV K W (tLst t) Δ (.d (.list ds)) := fun σ H j s Q q =>
  h σ H j s _ fun vs H1 as f1 e i => by
    subst e
    have d := dts_of i
    refine ⟨by rw [d.length]; exact Nat.le_trans n (by decide), fun p np => q _ _ _ (f1.trans (.new f1.j np)) rfl ?_⟩
    exact Dt.lst (hid_new f1.j np) (DtAll.ext (Fr.same (.new f1.j np)) _ _ d)
end
end V2

set_option Elab.async false
set_option linter.all false
set_option maxRecDepth 100000
set_option maxHeartbeats 1000000
namespace V2
open PySem PySem.Spec PyProof.Rows L2

/-! ### operators by names -/
def rII (f : Int → Int → Int) : R2 := rI0 fun i j => .int (f i j)
def rIB (f : Int → Int → Bool) : R2 := rI0 fun i j => .bl (f i j)
def rMulS : R2 := rI CMul fun i j => .int (i * j)
def rModP : R2 := rI (fun _ j => 0 < j) fun i j => .int (i % j)
def rDivP : R2 := rI CDiv fun i j => .int (i / j)
def rStrAdd : R2 := fun x y H Q => ∃ i j, x = .str i ∧ y = .str j ∧ i.length + j.length ≤ sizeLine ∧ Q (.str (i ++ j)) H
def rStrLe : R2 := fun x y H Q => ∃ i j, x = .str i ∧ y = .str j ∧ Q (.bl (!decide (j.cps.toList < i.cps.toList))) H
def rIsNo : R2 := fun x y H Q => y = .non ∧ Q (.bl (decide (x = .non))) H
def rIsNotNo : R2 := fun x y H Q => y = .non ∧ Q (.bl (!decide (x = .non))) H
def rLen (K : PySem.W.Frag) : List V → Hp → VK → Prop := fun xs H Q => ∃ p ys, xs = [.ref p] ∧ (SqL K H p ys ∨ SqT K H p ys) ∧ Q (.int ys.length) H
def rLenS : List V → Hp → VK → Prop := fun xs H Q => ∃ z, xs = [.str z] ∧ z.length ≤ sizeLine ∧ Q (.int z.length) H
def rLenA (K : PySem.W.Frag) : List V → Hp → VK → Prop := fun xs H Q => rLen K xs H Q ∨ rLenS xs H Q
def rMaxI : List V → Hp → VK → Prop := fun xs H Q => ∃ i j, xs = [.int i, .int j] ∧ Q (.int (if j > i then j else i)) H
def rMinI : List V → Hp → VK → Prop := fun xs H Q => ∃ i j, xs = [.int i, .int j] ∧ Q (.int (if j < i then j else i)) H
section
variable {X : Cx}
theorem o_add : OpR X (binaryOp .Add) (rII fun i j => i + j) := op_add
theorem o_sub : OpR X (binaryOp .Sub) (rII fun i j => i - j) := op_sub
theorem o_mul : OpR X (binaryOp .Mult) rMulS := op_mul
theorem o_mod : OpR X (binaryOp .Mod) rModP := op_mod
theorem o_fdiv : OpR X (binaryOp .FloorDiv) rDivP := op_fdiv
theorem o_lt : OpR X (compareOp .Lt) (rIB fun i j => decide (i < j)) := op_lt
theorem o_le : OpR X (compareOp .LtE) (rIB fun i j => decide (i ≤ j)) := op_le
theorem o_gt : OpR X (compareOp .Gt) (rIB fun i j => decide (j < i)) := op_gt
theorem o_ge : OpR X (compareOp .GtE) (rIB fun i j => decide (j ≤ i)) := op_ge
theorem o_addS : OpR X (binaryOp .Add) rStrAdd := op_add_str
theorem o_leS : OpR X (compareOp .LtE) rStrLe := op_le_str
theorem o_isN : OpR X (compareOp .Is) rIsNo := op_isN
theorem o_notN : OpR X (compareOp .IsNot) rIsNotNo := op_notN
theorem c_len : CallR X (.builtin "len") (rLen X.K) := call_len_seq
theorem c_lenS : CallR X (.builtin "len") rLenS := call_len_str
theorem c_lenA : CallR X (.builtin "len") (rLenA X.K) := by
  intro pins s σ H xs us Q I r h
  rcases h with h | h
  · exact c_len pins s σ H xs us Q I r h
  · exact c_lenS pins s σ H xs us Q I r h
theorem c_max (hc : X.calm = true) : CallR X (.builtin "max") rMaxI := call_max2 hc
theorem c_min (hc : X.calm = true) : CallR X (.builtin "min") rMinI := call_min2 hc
end

/-! ### what the operators do to data -/
section
variable {K : PySem.W.Frag} {W : Wd} {Δ : Env} {ta tb tc te : TE} {R S T : A → Prop} {N N1 : Env → Prop} {Rt : A → Prop} {Bk Ct : Env → Prop} {ts tu : TS} {tt ut : TT} {t : TA}
def OX (K : PySem.W.Frag) (W : Wd) (r : R2) (a b : A) (R : A → Prop) : Prop := ∀ v w H, W.J H → Is K W.M H v a → Is K W.M H w b → ∀ Q : VK, (∀ u H' c, Fr W H H' → R c → Is K W.M H' u c → Q u H') → r v w H Q
def CX1 (K : PySem.W.Frag) (W : Wd) (r : List V → Hp → VK → Prop) (as : List A) (R : A → Prop) : Prop := ∀ vs H, W.J H → IsAll K W.M H vs as → ∀ Q : VK, (∀ u H' c, Fr W H H' → R c → Is K W.M H' u c → Q u H') → r vs H Q
theorem xe_opR {r : R2} (ha : XE K W ta Δ R) (hb : XE K W tb Δ S) (hr : ∀ a b, R a → S b → OX K W r a b T) : XE K W (tOp r ta tb) Δ T := fun σ H j s Q q =>
  ha σ H j s _ fun v H1 a f1 ra i1 => hb σ H1 f1.j (s.fr f1) _ fun w H2 b f2 rb i2 => hr a b ra rb v w H2 f2.j (i1.fr f2) i2 Q fun u H3 c f3 rc i3 => q u H3 c ((f1.trans f2).trans f3) rc i3
theorem xe_op {r : R2} {a b : A} (ha : XV K W ta Δ a) (hb : XV K W tb Δ b) (hr : OX K W r a b T) : XE K W (tOp r ta tb) Δ T := xe_opR ha hb fun _ _ e e' => by
  subst e e'
  exact hr
theorem xe_cbR {r : List V → Hp → VK → Prop} {Ra : List A → Prop} (ha : XA K W t Δ Ra) (hr : ∀ as, Ra as → CX1 K W r as T) : XE K W (tCB r t) Δ T := fun σ H j s Q q =>
  ha σ H j s _ fun vs H1 as f1 ra i1 => hr as ra vs H1 f1.j i1 Q fun u H2 c f2 rc i2 => q u H2 c (f1.trans f2) rc i2
theorem xe_cb {r : List V → Hp → VK → Prop} {as : List A} (ha : XAs K W t Δ as) (hr : CX1 K W r as T) : XE K W (tCB r t) Δ T := xe_cbR ha fun _ e => by
  subst e
  exact hr
theorem ox_II {f : Int → Int → Int} {i j : Int} : OX K W (rII f) (.d (.int i)) (.d (.int j)) (· = .d (.int (f i j))) := fun v w H j' i1 i2 Q q => by
  cases i1; cases i2
  exact ⟨_, _, rfl, rfl, q _ H _ (.refl j') rfl (.int _)⟩
theorem ox_IB {f : Int → Int → Bool} {i j : Int} : OX K W (rIB f) (.d (.int i)) (.d (.int j)) (· = .d (.bool (f i j))) := fun v w H j' i1 i2 Q q => by
  cases i1; cases i2
  exact ⟨_, _, rfl, rfl, q _ H _ (.refl j') rfl (.bl _)⟩
theorem ox_mod {i j : Int} (h : 0 < j) : OX K W rModP (.d (.int i)) (.d (.int j)) (· = .d (.int (i % j))) := fun v w H j' i1 i2 Q q => by
  cases i1; cases i2
  exact ⟨_, _, rfl, rfl, h, q _ H _ (.refl j') rfl (.int _)⟩
theorem ox_div {i j : Int} (h : CDiv i j) : OX K W rDivP (.d (.int i)) (.d (.int j)) (· = .d (.int (i / j))) := fun v w H j' i1 i2 Q q => by
  cases i1; cases i2
  exact ⟨_, _, rfl, rfl, h, q _ H _ (.refl j') rfl (.int _)⟩
theorem ox_mul {i j : Int} (h : CMul i j) : OX K W rMulS (.d (.int i)) (.d (.int j)) (· = .d (.int (i * j))) := fun v w H j' i1 i2 Q q => by
  cases i1; cases i2
  exact ⟨_, _, rfl, rfl, h, q _ H _ (.refl j') rfl (.int _)⟩
theorem ox_addS {i j : Str} (h : i.length + j.length ≤ sizeLine) : OX K W rStrAdd (.d (.str i)) (.d (.str j)) (· = .d (.str (i ++ j))) := fun v w H j' i1 i2 Q q => by
  cases i1; cases i2
  exact ⟨_, _, rfl, rfl, h, q _ H _ (.refl j') rfl (.str _)⟩
theorem ox_leS {i j : Str} : OX K W rStrLe (.d (.str i)) (.d (.str j)) (· = .d (.bool (!decide (j.cps.toList < i.cps.toList)))) := fun v w H j' i1 i2 Q q => by
  cases i1; cases i2
  exact ⟨_, _, rfl, rfl, q _ H _ (.refl j') rfl (.bl _)⟩
theorem ox_cat {xs ys : List PyData} (n : xs.length + ys.length ≤ 100000) : OX K W rCat (.d (.list xs)) (.d (.list ys)) (· = .d (.list (xs ++ ys))) := fun v w H j i1 i2 Q q => by
  cases i1 with
  | lst h1 d1 =>
    cases i2 with
    | lst h2 d2 =>
      refine ⟨_, _, _, _, rfl, rfl, hid_le _ _ h1, hid_le _ _ h2, by rw [d1.length, d2.length]; exact Nat.le_trans n (by decide), fun p np => ?_⟩
      exact q _ _ _ (.new j np) rfl (Dt.lst (hid_new j np) (DtAll.append (DtAll.ext (Fr.same (.new j np)) _ _ d1) (DtAll.ext (Fr.same (.new j np)) _ _ d2)))
theorem ox_ixL {xs : List PyData} {i : Int} {z : PyData} (h0 : 0 ≤ i) (h : xs[i.toNat]? = some z) : OX K W (rIxL K) (.d (.list xs)) (.d (.int i)) (· = .d z) := fun v w H j i1 i2 Q q => by
  cases i2
  cases i1 with
  | lst h1 d1 =>
    obtain ⟨u, hu, du⟩ := d1.get h
    exact ⟨_, _, _, u, rfl, rfl, .inl (.inl (hid_le _ _ h1)), at_of (j := i.toNat) (by omega) hu, q _ H _ (.refl j) rfl du⟩
theorem ox_ixT {xs : List PyData} {i : Int} {z : PyData} (h0 : 0 ≤ i) (h : xs[i.toNat]? = some z) : OX K W (rIxT K) (.d (.tuple xs)) (.d (.int i)) (· = .d z) := fun v w H j i1 i2 Q q => by
  cases i2
  cases i1 with
  | tup h1 d1 =>
    obtain ⟨u, hu, du⟩ := d1.get h
    exact ⟨_, _, _, u, rfl, rfl, sqT_same hid_le h1, at_of (j := i.toNat) (by omega) hu, q _ H _ (.refl j) rfl du⟩
/-- an item of a list at a place that is somewhere in it -/
theorem xe_ixLR {xs : List PyData} (ha : XV K W ta Δ (.d (.list xs))) (hb : XE K W tb Δ fun a => ∃ i : Int, a = .d (.int i) ∧ 0 ≤ i ∧ i < xs.length) : XE K W (tOp (rIxL K) ta tb) Δ fun a => ∃ z ∈ xs, a = .d z :=
  xe_opR ha hb fun a b e ⟨i, e', h0, h1⟩ => by
    subst e e'
    have l : i.toNat < xs.length := by omega
    intro v w H j i1 i2 Q q
    exact ox_ixL h0 (List.getElem?_eq_getElem l) v w H j i1 i2 Q fun u H' c f rc ic => q u H' c f ⟨_, List.getElem_mem l, rc⟩ ic
/-- of flat data a value that is it -/
def vOf : PyData → V
  | .none => .non | .bool b => .bl b | .int i => .int i | .str x => .str x | _ => .non
theorem Dt.flat {H : Hp} {v : V} {d : PyData} (h : Dt K H v d) (f : flat d = true) : v = vOf d := by
  cases h <;> first | rfl | (simp [V2.flat] at f)
theorem Dt.ofFlat {H : Hp} {d : PyData} (f : V2.flat d = true) : Dt K H (vOf d) d := by
  cases d <;> first | constructor | (simp [V2.flat] at f)
def eqF (d e : PyData) : Bool := decide (vOf d = vOf e)
theorem ox_eq {d e : PyData} (f : flat d = true) (g : flat e = true) (h : scal (vOf d) (vOf e) = true) : OX K W rEq (.d d) (.d e) (· = .d (.bool (eqF d e))) := fun v w H j i1 i2 Q q => by
  obtain rfl := Dt.flat i1 f
  obtain rfl := Dt.flat i2 g
  exact ⟨h, q _ H _ (.refl j) rfl (.bl _)⟩
theorem ox_ne {d e : PyData} (f : flat d = true) (g : flat e = true) (h : scal (vOf d) (vOf e) = true) : OX K W rNe (.d d) (.d e) (· = .d (.bool (!eqF d e))) := fun v w H j i1 i2 Q q => by
  obtain rfl := Dt.flat i1 f
  obtain rfl := Dt.flat i2 g
  exact ⟨h, q _ H _ (.refl j) rfl (.bl _)⟩
theorem ox_eqD {d e : PyData} (f : d.hasDict = false) (g : e.hasDict = false) (sd : SeqAt.shaped d = true) (se : SeqAt.shaped e = true) : OX K W (rEqD K) (.d d) (.d e) (· = .d (.bool (PyData.eqv d e))) := fun v w H j i1 i2 Q q =>
  ⟨d, e, Dt.dp _ _ f (Dt.ext hid_le _ _ i1), Dt.dp _ _ g (Dt.ext hid_le _ _ i2), sd, se, q _ H _ (.refl j) rfl (.bl _)⟩
theorem ox_neD {d e : PyData} (f : d.hasDict = false) (g : e.hasDict = false) (sd : SeqAt.shaped d = true) (se : SeqAt.shaped e = true) : OX K W (rNeD K) (.d d) (.d e) (· = .d (.bool (!PyData.eqv d e))) := fun v w H j i1 i2 Q q =>
  ⟨d, e, Dt.dp _ _ f (Dt.ext hid_le _ _ i1), Dt.dp _ _ g (Dt.ext hid_le _ _ i2), sd, se, q _ H _ (.refl j) rfl (.bl _)⟩
def isNo : PyData → Bool
  | .none => true
  | _ => false
theorem ox_isN {d : PyData} : OX K W rIsNo (.d d) (.d .none) (· = .d (.bool (isNo d))) := fun v w H j i1 i2 Q q => by
  cases i2
  refine ⟨rfl, ?_⟩
  have e : decide (v = .non) = (isNo d) := by
    cases i1 <;> first | rfl | exact decide_eq_false (by nofun)
  rw [e]
  exact q _ H _ (.refl j) rfl (.bl _)
theorem ox_notN {d : PyData} : OX K W rIsNotNo (.d d) (.d .none) (· = .d (.bool (!isNo d))) := fun v w H j i1 i2 Q q => by
  cases i2
  refine ⟨rfl, ?_⟩
  have e : decide (v = .non) = (isNo d) := by
    cases i1 <;> first | rfl | exact decide_eq_false (by nofun)
  rw [e]
  exact q _ H _ (.refl j) rfl (.bl _)
/-- in, not in over flat items -/
def inF (d : PyData) (ds : List PyData) : Bool := inV (vOf d) (ds.map vOf)
theorem DtAll.flats {H : Hp} : ∀ {vs : List V} {ds : List PyData}, DtAll K H vs ds → ds.all flat = true → vs = ds.map vOf
  | _, _, .nil, _ => rfl
  | _, _, .cons h t, f => by
    rw [List.all_cons, Bool.and_eq_true] at f
    rw [List.map_cons, h.flat f.1, DtAll.flats t f.2]
theorem flatV_of {d : PyData} (f : flat d = true) : flatV (vOf d) = true := by cases d <;> first | rfl | (simp [V2.flat] at f)
theorem flatVs_of : ∀ {ds : List PyData}, ds.all flat = true → (ds.map vOf).all flatV = true
  | [], _ => rfl
  | d :: ds, f => by
    rw [List.all_cons, Bool.and_eq_true] at f
    rw [List.map_cons, List.all_cons, flatV_of f.1, flatVs_of f.2]
    rfl
theorem ox_inT {d : PyData} {ds : List PyData} {n : Bool} (f : flat d = true) (g : ds.all flat = true) : OX K W (rIn K n) (.d d) (.d (.tuple ds)) (· = .d (.bool (if n then !inF d ds else inF d ds))) := fun v w H j i1 i2 Q q => by
  obtain rfl := Dt.flat i1 f
  cases i2 with
  | tup h2 d2 =>
    obtain rfl := d2.flats g
    exact ⟨_, _, rfl, .inr (sqT_same hid_le h2), flatV_of f, flatVs_of g, q _ H _ (.refl j) rfl (.bl _)⟩
theorem ox_inL {d : PyData} {ds : List PyData} {n : Bool} (f : flat d = true) (g : ds.all flat = true) : OX K W (rIn K n) (.d d) (.d (.list ds)) (· = .d (.bool (if n then !inF d ds else inF d ds))) := fun v w H j i1 i2 Q q => by
  obtain rfl := Dt.flat i1 f
  cases i2 with
  | lst h2 d2 =>
    obtain rfl := d2.flats g
    exact ⟨_, _, rfl, .inl (.inl (.inl (hid_le _ _ h2))), flatV_of f, flatVs_of g, q _ H _ (.refl j) rfl (.bl _)⟩

/-! ### built-ins -/
theorem cx_reprK {ds : List (PyData × PyData)} (f : flatKv ds = true) (dp : PyData.depth (.dict ds) ≤ 60) (sh : PyData.showable (.dict ds) = true) (hw : (PyData.shown (.dict ds)).length ≤ 1000000) : CX1 K W (rRepr K) [.d (.dict ds)] (· = .d (.str (PyData.shown (.dict ds)))) := fun vs H j i Q q => by
  cases i with
  | cons h t =>
    cases t
    exact .inr ⟨_, ds, rfl, Dt.ext hid_le _ _ h, f, sh, dp, hw, q _ H _ (.refl j) rfl (.str _)⟩
theorem cx_repr {d : PyData} (nd : d.hasDict = false) (sh : d.showable = true) (dp : d.depth ≤ 60) (hw : wt d ≤ 1000000) : CX1 K W (rRepr K) [.d d] (· = .d (.str d.shown)) := fun vs H j i Q q => by
  cases i with
  | cons h t =>
    cases t
    exact .inl ⟨_, d, rfl, Dt.ext hid_le _ _ h, nd, sh, dp, hw, q _ H _ (.refl j) rfl (.str _)⟩
theorem cx_lenL {xs : List PyData} : CX1 K W (rLen K) [.d (.list xs)] (· = .d (.int xs.length)) := fun vs H j i Q q => by
  cases i with
  | cons h t =>
    cases t
    cases h with
    | lst h1 d1 => exact ⟨_, _, rfl, .inl (.inl (.inl (hid_le _ _ h1))), by rw [d1.length]; exact q _ H _ (.refl j) rfl (.int _)⟩
theorem cx_lenT {xs : List PyData} : CX1 K W (rLen K) [.d (.tuple xs)] (· = .d (.int xs.length)) := fun vs H j i Q q => by
  cases i with
  | cons h t =>
    cases t
    cases h with
    | tup h1 d1 => exact ⟨_, _, rfl, .inr (sqT_same hid_le h1), by rw [d1.length]; exact q _ H _ (.refl j) rfl (.int _)⟩
theorem cx_lenS {x : Str} (h : x.length ≤ sizeLine) : CX1 K W rLenS [.d (.str x)] (· = .d (.int x.length)) := fun vs H j i Q q => by
  cases i with
  | cons h t =>
    cases t
    cases h
    exact ⟨_, rfl, h, q _ H _ (.refl j) rfl (.int _)⟩
theorem cx_max {i k : Int} : CX1 K W rMaxI [.d (.int i), .d (.int k)] (· = .d (.int (if k > i then k else i))) := fun vs H j i Q q => by
  cases i with
  | cons h t =>
    cases h
    cases t with
    | cons h t =>
      cases h
      cases t
      exact ⟨_, _, rfl, q _ H _ (.refl j) rfl (.int _)⟩
theorem cx_min {i k : Int} : CX1 K W rMinI [.d (.int i), .d (.int k)] (· = .d (.int (if k < i then k else i))) := fun vs H j i Q q => by
  cases i with
  | cons h t =>
    cases h
    cases t with
    | cons h t =>
      cases h
      cases t
      exact ⟨_, _, rfl, q _ H _ (.refl j) rfl (.int _)⟩
def bools : List PyData → Option (List Bool)
  | [] => some []
  | .bool b :: r => (bools r).map (b :: ·)
  | _ => none
theorem bools_map : ∀ {ds : List PyData} {bs : List Bool}, bools ds = some bs → ds = bs.map PyData.bool
  | [], bs, h => by cases h; rfl
  | d :: r, bs, h => by
    cases d <;> simp [bools] at h
    obtain ⟨cs, h1, rfl⟩ := h
    rw [bools_map h1]; rfl
theorem dts_bools {H : Hp} : ∀ {vs : List V} {bs : List Bool}, DtAll K H vs (bs.map PyData.bool) → vs = bs.map V.bl
  | _, [], .nil => rfl
  | _, b :: bs, .cons h t => by
    cases h
    rw [dts_bools t]; rfl
theorem cx_all {bs : List Bool} : CX1 K W (rAll K) [.d (.list (bs.map PyData.bool))] (· = .d (.bool (bs.all id))) := fun vs H j i Q q => by
  cases i with
  | cons h t =>
    cases t
    cases h with
    | lst h1 d1 =>
      obtain rfl := dts_bools d1
      exact ⟨_, bs, rfl, .inl (.inl (hid_le _ _ h1)), q _ H _ (.refl j) rfl (.bl _)⟩
/-! isinstance -/
def tyN : PyData → String
  | .none => "NoneType" | .bool _ => "bool" | .int _ => "int" | .str _ => "str" | .list _ => "list" | .tuple _ => "tuple" | .dict _ => "dict"
theorem tyX_of {H : Hp} {v : V} {d : PyData} (h : Dt K H v d) : TyX K H v (.type (tyN d)) := by
  cases h with
  | non => exact .base .non
  | bl b => exact .base (.bl b)
  | int i => exact .base (.int i)
  | str x => exact .base (.str x)
  | lst h _ => exact .base (.lst h)
  | tup h _ =>
    rcases h with (h | ⟨o, h⟩) | ⟨o, its, n, h, c, _⟩
    · exact .base (.tup h)
    · exact .fTuple h
    · exact .kTuple h c
  | dct h _ => exact .base (.dK h)
def isiD (d : PyData) (T : String) : Bool := tyN d == T || (tyN d == "bool" && T == "int")
theorem cx_isi {d : PyData} {T : String} {b : Bool} (h : kitB (tyN d) T = some b) : CX1 K W (rIsi K) [.d d, .v (.ty T)] (· = .d (.bool b)) := fun vs H j i Q q => by
  cases i with
  | cons h1 t =>
    cases t with
    | cons h2 t =>
      cases t
      have e : _ = V.ty T := h2
      subst e
      exact ⟨_, _, _, _, b, rfl, .ty T, tyX_of (Dt.ext hid_le _ _ h1), kit_ty h, q _ H _ (.refl j) rfl (.bl _)⟩

/-! ### tests -/
theorem xt_test {b : Bool} (h : XV K W te Δ (.d (.bool b))) : XB K W (tTest te) Δ b := fun σ H j s Q q => h σ H j s _ fun v H1 a f e i => by
  subst e
  cases i
  exact ⟨_, rfl, q _ H1 f rfl⟩
theorem xt_testR {B : Bool → Prop} (h : XE K W te Δ fun a => ∃ b, a = .d (.bool b) ∧ B b) : XT K W (tTest te) Δ B := fun σ H j s Q q => h σ H j s _ fun v H1 a f e i => by
  obtain ⟨b, e, hb⟩ := e
  subst e
  cases i
  exact ⟨_, rfl, q _ H1 f hb⟩
theorem xt_B {b : Bool} (h : XV K W te Δ (.d (.bool b))) : XB K W (tB te) Δ b := fun σ H j s Q q => h σ H j s _ fun v H1 a f e i => by
  subst e
  cases i
  exact ⟨_, rfl, q _ H1 f rfl⟩
theorem xt_and {a b : Bool} (h : XB K W tt Δ a) (h' : a = true → XB K W ut Δ b) : XB K W (tAnd tt ut) Δ (a && b) := fun σ H j s Q q => h σ H j s _ fun v H1 f e => by
  subst e
  cases v with
  | true => exact iteT (h' rfl σ H1 f.j (s.fr f) Q fun c H2 f2 e => q c H2 (f.trans f2) (by rw [e]; rfl))
  | false => exact iteF (q false H1 f rfl)
theorem xt_or {a b : Bool} (h : XB K W tt Δ a) (h' : a = false → XB K W ut Δ b) : XB K W (tOr tt ut) Δ (a || b) := fun σ H j s Q q => h σ H j s _ fun v H1 f e => by
  subst e
  cases v with
  | false => exact iteF (h' rfl σ H1 f.j (s.fr f) Q fun c H2 f2 e => q c H2 (f.trans f2) (by rw [e]; rfl))
  | true => exact iteT (q true H1 f rfl)
theorem xt_not {a : Bool} (h : XB K W tt Δ a) : XB K W (tNot tt) Δ (!a) := fun σ H j s Q q => h σ H j s _ fun v H1 f e => q _ H1 f (by rw [e])
theorem xe_andV {a b : Bool} (h : XV K W ta Δ (.d (.bool a))) (h' : a = true → XV K W tb Δ (.d (.bool b))) : XV K W (tAndV ta tb) Δ (.d (.bool (a && b))) := fun σ H j s Q q => h σ H j s _ fun v H1 c f e i => by
  subst e
  cases i
  refine ⟨a, rfl, ?_⟩
  cases a with
  | true => exact iteT (h' rfl σ H1 f.j (s.fr f) Q fun c H2 z f2 e i => q c H2 z (f.trans f2) (by rw [e]; rfl) i)
  | false => exact iteF (q _ H1 _ f rfl (.bl _))
theorem xe_orV {a b : Bool} (h : XV K W ta Δ (.d (.bool a))) (h' : a = false → XV K W tb Δ (.d (.bool b))) : XV K W (tOrV ta tb) Δ (.d (.bool (a || b))) := fun σ H j s Q q => h σ H j s _ fun v H1 c f e i => by
  subst e
  cases i
  refine ⟨a, rfl, ?_⟩
  cases a with
  | false => exact iteF (h' rfl σ H1 f.j (s.fr f) Q fun c H2 z f2 e i => q c H2 z (f.trans f2) (by rw [e]; rfl) i)
  | true => exact iteT (q _ H1 _ f rfl (.bl _))
theorem xe_notV {a : Bool} (h : XV K W ta Δ (.d (.bool a))) : XV K W (tNotV ta) Δ (.d (.bool (!a))) := fun σ H j s Q q => h σ H j s _ fun v H1 c f e i => by
  subst e
  cases i
  exact ⟨a, rfl, q _ H1 _ f rfl (.bl _)⟩
theorem xe_if {b : Bool} (h : XB K W tt Δ b) (h1 : b = true → XE K W ta Δ R) (h2 : b = false → XE K W tb Δ R) : XE K W (tIf tt ta tb) Δ R := fun σ H j s Q q => h σ H j s _ fun v H1 f e => by
  subst e
  cases v with
  | true => exact iteT (h1 rfl σ H1 f.j (s.fr f) Q fun c H2 z f2 r i => q c H2 z (f.trans f2) r i)
  | false => exact iteF (h2 rfl σ H1 f.j (s.fr f) Q fun c H2 z f2 r i => q c H2 z (f.trans f2) r i)
theorem xe_chain {r r' : R2} {a b c : A} {k : Bool} {k' : Bool} (ha : XV K W ta Δ a) (hb : XV K W tb Δ b) (h1 : OX K W r a b (· = .d (.bool k))) (hc : k = true → XV K W tc Δ c) (h2 : k = true → OX K W r' b c (· = .d (.bool k'))) :
    XV K W (tChain r r' ta tb tc) Δ (.d (.bool (k && k'))) := fun σ H j s Q q =>
  ha σ H j s _ fun v H1 a' f1 e1 i1 => hb σ H1 f1.j (s.fr f1) _ fun w H2 b' f2 e2 i2 => by
    subst e1 e2
    refine h1 v w H2 f2.j (i1.fr f2) i2 _ fun z H3 c' f3 e3 i3 => ?_
    subst e3
    cases i3
    refine ⟨k, rfl, ?_⟩
    cases k with
    | true =>
      refine iteT (hc rfl σ H3 f3.j (s.fr ((f1.trans f2).trans f3)) _ fun u H4 d f4 e4 i4 => ?_)
      subst e4
      exact h2 rfl w u H4 f4.j (i2.fr (f3.trans f4)) i4 Q fun y H5 g f5 e5 i5 => q y H5 g ((((f1.trans f2).trans f3).trans f4).trans f5) (by rw [e5]; rfl) i5
    | false => exact iteF (q _ H3 _ ((f1.trans f2).trans f3) rfl (.bl _))

/-! ### statements -/
theorem xs_next (h : N Δ) : XS K W tNext Δ N Rt Bk Ct := fun σ H j s D n _ _ _ => n σ H Δ (.refl j) s h
theorem xs_seq (h : XS K W ts Δ N1 Rt Bk Ct) (h' : ∀ Δ', N1 Δ' → XS K W tu Δ' N Rt Bk Ct) : XS K W (tSeq ts tu) Δ N Rt Bk Ct := fun σ H j s D n r b c =>
  h σ H j s { D with nx := tu D } (fun σ1 H1 Δ1 f1 s1 n1 => h' Δ1 n1 σ1 H1 f1.j s1 D (fun σ2 H2 Δ2 f2 => n σ2 H2 Δ2 (f1.trans f2)) (fun v H2 a f2 => r v H2 a (f1.trans f2))
    (fun σ2 H2 Δ2 f2 => b σ2 H2 Δ2 (f1.trans f2)) fun σ2 H2 Δ2 f2 => c σ2 H2 Δ2 (f1.trans f2)) r b c
theorem xs_setR {i : Nat} (h : XE K W te Δ R) (n : ∀ a, R a → N (Δ.set i (some a))) : XS K W (tAsg te (gName i)) Δ N Rt Bk Ct := fun σ H j s D nx _ _ _ =>
  h σ H j s _ fun v H1 a f r i1 => nx _ H1 _ f ((s.fr f).set i i1) (n a r)
theorem xs_set {i : Nat} {a : A} (h : XV K W te Δ a) (n : N (Δ.set i (some a))) : XS K W (tAsg te (gName i)) Δ N Rt Bk Ct := xs_setR h fun _ e => by
  subst e
  exact n
theorem xs_ret (h : XE K W te Δ R) (m : ∀ a, R a → Rt a) : XS K W (tRet te) Δ N Rt Bk Ct := fun σ H j s D _ rt _ _ => h σ H j s _ fun v H1 a f r i1 => rt v H1 a f (m a r) i1
theorem xs_if {b : Bool} (h : XB K W tt Δ b) (h1 : b = true → XS K W ts Δ N Rt Bk Ct) (h2 : b = false → XS K W tu Δ N Rt Bk Ct) : XS K W (tIfS tt ts tu) Δ N Rt Bk Ct := fun σ H j s D nx rt bk ct =>
  h σ H j s _ fun v H1 f e => by
    subst e
    cases v with
    | true => exact iteT (h1 rfl σ H1 f.j (s.fr f) D (fun σ2 H2 Δ2 f2 => nx σ2 H2 Δ2 (f.trans f2)) (fun v H2 a f2 => rt v H2 a (f.trans f2)) (fun σ2 H2 Δ2 f2 => bk σ2 H2 Δ2 (f.trans f2)) fun σ2 H2 Δ2 f2 => ct σ2 H2 Δ2 (f.trans f2))
    | false => exact iteF (h2 rfl σ H1 f.j (s.fr f) D (fun σ2 H2 Δ2 f2 => nx σ2 H2 Δ2 (f.trans f2)) (fun v H2 a f2 => rt v H2 a (f.trans f2)) (fun σ2 H2 Δ2 f2 => bk σ2 H2 Δ2 (f.trans f2)) fun σ2 H2 Δ2 f2 => ct σ2 H2 Δ2 (f.trans f2))
theorem xs_ifR {B : Bool → Prop} (h : XT K W tt Δ B) (h1 : B true → XS K W ts Δ N Rt Bk Ct) (h2 : B false → XS K W tu Δ N Rt Bk Ct) : XS K W (tIfS tt ts tu) Δ N Rt Bk Ct := fun σ H j s D nx rt bk ct =>
  h σ H j s _ fun v H1 f e => by
    cases v with
    | true => exact iteT (h1 e σ H1 f.j (s.fr f) D (fun σ2 H2 Δ2 f2 => nx σ2 H2 Δ2 (f.trans f2)) (fun v H2 a f2 => rt v H2 a (f.trans f2)) (fun σ2 H2 Δ2 f2 => bk σ2 H2 Δ2 (f.trans f2)) fun σ2 H2 Δ2 f2 => ct σ2 H2 Δ2 (f.trans f2))
    | false => exact iteF (h2 e σ H1 f.j (s.fr f) D (fun σ2 H2 Δ2 f2 => nx σ2 H2 Δ2 (f.trans f2)) (fun v H2 a f2 => rt v H2 a (f.trans f2)) (fun σ2 H2 Δ2 f2 => bk σ2 H2 Δ2 (f.trans f2)) fun σ2 H2 Δ2 f2 => ct σ2 H2 Δ2 (f.trans f2))
theorem xs_mono {N' : Env → Prop} {Rt' : A → Prop} {Bk' Ct' : Env → Prop} (h : XS K W ts Δ N Rt Bk Ct) (n : ∀ Δ, N Δ → N' Δ) (r : ∀ a, Rt a → Rt' a) (b : ∀ Δ, Bk Δ → Bk' Δ) (c : ∀ Δ, Ct Δ → Ct' Δ) : XS K W ts Δ N' Rt' Bk' Ct' :=
  fun σ H j s D nx rt bk ct => h σ H j s D (fun σ' H' Δ' f s' q => nx σ' H' Δ' f s' (n _ q)) (fun v H' a f q => rt v H' a f (r _ q)) (fun σ' H' Δ' f s' q => bk σ' H' Δ' f s' (b _ q)) fun σ' H' Δ' f s' q => ct σ' H' Δ' f s' (c _ q)
end
end V2

set_option Elab.async false
set_option linter.all false
set_option maxRecDepth 100000
set_option maxHeartbeats 1000000
namespace V2
open PySem PySem.Spec PyProof.Rows L2
section
variable {K : PySem.W.Frag} {W : Wd} {Δ : Env} {ta tb tc te tl : TE} {R S T : A → Prop} {N N1 : Env → Prop} {Rt : A → Prop} {Bk Ct : Env → Prop} {ts tu : TS} {tt ut : TT} {t : TA} {wi : TI}

/-! ### what a loop walks -/
def Walks (K : PySem.W.Frag) (W : Wd) (H1 : Hp) (J : It) (n : Nat) (Y : Nat → A → Prop) : Prop := ∀ H2, Fr W H1 H2 → ∀ i, (i < n → J.go i H2 ∧ ∀ x H3, J.yld i H2 x H3 → H3 = H2 ∧ ∃ a, Y i a ∧ Is K W.M H1 x a) ∧ (n ≤ i → J.stop i H2)
def XI (K : PySem.W.Frag) (W : Wd) (wi : TI) (Δ : Env) (Nn : Nat → Prop) (Y : Nat → A → Prop) : Prop := ∀ σ H, W.J H → StOk K W.M H σ Δ → ∀ R : It → Hp → Prop, (∀ J H1 n, Fr W H H1 → Nn n → Walks K W H1 J n Y → R J H1) → wi σ H R
theorem xi_list {xs : List PyData} (h : XV K W tl Δ (.d (.list xs))) : XI K W (iList K tl) Δ (· = xs.length) fun i a => ∃ d, xs[i]? = some d ∧ a = .d d := fun σ H j s R q =>
  h σ H j s _ fun v H1 a f e i => by
    subst e
    cases i with
    | lst h1 d1 =>
      rename_i p vs
      have m : ¬ W.M p := fun m => by rw [hid_in m] at h1; cases h1
      rw [hid_out m] at h1
      refine ⟨p, rfl, ⟨vs, .inl (.inl h1)⟩, q _ H1 _ f rfl fun H2 f2 i => ?_⟩
      have g : SqL K H2 p vs := .inl (.inl (f2.keep p _ m h1))
      refine ⟨fun l => ?_, fun l => ⟨vs, g, by rw [d1.length]; exact l⟩⟩
      obtain ⟨v, hv, dv⟩ := d1.get (List.getElem?_eq_getElem l)
      refine ⟨⟨vs, v, g, hv⟩, fun x H3 y => ⟨y.1, .d xs[i], ⟨_, List.getElem?_eq_getElem l, rfl⟩, ?_⟩⟩
      have e := y.2 vs g
      rw [hv] at e
      cases e
      exact dv
theorem xi_tup {xs : List PyData} (h : XV K W tl Δ (.d (.tuple xs))) : XI K W (iTup K tl) Δ (· = xs.length) fun i a => ∃ d, xs[i]? = some d ∧ a = .d d := fun σ H j s R q =>
  h σ H j s _ fun v H1 a f e i => by
    subst e
    cases i with
    | tup h1 d1 =>
      rename_i p vs
      refine ⟨p, rfl, ⟨vs, sqT_same hid_le h1⟩, q _ H1 _ f rfl fun H2 f2 i => ?_⟩
      have g : SqT K H2 p vs := sqT_same hid_le (sqT_same f2.same h1)
      refine ⟨fun l => ?_, fun l => ⟨vs, g, by rw [d1.length]; exact l⟩⟩
      obtain ⟨v, hv, dv⟩ := d1.get (List.getElem?_eq_getElem l)
      refine ⟨⟨vs, v, g, hv⟩, fun x H3 y => ⟨y.1, .d xs[i], ⟨_, List.getElem?_eq_getElem l, rfl⟩, ?_⟩⟩
      have e := y.2 vs g
      rw [hv] at e
      cases e
      exact dv
def oneS (c : Nat) : Str := ⟨#[c]⟩
theorem xi_str {x : Str} (h : XV K W tl Δ (.d (.str x))) : XI K W (iStr tl) Δ (· = x.cps.size) fun i a => ∃ c, x.cps[i]? = some c ∧ a = .d (.str (oneS c)) := fun σ H j s R q =>
  h σ H j s _ fun v H1 a f e i => by
    subst e
    cases i
    refine ⟨x, rfl, q _ H1 _ f rfl fun H2 f2 i => ⟨fun l => ⟨l, fun y H3 ⟨e, c, hc, ey⟩ => ⟨e, _, ⟨c, hc, rfl⟩, ?_⟩⟩, fun l => l⟩⟩
    subst ey
    exact .str _
theorem xi_rng {Nn : Nat → Prop} (h : XA K W t Δ fun as => ∃ j : Int, as = [.d (.int j)] ∧ -(2 ^ 62) ≤ j ∧ j < 2 ^ 62 ∧ Nn j.toNat) : XI K W (iRng1 t) Δ Nn fun i a => a = .d (.int (i : Int)) := fun σ H j s R q =>
  h σ H j s _ fun vs H1 as f e i => by
    obtain ⟨k, e, k1, k2, hn⟩ := e
    subst e
    cases i with
    | cons i1 i2 =>
      cases i2
      cases i1
      refine ⟨k, rfl, k1, k2, q _ H1 _ f hn fun H2 f2 i => ⟨fun l => ⟨l, fun y H3 ⟨e, ey⟩ => ⟨e, _, rfl, ?_⟩⟩, fun l => l⟩⟩
      subst ey
      rw [Int.zero_add]
      exact .int _
/-! ### targets -/
def GX (K : PySem.W.Frag) (W : Wd) (g : TG) (a : A) (Δ Δ' : Env) : Prop := ∀ v σ H, W.J H → StOk K W.M H σ Δ → Is K W.M H v a → ∀ Q : L2.St → Hp → Prop, (∀ σ' H', Fr W H H' → StOk K W.M H' σ' Δ' → Q σ' H') → g v σ H Q
theorem gx_name {k : Nat} {a : A} : GX K W (gName k) a Δ (Δ.set k (some a)) := fun v σ H j s i Q q => q _ H (.refl j) (s.set k i)
theorem gx_tup2 {i j : Nat} {x y : PyData} : GX K W (gTup K 2 (gCons (gName i) (gCons (gName j) gNil))) (.d (.tuple [x, y])) Δ ((Δ.set i (some (.d x))).set j (some (.d y))) := fun v σ H jj s ii Q q => by
  cases ii with
  | tup h1 d1 =>
    cases d1 with
    | cons dx d2 =>
      cases d2 with
      | cons dy d3 =>
        cases d3
        exact ⟨_, _, rfl, sqT_same hid_le h1, rfl, _, _, rfl, _, _, rfl, rfl, q _ H (.refl jj) ((s.set (a := .d x) i dx).set (a := .d y) j dy)⟩
theorem xs_asg {g : TG} {a : A} {Δ' : Env} (h : XV K W te Δ a) (hg : GX K W g a Δ Δ') (n : N Δ') : XS K W (tAsg te g) Δ N Rt Bk Ct := fun σ H j s D nx _ _ _ =>
  h σ H j s _ fun v H1 b f e i => by
    subst e
    exact hg v σ H1 f.j (s.fr f) i _ fun σ' H' f' s' => nx σ' H' Δ' (f.trans f') s' n
/-! ### for -/
theorem xs_for {g : TG} {Nn : Nat → Prop} {Y : Nat → A → Prop} (Inv : Nat → Nat → Env → Prop) (hi : XI K W wi Δ Nn Y) (h0 : ∀ n, Nn n → Inv n 0 Δ)
    (hs : ∀ n i a Δ1, Nn n → i < n → Y i a → Inv n i Δ1 → ∃ Δ2, GX K W g a Δ1 Δ2 ∧ XS K W ts Δ2 (Inv n (i + 1)) Rt N (Inv n (i + 1))) (hd : ∀ n Δ1, Nn n → Inv n n Δ1 → N Δ1) : XS K W (tFor wi g ts) Δ N Rt Bk Ct := fun σ H j s D nx rt bk ct =>
  hi σ H j s _ fun J H1 n f1 hn w => by
    refine ⟨fun i m σ2 H2 => m = n - i ∧ i ≤ n ∧ ∃ Δ2, Fr W H1 H2 ∧ StOk K W.M H2 σ2 Δ2 ∧ Inv n i Δ2, ⟨n, (Nat.sub_zero n).symm, Nat.zero_le n, Δ, .refl f1.j, s.fr f1, h0 n hn⟩, ?_⟩
    rintro i m σ2 H2 ⟨rfl, hi, Δ2, f2, s2, v2⟩
    by_cases l : i < n
    · obtain ⟨go, yl⟩ := (w H2 f2 i).1 l
      refine .inr ⟨go, fun σ3 H3 => ∃ Δ3, Fr W H1 H3 ∧ StOk K W.M H3 σ3 Δ3 ∧ Inv n (i + 1) Δ3, ?_, ?_⟩
      · rintro σ3 H3 ⟨Δ3, f3, s3, v3⟩
        exact ⟨n - (i + 1), by omega, rfl, l, Δ3, f3, s3, v3⟩
      · intro x H3 y
        obtain ⟨e, a, ya, ia⟩ := yl x H3 y
        subst e
        obtain ⟨Δ4, gx, body⟩ := hs n i a Δ2 hn l ya v2
        refine gx x σ2 H3 f2.j s2 (ia.fr f2) _ fun σ4 H4 f4 s4 => ?_
        have f24 := f2.trans f4
        exact body σ4 H4 f4.j s4 _ (fun σ5 H5 Δ5 f5 s5 n5 => ⟨Δ5, f24.trans f5, s5, n5⟩) (fun v H5 a f5 => rt v H5 a (f1.trans (f24.trans f5)))
          (fun σ5 H5 Δ5 f5 s5 n5 => nx σ5 H5 Δ5 (f1.trans (f24.trans f5)) s5 n5) (fun σ5 H5 Δ5 f5 s5 n5 => ⟨Δ5, f24.trans f5, s5, n5⟩)
    · obtain rfl : i = n := by omega
      exact .inl ⟨(w H2 f2 i).2 (Nat.le_refl _), nx σ2 H2 Δ2 (f1.trans f2) s2 (hd i Δ2 hn v2)⟩
/-- what stood ahead of a new address stands behind it with that one hidden -/
theorem same_in {H1 H3 : Hp} {D : Addr} {φ : HO → Prop} (f : Fr W H1 H3) (n : H1 D = none) : Same (hid W.M H1) (hid (W.add D φ).M H3) := fun a o e => by
  by_cases m : W.M a
  · rw [hid_in m] at e; cases e
  · rw [hid_out m] at e
    rw [hid_out fun z : W.M a ∨ a = D => z.elim m (ne_of_none e n)]
    exact f.keep a o m e
theorem hid_upd {M : Addr → Prop} {H : Hp} {D : Addr} {u : HO} (m : M D) : hid M (upd H D u) = hid M H := by
  funext a
  by_cases h : M a
  · rw [hid_in h, hid_in h]
  · rw [hid_out h, hid_out h, upd_ne fun e => h (by rw [e]; exact m)]
/-! ### comprehensions: one name, no test -/
theorem xe_lc {k : Nat} {Nn : Nat → Prop} {Y : Nat → A → Prop} {P : Nat → PyData → Prop} (hi : XI K W wi Δ Nn Y) (small : ∀ n, Nn n → n ≤ 100000)
    (hs : ∀ D φ i a, ¬ W.M D → Y i a → XE K (W.add D φ) te ((Δ.set k none).set k (some a)) fun b => ∃ d, b = .d d ∧ P i d) :
    XE K W (tLc wi (gName k) tYes te [k]) Δ fun b => ∃ ds : List PyData, Nn ds.length ∧ (∀ i d, ds[i]? = some d → P i d) ∧ b = .d (.list ds) := fun σ H j s Q q =>
  hi σ H j s _ fun J H1 n f1 hn w => by
    intro D nD
    have mD : ¬ W.M D := W.fresh f1.j nD
    have s1 := s.fr f1
    refine ⟨fun i m H2 => m = n - i ∧ i ≤ n ∧ ∃ ds vs, Fr W H1 H2 ∧ H2 D = some (.lst vs) ∧ DtAll K (hid (fun a => W.M a ∨ a = D) H2) vs ds ∧ ds.length = i ∧ ∀ i d, ds[i]? = some d → P i d,
      ⟨n, (Nat.sub_zero n).symm, Nat.zero_le n, [], [], .new f1.j nD, upd_same, .nil, rfl, fun i d e => by simp at e⟩, ?_⟩
    rintro i m H2 ⟨rfl, hi, ds, vs, f2, h2, d2, len, pr⟩
    by_cases l : i < n
    · obtain ⟨go, yl⟩ := (w H2 f2 i).1 l
      refine .inr ⟨go, fun H3 => ∃ ds vs, Fr W H1 H3 ∧ H3 D = some (.lst vs) ∧ DtAll K (hid (fun a => W.M a ∨ a = D) H3) vs ds ∧ ds.length = i + 1 ∧ ∀ i d, ds[i]? = some d → P i d, ?_, ?_⟩
      · rintro H3 ⟨ds3, vs3, r⟩
        exact ⟨n - (i + 1), by omega, rfl, l, ds3, vs3, r⟩
      · intro x H3 y
        obtain ⟨e, a, ya, ia⟩ := yl x H3 y
        subst e
        refine ⟨(show ((σ.set k none).set k (some x)).set k none = σ.set k none by rw [List.set_set, List.set_set]), ?_⟩
        unfold tYes
        dsimp only
        rw [if_pos rfl]
        have sD : StOk K (W.add D (· = .lst vs)).M H3 ((σ.set k none).set k (some x)) ((Δ.set k none).set k (some a)) :=
          ((s1.unset k none).ext (same_in f2 nD)).set k (ia.ext (same_in f2 nD))
        refine hs D (· = .lst vs) i a mD ya _ H3 ⟨f2.j, _, h2, rfl⟩ sD _ fun v H4 b f4 rb ib => ?_
        obtain ⟨d, eb, pd⟩ := rb
        subst eb
        obtain ⟨u4, h4, eu⟩ := f4.j.2
        subst eu
        have len4 : vs.length = i := by rw [d2.length]; exact len
        have f5 : Fr W H1 (upd H4 D (.lst (vs ++ [v]))) := by
          refine ⟨fun a o nm e => ?_, W.loc H4 _ (fun a m => upd_ne fun z => mD (z ▸ m)) f4.j.1⟩
          have ne : a ≠ D := ne_of_none e nD
          rw [upd_ne ne]
          exact f4.keep a o (fun z => z.elim nm ne) (f2.keep a o nm e)
        refine ⟨vs, h4, Nat.lt_of_le_of_lt (Nat.le_trans (by rw [len4]; exact Nat.le_of_lt l) (small n hn)) (by decide), ds ++ [d], vs ++ [v], f5, upd_same, ?_, by rw [List.length_append, len]; rfl, fun k2 d2' e => ?_⟩
        · rw [hid_upd (.inr rfl)]
          exact DtAll.append (DtAll.ext f4.same _ _ d2) (.cons ib .nil)
        · by_cases hk : k2 < ds.length
          · rw [List.getElem?_append_left hk] at e
            exact pr k2 d2' e
          · rw [List.getElem?_append_right (by omega)] at e
            have z : k2 - ds.length = 0 := by
              cases q : k2 - ds.length with
              | zero => rfl
              | succ m => rw [q] at e; simp at e
            rw [z] at e
            cases e
            have : k2 = i := by omega
            rw [this]
            exact pd
    · obtain rfl : i = n := by omega
      refine .inl ⟨(w H2 f2 i).2 (Nat.le_refl _), q _ H2 _ (f1.trans f2) ⟨ds, by rw [len]; exact hn, pr, rfl⟩ ?_⟩
      exact Dt.lst (by rw [hid_out mD]; exact h2) (DtAll.ext (hid_add_le (φ := fun _ => True)) _ _ d2)
end

/-! ### defs -/
def spD (K : PySem.W.Frag) (pre : Wd → List A → Prop) (post : List A → A → Prop) : Sp := fun vs H Q _ =>
  ∃ (W : Wd) (as : List A), W.J H ∧ pre W as ∧ IsAll K W.M H vs as ∧ ∀ v H' a, Fr W H H' → post as a → Is K W.M H' v a → Q v H'
def startE (N : List Str) (as : List A) : Env := as.map some ++ List.replicate (N.length - as.length) none
section
variable {P : Program} {w : World} {K : PySem.W.Frag} {mg : Str → Option Value} {base : Heap} {k : Nat} {f : Addr} {fd : FuncData} {ps N : List Str} {pre : Wd → List A → Prop} {post : List A → A → Prop} {x qual : Str} {st : Stmt}
theorem isAll_get {M : Addr → Prop} {H : Hp} : ∀ {vs : List V} {as : List A} {i : Nat} {a : A}, IsAll K M H vs as → as[i]? = some a → ∃ v, vs[i]? = some v ∧ Is K M H v a
  | _, _, i, a, .nil, h => by simp at h
  | _, _, 0, a, .cons h _, e => by simp at e; subst e; exact ⟨_, rfl, h⟩
  | _, _, i + 1, a, .cons _ q, e => by
    obtain ⟨v, h1, h2⟩ := isAll_get (i := i) (a := a) q (by simpa using e)
    exact ⟨v, by simpa using h1, h2⟩
theorem stOk_start {M : Addr → Prop} {H : Hp} {vs : List V} {as : List A} (h : IsAll K M H vs as) : StOk K M H (L2.start N vs) (startE N as) := by
  have l := h.length
  refine ⟨by unfold L2.start startE; rw [List.length_append, List.length_append, List.length_map, List.length_map, List.length_replicate, List.length_replicate, l], fun i a e => ?_⟩
  unfold startE at e
  by_cases hi : i < as.length
  · rw [List.getElem?_append_left (by rw [List.length_map]; exact hi), List.getElem?_map] at e
    cases q : as[i]? with
    | none => rw [q] at e; cases e
    | some b =>
      rw [q] at e
      cases e
      obtain ⟨v, h1, h2⟩ := isAll_get h q
      refine ⟨v, ?_, h2⟩
      unfold L2.start
      rw [List.getElem?_append_left (by rw [List.length_map, l]; exact hi), List.getElem?_map, h1]
      rfl
  · rw [List.getElem?_append_right (by rw [List.length_map]; omega), List.getElem?_replicate] at e
    split at e <;> cases e
abbrev No : Env → Prop := fun _ => False
/-- what a body must do -/
def Body (K : PySem.W.Frag) (N : List Str) (pre : Wd → List A → Prop) (post : List A → A → Prop) (t : TS) : Prop :=
  ∀ W as, pre W as → XS K W t (startE N as) (fun _ => post as (.d .none)) (post as) No No
theorem body_run {t : TS} (h : Body K N pre post t) {vs : List V} {H : Hp} {Q : VK} {E : XK} (s : spD K pre post vs H Q E) : t ⟨fun _ H' => Q .non H', Q, fun _ _ => False, fun _ _ => False⟩ (L2.start N vs) H := by
  obtain ⟨W, as, j, p, i, q⟩ := s
  exact h W as p _ H j (stOk_start i) _ (fun σ' H' Δ' f _ n => q _ H' _ f n .non) (fun v H' a f r i' => q v H' a f r i') (fun _ _ _ _ _ z => z.elim) fun _ _ _ _ _ z => z.elim
theorem okD (F : Fun K x qual st f fd) (S : FnScope N ps (defScope st)) (ar : ∀ W as, pre W as → as.length = ps.length)
    (body : ∀ (cdv : Value) (A : Around) (outer : List PySem.Env) (s : Shared) (H : Hp) (E : XK), Room k (A.deeper (envOfC qual (defScope st) s.heap.objs.size f cdv)) →
      ∃ t, PSs (cxOf CX0 P w K mg base N qual (defScope st) f cdv A outer s H E).nox (defBody st) t ∧ Body K N pre post t) : FnOk P w K mg base CX0 (k + 1) f fd ps (spD K pre post) :=
  F.ok S (fun vs H Q E ⟨W, as, _, p, i, _⟩ => by rw [i.length]; exact ar W as p) fun cdv A outer s H vs Q E hr h => by
    obtain ⟨t, ht, hb⟩ := body cdv A outer s H E hr
    exact ⟨t, ht, body_run hb h⟩
theorem okDG (F : Fun K x qual st f fd) (S : FnScope N ps (defScope st)) (ar : ∀ W as, pre W as → as.length = ps.length)
    (body : ∀ (cdv : Value) (A : Around) (outer : List PySem.Env) (s : Shared) (H : Hp) (E : XK), Room k (A.deeper (envOfC qual (defScope st) s.heap.objs.size f cdv)) → NoG A →
      ∃ t, PSs (cxOf CX0 P w K mg base N qual (defScope st) f cdv A outer s H E).nox (defBody st) t ∧ Body K N pre post t) : FnG P w K mg base CX0 (k + 1) f fd ps (spD K pre post) :=
  okG F S (fun vs H Q E ⟨W, as, _, p, i, _⟩ => by rw [i.length]; exact ar W as p) fun cdv A outer s H vs Q E hr ng h => by
    obtain ⟨t, ht, hb⟩ := body cdv A outer s H E hr ng
    exact ⟨t, ht.nox, body_run hb h⟩
variable {W : Wd} {Δ : Env} {ta : TA} {E : XK}
theorem xe_callR {Ra : List A → Prop} {R : A → Prop} (h : XA K W ta Δ Ra) (p : ∀ as, Ra as → pre W as) (q : ∀ as a, Ra as → post as a → R a) : XE K W (tCall (spD K pre post) [] E ta) Δ R := fun σ H j s Q k =>
  h σ H j s _ fun vs H1 as f1 ra i1 => by
    rw [List.append_nil]
    exact ⟨W, as, f1.j, p as ra, i1, fun v H' a f r i => k v H' a (f1.trans f) (q as a ra r) i⟩
theorem xe_call {as : List A} (h : XAs K W ta Δ as) (p : pre W as) : XE K W (tCall (spD K pre post) [] E ta) Δ (post as) := xe_callR h (fun _ e => e ▸ p) fun _ _ e r => e ▸ r
end
end V2
namespace V2
open PySem PySem.Spec PyProof.Rows L2
/-! ### more rules -/
def rTupOf (K : PySem.W.Frag) : List V → Hp → VK → Prop := fun xs H Q => ∃ p ys, xs = [.ref p] ∧ ((SqL K H p ys ∧ ∀ l, H l = none → Q (.ref l) (upd H l (.tup ys))) ∨ (SqT K H p ys ∧ Q (.ref p) H))
def rLstOf (K : PySem.W.Frag) : List V → Hp → VK → Prop := fun xs H Q => ∃ p ys, xs = [.ref p] ∧ (SqL K H p ys ∨ SqT K H p ys) ∧ ∀ l, H l = none → Q (.ref l) (upd H l (.lst ys))
section
variable {X : Cx}
theorem c_tup : CallR X (.type "tuple") (rTupOf X.K) := call_tuple_of
theorem c_lst : CallR X (.type "list") (rLstOf X.K) := call_list_of
theorem pe_const {x : Str} {v : V} {pos : Pos} (hg : Gl X x) (h : ∃ u, X.mg x = some u ∧ RelV v u) (hd : (x == ("__debug__" : Str)) = false := by decide) : PE X (.Name x pos) (tC v) := by
  obtain ⟨u, h1, h2⟩ := h
  exact pe_glob hg h1 h2 hd
end
theorem cut_to (xs : List V) (n : Nat) : cutV xs none (some (n : Int)) = xs.take n := by
  unfold cutV
  rw [HT.sIx_none, HT.sIx_nat, List.drop_zero, Nat.sub_zero]
  by_cases h : n ≤ xs.length
  · rw [Nat.min_eq_left h]
  · rw [Nat.min_eq_right (by omega), List.take_length, List.take_of_length_le (by omega)]
theorem cut_from (xs : List V) (n : Nat) : cutV xs (some (n : Int)) none = xs.drop n := by
  unfold cutV
  rw [HT.sIx_none, HT.sIx_nat]
  by_cases h : n ≤ xs.length
  · rw [Nat.min_eq_left h, List.take_of_length_le (by rw [List.length_drop]; omega)]
  · rw [Nat.min_eq_right (by omega), List.drop_eq_nil_of_le (Nat.le_refl _), List.drop_eq_nil_of_le (by omega), List.take_nil]
section
variable {K : PySem.W.Frag} {W : Wd} {Δ : Env} {ta tb tc te tl : TE} {R S T : A → Prop}
theorem xe_ktup {a : Addr} {xs : List V} (h : ∀ H, SqT K H a xs) {ds : List PyData} (e : xs = ds.map vOf) (f : ds.all flat = true) : XV K W (tC (.ref a)) Δ (.d (.tuple ds)) := fun σ H j _ Q q => by
  refine q _ H _ (.refl j) rfl (.tup (h _) ?_)
  subst e
  clear h q
  induction ds with
  | nil => exact .nil
  | cons d r ih =>
    rw [List.all_cons, Bool.and_eq_true] at f
    exact .cons (Dt.ofFlat f.1) (ih f.2)
theorem xe_dnew : XV K W tDNewK Δ (.d (.dict [])) := fun σ H j s Q q => fun p np => q _ _ _ (.new j np) rfl (.dct (hid_new j np) .nil)
theorem xe_slTo {xs : List PyData} {n : Int} (h : XV K W te Δ (.d (.list xs))) (hn : XV K W ta Δ (.d (.int n))) (h0 : 0 ≤ n) : XV K W (tSl (rSlL K) te tNoPart (tPart ta)) Δ (.d (.list (xs.take n.toNat))) := fun σ H j s Q q =>
  h σ H j s _ fun v H1 a f1 e i1 => by
    subst e
    refine hn σ H1 f1.j (s.fr f1) _ fun w H2 b f2 e i2 => ?_
    subst e
    cases i2
    cases i1.fr f2 with
    | lst h1 d1 =>
      refine ⟨n, rfl, _, _, rfl, .inl (.inl (hid_le _ _ h1)), fun p np => q _ _ _ ((f1.trans f2).trans (.new f2.j np)) rfl ?_⟩
      refine Dt.lst (hid_new f2.j np) ?_
      rw [show n = ((n.toNat : Nat) : Int) by omega, cut_to]
      exact DtAll.take _ (DtAll.ext (Fr.same (.new f2.j np)) _ _ d1)
theorem xe_slFrom {xs : List PyData} {n : Int} (h : XV K W te Δ (.d (.list xs))) (hn : XV K W ta Δ (.d (.int n))) (h0 : 0 ≤ n) : XV K W (tSl (rSlL K) te (tPart ta) tNoPart) Δ (.d (.list (xs.drop n.toNat))) := fun σ H j s Q q =>
  h σ H j s _ fun v H1 a f1 e i1 => by
    subst e
    refine hn σ H1 f1.j (s.fr f1) _ fun w H2 b f2 e i2 => ?_
    subst e
    cases i2
    cases i1.fr f2 with
    | lst h1 d1 =>
      refine ⟨n, rfl, _, _, rfl, .inl (.inl (hid_le _ _ h1)), fun p np => q _ _ _ ((f1.trans f2).trans (.new f2.j np)) rfl ?_⟩
      refine Dt.lst (hid_new f2.j np) ?_
      rw [show n = ((n.toNat : Nat) : Int) by omega, cut_from]
      exact DtAll.drop _ (DtAll.ext (Fr.same (.new f2.j np)) _ _ d1)
theorem xe_rev {xs : List PyData} (h : XV K W te Δ (.d (.list xs))) : XV K W (tRevL K te) Δ (.d (.list xs.reverse)) := fun σ H j s Q q =>
  h σ H j s _ fun v H1 a f1 e i1 => by
    subst e
    cases i1 with
    | lst h1 d1 => exact ⟨_, _, rfl, .inl (.inl (hid_le _ _ h1)), fun p np => q _ _ _ (f1.trans (.new f1.j np)) rfl (Dt.lst (hid_new f1.j np) (DtAll.reverse (DtAll.ext (Fr.same (.new f1.j np)) _ _ d1)))⟩
theorem cx_tup {xs : List PyData} : CX1 K W (rTupOf K) [.d (.list xs)] (· = .d (.tuple xs)) := fun vs H j i Q q => by
  cases i with
  | cons h t =>
    cases t
    cases h with
    | lst h1 d1 => exact ⟨_, _, rfl, .inl ⟨.inl (.inl (hid_le _ _ h1)), fun p np => q _ _ _ (.new j np) rfl (Dt.tup (.inl (.inl (hid_new j np))) (DtAll.ext (Fr.same (.new j np)) _ _ d1))⟩⟩
end

/-! ### pools: two whole numbers, drawn from -/
structure HasPool (W : Wd) (a : Addr) : Prop where
  mem : W.M a
  get : ∀ H, W.J H → ∃ n s : Int, H a = some (.lst [.int n, .int s]) ∧ 0 ≤ s ∧ s < 2147483647
  put : ∀ H (n s : Int), W.J H → 0 ≤ s → s < 2147483647 → W.J (upd H a (.lst [.int n, .int s]))
theorem HasPool.add {W : Wd} {a D : Addr} {φ : HO → Prop} (h : HasPool W a) (n : ¬ W.M D) : HasPool (W.add D φ) a where
  mem := .inl h.mem
  get H j := h.get H j.1
  put H n' s j h0 h1 := ⟨h.put H n' s j.1 h0 h1, by
    obtain ⟨u, e, p⟩ := j.2
    exact ⟨u, by rw [upd_ne fun e : D = a => n (e ▸ h.mem)]; exact e, p⟩⟩
def isPool (u : HO) : Prop := ∃ n s : Int, u = .lst [.int n, .int s] ∧ 0 ≤ s ∧ s < 2147483647
theorem hasPool_new {W : Wd} {D : Addr} (n : ¬ W.M D) : HasPool (W.add D isPool) D where
  mem := .inr rfl
  get H j := by
    obtain ⟨u, e, n, s, rfl, h⟩ := j.2
    exact ⟨n, s, e, h⟩
  put H n' s j h0 h1 := ⟨W.loc H _ (fun a m => upd_ne fun e => n (e ▸ m)) j.1, _, upd_same, n', s, rfl, h0, h1⟩
/-- the world in which nothing may change -/
def W0 : Wd where
  M _ := False
  J _ := True
  live _ _ _ h := h.elim
  loc _ _ _ h := h
theorem Fr.poolput {W : Wd} {H : Hp} {a : Addr} (h : HasPool W a) (j : W.J H) {n s : Int} (h0 : 0 ≤ s) (h1 : s < 2147483647) : Fr W H (upd H a (.lst [.int n, .int s])) :=
  ⟨fun b o nm e => by rw [upd_ne fun z : b = a => nm (by rw [z]; exact h.mem)]; exact e, h.put H n s j h0 h1⟩
end V2
namespace V2
open PySem PySem.Spec PyProof.Rows L2
theorem xa_one {K : PySem.W.Frag} {W : Wd} {Δ : Env} {te : TE} {R : A → Prop} (h : XE K W te Δ R) : XA K W (tCons te tNil) Δ fun as => ∃ a, as = [a] ∧ R a := fun σ H j s Q q =>
  h σ H j s _ fun v H1 a f r i => q _ H1 _ f ⟨a, rfl, r⟩ (.cons i .nil)
end V2
namespace V2
open PySem PySem.Spec PyProof.Rows L2
section
variable {K : PySem.W.Frag} {W : Wd} {Δ : Env} {tl te : TE} {k : Nat}
theorem xe_lcL {xs : List PyData} {g : PyData → PyData} (h : XV K W tl Δ (.d (.list xs))) (n : xs.length ≤ 100000) (hs : ∀ D φ d, ¬ W.M D → d ∈ xs → XV K (W.add D φ) te ((Δ.set k none).set k (some (.d d))) (.d (g d))) :
    XV K W (tLc (iList K tl) (gName k) tYes te [k]) Δ (.d (.list (xs.map g))) :=
  XE.mono (xe_lc (P := fun i d => ∃ x, xs[i]? = some x ∧ d = g x) (xi_list h) (fun m e => by rw [e]; exact n) fun D φ i a mD ⟨d, hd, ea⟩ => by
      subst ea
      exact XE.mono (hs D φ d mD (List.mem_of_getElem? hd)) fun a e => ⟨g d, e, d, hd, rfl⟩)
    fun a ⟨ds, hl, hp, e⟩ => by
      subst e
      have z : ds = xs.map g := by
        refine List.ext_getElem? fun i => ?_
        rw [List.getElem?_map]
        by_cases hi : i < ds.length
        · obtain ⟨c, h1, h2⟩ := hp i ds[i] (List.getElem?_eq_getElem hi)
          rw [h1, List.getElem?_eq_getElem hi, h2]
          rfl
        · rw [List.getElem?_eq_none (by omega), List.getElem?_eq_none (by omega)]
          rfl
      rw [z]
theorem xe_lcS {s : Str} {g : Nat → PyData} (h : XV K W tl Δ (.d (.str s))) (n : s.length ≤ 100000) (hs : ∀ D φ c, ¬ W.M D → XV K (W.add D φ) te ((Δ.set k none).set k (some (.d (.str (oneS c))))) (.d (g c))) :
    XV K W (tLc (iStr tl) (gName k) tYes te [k]) Δ (.d (.list (s.cps.toList.map g))) :=
  XE.mono (xe_lc (P := fun i d => ∃ x, s.cps[i]? = some x ∧ d = g x) (xi_str h) (fun m e => by rw [e]; exact n) fun D φ i a mD ⟨d, hd, ea⟩ => by
      subst ea
      exact XE.mono (hs D φ d mD) fun a e => ⟨g d, e, d, hd, rfl⟩)
    fun a ⟨ds, hl, hp, e⟩ => by
      subst e
      have q : ∀ i : Nat, s.cps.toList[i]? = s.cps[i]? := fun i => Array.getElem?_toList ..
      have hl2 : ds.length = s.cps.toList.length := hl
      have z : ds = s.cps.toList.map g := by
        refine List.ext_getElem? fun i => ?_
        rw [List.getElem?_map, q]
        by_cases hi : i < ds.length
        · obtain ⟨c, h1, h2⟩ := hp i ds[i] (List.getElem?_eq_getElem hi)
          rw [h1, List.getElem?_eq_getElem hi, h2]
          rfl
        · rw [← q, List.getElem?_eq_none (by omega), List.getElem?_eq_none (by omega)]
          rfl
      rw [z]
theorem bools_of {α : Type} (l : List α) (g : α → Bool) : (l.map fun c => PyData.bool (g c)) = (l.map g).map PyData.bool := by rw [List.map_map]; rfl
end
end V2
namespace V2
open PySem PySem.Spec PyProof.Rows L2
section
variable {K : PySem.W.Frag} {W : Wd} {Δ : Env} {te : TE} {k : Nat} {N : Env → Prop} {Rt : A → Prop} {Bk Ct : Env → Prop}
theorem xs_aug {i : Nat} {ti : TIp} {a b c : A} (ha : Δ[i]? = some (some a)) (h : XV K W te Δ b) (o : OX K W ti a b (· = c)) (n : N (Δ.set i (some c))) : XS K W (tAug i te ti) Δ N Rt Bk Ct := fun σ H j s D nx _ _ _ => by
  obtain ⟨x, hx, ix⟩ := s.get i a ha
  refine ⟨x, hx, h σ H j s _ fun y H1 b' f1 e i1 => ?_⟩
  subst e
  refine o x y H1 f1.j (ix.fr f1) i1 _ fun z H2 c' f2 e i2 => ?_
  subst e
  exact nx _ H2 _ (f1.trans f2) ((s.fr (f1.trans f2)).set i i2) n
theorem ox_ipI {f : Int → Int → Int} {i j : Int} : OX K W (ipI f) (.d (.int i)) (.d (.int j)) (· = .d (.int (f i j))) := fun v w H j' i1 i2 Q q => by
  cases i1; cases i2
  exact ⟨_, _, rfl, rfl, q _ H _ (.refl j') rfl (.int _)⟩
end
end V2
namespace V2
open PySem PySem.Spec PyProof.Rows L2
section
variable {K : PySem.W.Frag} {W : Wd} {Δ : Env} {ta tb te : TE} {N : Env → Prop} {Rt : A → Prop} {Bk Ct : Env → Prop} {ts tu : TS} {R : A → Prop}
theorem sqL_le {M : Addr → Prop} {H : Hp} {a : Addr} {xs : List V} (h : SqL K (hid M H) a xs) : SqL K H a xs := Same.seq hid_le h
theorem cx_lenI {ns : List Int} : CX1 K W (rLen K) [.s ns] (· = .d (.int ns.length)) := fun vs H j i Q q => by
  cases i with
  | cons h t =>
    cases t
    obtain ⟨a, rfl, h⟩ := h
    exact ⟨_, _, rfl, .inl (sqL_le h), by rw [List.length_map]; exact q _ H _ (.refl j) rfl (.int _)⟩
theorem ox_ixI {ns : List Int} {i n : Int} (h0 : 0 ≤ i) (h : ns[i.toNat]? = some n) : OX K W (rIxL K) (.s ns) (.d (.int i)) (· = .d (.int n)) := fun v w H j i1 i2 Q q => by
  cases i2
  obtain ⟨a, rfl, hs⟩ := i1
  exact ⟨_, _, _, .int n, rfl, rfl, sqL_le hs, at_of (j := i.toNat) (by omega) (by rw [List.getElem?_map, h]; rfl), q _ H _ (.refl j) rfl (.int _)⟩
/-- whole numbers of which something is known -/
abbrev IntR (p : Int → Prop) : A → Prop := fun a => ∃ n, a = .d (.int n) ∧ p n
theorem xe_intR {p q u : Int → Prop} {r : R2} (ha : XE K W ta Δ (IntR p)) (hb : XE K W tb Δ (IntR q)) (h : ∀ i j, p i → q j → OX K W r (.d (.int i)) (.d (.int j)) (IntR u)) : XE K W (tOp r ta tb) Δ (IntR u) :=
  xe_opR ha hb fun a b ⟨i, e, hi⟩ ⟨j, e', hj⟩ => by
    subst e e'
    exact h i j hi hj
theorem OX.is {r : R2} {a b c : A} (h : OX K W r a b (· = c)) (m : R c) : OX K W r a b R := fun v w H j i1 i2 Q q => h v w H j i1 i2 Q fun u H' c' f e i => by
  subst e
  exact q u H' c' f m i
theorem xe_intC {p : Int → Prop} {n : Int} (h : p n) : XE K W (tC (.int n)) Δ (IntR p) := XE.mono xe_int fun a e => ⟨n, e, h⟩
theorem xe_pool0 {i : Nat} {pa : Addr} (hv : Δ[i]? = some (some (.v (.ref pa)))) (hp : HasPool W pa) : XE K W (tOp (rIxL K) (tVar i) (tC (.int 0))) Δ (IntR fun _ => True) := fun σ H j s Q q => by
  obtain ⟨v, h1, h2⟩ := s.get i _ hv
  have e : v = .ref pa := h2
  subst e
  obtain ⟨n, m, h, _⟩ := hp.get H j
  exact ⟨_, h1, pa, _, 0, .int n, rfl, rfl, .inl (.inl h), atI_nat (j := 0) rfl, q _ H _ (.refl j) ⟨n, rfl, trivial⟩ (.int _)⟩
theorem xe_pool1 {i : Nat} {pa : Addr} (hv : Δ[i]? = some (some (.v (.ref pa)))) (hp : HasPool W pa) : XE K W (tOp (rIxL K) (tVar i) (tC (.int 1))) Δ (IntR fun s => 0 ≤ s ∧ s < 2147483647) := fun σ H j s Q q => by
  obtain ⟨v, h1, h2⟩ := s.get i _ hv
  have e : v = .ref pa := h2
  subst e
  obtain ⟨n, m, h, hm⟩ := hp.get H j
  exact ⟨_, h1, pa, _, 1, .int m, rfl, rfl, .inl (.inl h), atI_nat (j := 1) rfl, q _ H _ (.refl j) ⟨m, rfl, hm⟩ (.int _)⟩
theorem xs_pool0 {i : Nat} {pa : Addr} (hv : Δ[i]? = some (some (.v (.ref pa)))) (hp : HasPool W pa) (h : XE K W te Δ (IntR fun _ => True)) (n : N Δ) : XS K W (tAsg te (gSub (tVar i) (tC (.int 0)) rSetL)) Δ N Rt Bk Ct := fun σ H j s D nx _ _ _ =>
  h σ H j s _ fun v H1 a f1 r i1 => by
    obtain ⟨k, e, _⟩ := r
    subst e
    cases i1
    obtain ⟨v, h1, h2⟩ := (s.fr f1).get i _ hv
    have e : v = .ref pa := h2
    subst e
    obtain ⟨n0, m, g, hm⟩ := hp.get H1 f1.j
    have f2 : Fr W H1 (upd H1 pa (.lst [.int k, .int m])) := .poolput hp f1.j hm.1 hm.2
    exact ⟨_, h1, pa, _, 0, 0, rfl, rfl, g, rfl, nx _ _ _ (f1.trans f2) (s.fr (f1.trans f2)) n⟩
theorem xs_pool1 {i : Nat} {pa : Addr} (hv : Δ[i]? = some (some (.v (.ref pa)))) (hp : HasPool W pa) (h : XE K W te Δ (IntR fun s => 0 ≤ s ∧ s < 2147483647)) (n : N Δ) : XS K W (tAsg te (gSub (tVar i) (tC (.int 1)) rSetL)) Δ N Rt Bk Ct := fun σ H j s D nx _ _ _ =>
  h σ H j s _ fun v H1 a f1 r i1 => by
    obtain ⟨k, e, hk⟩ := r
    subst e
    cases i1
    obtain ⟨v, h1, h2⟩ := (s.fr f1).get i _ hv
    have e : v = .ref pa := h2
    subst e
    obtain ⟨n0, m, g, hm⟩ := hp.get H1 f1.j
    have f2 : Fr W H1 (upd H1 pa (.lst [.int n0, .int k])) := .poolput hp f1.j hk.1 hk.2
    exact ⟨_, h1, pa, _, 1, 1, rfl, rfl, g, rfl, nx _ _ _ (f1.trans f2) (s.fr (f1.trans f2)) n⟩
/-- a statement by the rules, then the rest as it reads -/
theorem xs_then (h : XS K W ts Δ N (fun _ => False) No No) {σ : L2.St} {H : Hp} {D : Ends} (j : W.J H) (s : StOk K W.M H σ Δ) (k : ∀ σ' H' Δ', Fr W H H' → StOk K W.M H' σ' Δ' → N Δ' → tu D σ' H') : tSeq ts tu D σ H :=
  h σ H j s _ k (fun _ _ _ _ z => z.elim) (fun _ _ _ _ _ z => z.elim) fun _ _ _ _ _ z => z.elim
theorem xs_testR2 {R1 R2' : A → Prop} {r : R2} {B : Bool → Prop} (ha : XE K W ta Δ R1) (hb : XE K W tb Δ R2') (h : ∀ a b, R1 a → R2' b → OX K W r a b fun c => ∃ b, c = .d (.bool b) ∧ B b) : XT K W (tTest (tOp r ta tb)) Δ B := xt_testR (xe_opR ha hb h)
end
/-- a promise of a def that draws -/
def preTake (W : Wd) (as : List A) : Prop := ∃ pa m, as = [.v (.ref pa), .d (.int m)] ∧ HasPool W pa ∧ 0 < m ∧ m < 1000000
def postTake (as : List A) (a : A) : Prop := match as with | [_, .d (.int m)] => ∃ i, a = .d (.int i) ∧ 0 ≤ i ∧ i < m | _ => False
/-- the law's maker of pools -/
def spPool (K : PySem.W.Frag) : Sp := fun vs H Q _ => ∃ (a : Addr) (ns : List Int) (k : Int), vs = [.ref a, .int k] ∧ SqL K H a (ns.map V.int) ∧ ns.length ≤ 63 ∧ 0 ≤ k ∧ k < 1000 ∧
  ∀ p H', Same H H' → H p = none → (∃ u, H' p = some u ∧ isPool u) → Q (.ref p) H'
end V2
namespace V2
open PySem PySem.Spec PyProof.Rows L2
def rNegI : V → Hp → VK → Prop := rU fun i => .int (-i)
def rPowS : R2 := rI CPow fun i j => .int (i ^ j.toNat)
theorem o_neg {X : Cx} : UnR X (unaryOp .USub) rNegI := un_neg
theorem o_pow {X : Cx} : OpR X (binaryOp .Pow) rPowS := op_pow
section
variable {K : PySem.W.Frag} {W : Wd} {Δ : Env} {ta tb te : TE}
theorem xe_neg {i : Int} (h : XV K W ta Δ (.d (.int i))) : XV K W (tUn rNegI ta) Δ (.d (.int (-i))) := fun σ H j s Q q =>
  h σ H j s _ fun v H1 a f e i1 => by
    subst e
    cases i1
    exact ⟨_, rfl, q _ H1 _ f rfl (.int _)⟩
theorem ox_pow {i j : Int} (h : CPow i j) : OX K W rPowS (.d (.int i)) (.d (.int j)) (· = .d (.int (i ^ j.toNat))) := fun v w H j' i1 i2 Q q => by
  cases i1; cases i2
  exact ⟨_, _, rfl, rfl, h, q _ H _ (.refl j') rfl (.int _)⟩
theorem hid_W0 {H : Hp} : hid W0.M H = H := funext fun a => hid_out fun h => h
end
end V2

set_option Elab.async false
set_option linter.all false
set_option maxRecDepth 100000
set_option maxHeartbeats 1000000
namespace V2
open PySem PySem.Spec PyProof.Rows L2
/-! ### lists that a loop grows -/
section
variable {K : PySem.W.Frag} {W : Wd} {Δ : Env} {ta tb te : TE} {t : TA} {R S : List PyData → Prop}
def XN (K : PySem.W.Frag) (W : Wd) (te : TE) (Δ : Env) (R : List PyData → Prop) : Prop := ∀ σ H, W.J H → StOk K W.M H σ Δ → ∀ Q : VK,
  (∀ p H' vs ds, Fr W H H' → H p = none → R ds → H' p = some (.lst vs) → DtAll K (hid (fun a => W.M a ∨ a = p) H') vs ds → Q (.ref p) H') → te σ H Q
theorem same_new {H H' : Hp} {p : Addr} {o : HO} (j : W.J H) (np : H p = none) : Same (hid W.M H) (hid (fun a => W.M a ∨ a = p) (upd H p o)) := fun a u e => by
  by_cases m : W.M a
  · rw [hid_in m] at e; cases e
  · rw [hid_out m] at e
    have q := ne_of_none e np
    rw [hid_out fun z : W.M a ∨ a = p => z.elim m q, upd_ne q]
    exact e
theorem xn_lst {ds : List PyData} (h : XAs K W t Δ (dAll ds)) (n : ds.length ≤ 10000 := by decide) : XN K W (tLst t) Δ (· = ds) := fun σ H j s Q q =>
  h σ H j s _ fun vs H1 as f1 e i => by
    subst e
    have d := dts_of i
    refine ⟨by rw [d.length]; exact Nat.le_trans n (by decide), fun p np => ?_⟩
    have n0 : H p = none := by
      cases z : H p with
      | none => rfl
      | some o =>
        have m : ¬ W.M p := W.fresh f1.j np
        rw [f1.keep p o m z] at np
        cases np
    exact q p _ vs ds (f1.trans (.new f1.j np)) n0 rfl upd_same (DtAll.ext (same_new (H' := H1) f1.j np) _ _ d)
theorem xn_cat {Ra Rb : A → Prop} (ha : XE K W ta Δ fun a => ∃ xs : List PyData, a = .d (.list xs) ∧ R xs) (hb : XE K W tb Δ fun a => ∃ xs : List PyData, a = .d (.list xs) ∧ S xs) (n : ∀ xs ys, R xs → S ys → xs.length + ys.length ≤ 100000) :
    XN K W (tOp rCat ta tb) Δ fun ds => ∃ xs ys, ds = xs ++ ys ∧ R xs ∧ S ys := fun σ H j s Q q =>
  ha σ H j s _ fun v H1 a f1 ra i1 => hb σ H1 f1.j (s.fr f1) _ fun w H2 b f2 rb i2 => by
    obtain ⟨xs, e, rx⟩ := ra
    subst e
    obtain ⟨ys, e, ry⟩ := rb
    subst e
    cases i1.fr f2 with
    | lst h1 d1 =>
      cases i2 with
      | lst h2 d2 =>
        refine ⟨_, _, _, _, rfl, rfl, hid_le _ _ h1, hid_le _ _ h2, by rw [d1.length, d2.length]; exact Nat.le_trans (n xs ys rx ry) (by decide), fun p np => ?_⟩
        have f := f1.trans f2
        have n0 : H p = none := by
          cases z : H p with
          | none => rfl
          | some o =>
            rw [f.keep p o (W.fresh f.j np) z] at np
            cases np
        exact q p _ _ _ (f.trans (.new f.j np)) n0 ⟨xs, ys, rfl, rx, ry⟩ upd_same (DtAll.append (DtAll.ext (same_new (H' := H) f.j np) _ _ d1) (DtAll.ext (same_new (H' := H) f.j np) _ _ d2))
/-- the k-th name holds a list of one's own -/
structure Own (K : PySem.W.Frag) (W : Wd) (k : Nat) (H0 H : Hp) (σ : L2.St) (Δ : Env) (ds : List PyData) : Prop where
  fr : Fr W H0 H
  it : ∃ D vs, H0 D = none ∧ ¬ W.M D ∧ H D = some (.lst vs) ∧ DtAll K (hid (fun a => W.M a ∨ a = D) H) vs ds ∧ σ[k]? = some (some (.ref D)) ∧ StOk K (fun a => W.M a ∨ a = D) H σ Δ
theorem hid_or_le {W : Wd} {H : Hp} {D : Addr} : Same (hid (fun a => W.M a ∨ a = D) H) (hid W.M H) := hid_add_le (φ := fun _ => True)
variable {k : Nat} {H0 H : Hp} {σ : L2.St} {ds : List PyData} {D : Ends}
/-- read as data -/
theorem Own.st (h : Own K W k H0 H σ Δ ds) : StOk K W.M H σ (Δ.set k (some (.d (.list ds)))) := by
  obtain ⟨p, vs, n0, m, hp, dd, hk, s⟩ := h.it
  have s' : StOk K W.M H σ Δ := s.ext hid_or_le
  have i : Is K W.M H (.ref p) (.d (.list ds)) := Dt.lst (by rw [hid_out m]; exact hp) (DtAll.ext hid_or_le _ _ dd)
  have z := s'.set k i
  have e : σ.set k (some (.ref p)) = σ := by
    obtain ⟨l, e⟩ := List.getElem?_eq_some_iff.mp hk
    rw [← e]
    exact List.set_getElem_self l
  rw [e] at z
  exact z
/-- it is set to a new list -/
theorem own_set (f0 : Fr W H0 H) (s : StOk K W.M H σ Δ) (hk : k < σ.length) (h : XN K W te Δ R) (q : ∀ v H' ds, R ds → Own K W k H0 H' (σ.set k (some v)) (Δ.set k none) ds → D.nx (σ.set k (some v)) H') : tAsg te (gName k) D σ H :=
  h σ H f0.j s _ fun p H' vs ds f np r hp dd => by
    have n0 : H0 p = none := by
      cases z : H0 p with
      | none => rfl
      | some o =>
        have m : ¬ W.M p := W.fresh f0.j np
        rw [f0.keep p o m z] at np
        cases np
    refine q _ H' ds r ⟨f0.trans f, p, vs, n0, W.fresh f0.j np, hp, dd, List.getElem?_set_self hk, ?_⟩
    refine StOk.unset (s.ext (fun a o e => ?_)) k _
    by_cases m : W.M a
    · rw [hid_in m] at e; cases e
    · rw [hid_out m] at e
      rw [hid_out fun z : W.M a ∨ a = p => z.elim m (ne_of_none e np)]
      exact f.keep a o m e
/-- something is appended -/
theorem own_append (h : Own K W k H0 H σ Δ ds) {P : PyData → Prop} (small : ds.length ≤ 100000) (he : ∀ p φ, ¬ W.M p → XE K (W.add p φ) te Δ fun a => ∃ d, a = .d d ∧ P d)
    (q : ∀ H' d, P d → Own K W k H0 H' σ Δ (ds ++ [d]) → D.nx σ H') : tDrop (tBM K "list" rAppend (tVar k) (tCons te tNil)) D σ H := by
  obtain ⟨p, vs, n0, m, hp, dd, hk, s⟩ := h.it
  refine ⟨_, hk, .inl ⟨rfl, _, .inl (.inl hp)⟩, ?_⟩
  refine he p (· = .lst vs) m σ H ⟨h.fr.j, _, hp, rfl⟩ s _ fun v H1 a f1 r i1 => ?_
  obtain ⟨d, e, pd⟩ := r
  subst e
  obtain ⟨u, hp1, e⟩ := f1.j.2
  subst e
  refine ⟨p, vs, v, rfl, rfl, hp1, Nat.lt_of_le_of_lt (by rw [dd.length]; exact small) (by decide), q _ d pd ⟨?_, p, vs ++ [v], n0, m, upd_same, ?_, hk, ?_⟩⟩
  · refine ⟨fun a o nm e => ?_, W.loc H1 _ (fun a ma => upd_ne fun z => m (z ▸ ma)) f1.j.1⟩
    have ne : a ≠ p := ne_of_none e n0
    rw [upd_ne ne]
    exact f1.keep a o (fun z => z.elim nm ne) (h.fr.keep a o nm e)
  · rw [hid_upd (.inr rfl)]
    exact DtAll.append (DtAll.ext f1.same _ _ dd) (.cons i1 .nil)
  · have s2 := s.fr f1
    refine s2.ext fun a o e => ?_
    rw [hid_upd (.inr rfl)]
    exact e
/-- another name is set -/
theorem own_other {i : Nat} {a : A} {v : V} (h : Own K W k H0 H σ Δ ds) (ne : i ≠ k) (hv : ∀ M, Is K M H v a) : Own K W k H0 H (σ.set i (some v)) (Δ.set i (some a)) ds := by
  obtain ⟨p, vs, n0, m, hp, dd, hk, s⟩ := h.it
  exact ⟨h.fr, p, vs, n0, m, hp, dd, by rw [List.getElem?_set_ne ne]; exact hk, s.set i (hv _)⟩
/-- a test that leaves it -/
theorem own_if {tt : TT} {B : Bool → Prop} {ts tu : TS} (h : Own K W k H0 H σ Δ ds) (ht : ∀ p φ, ¬ W.M p → XT K (W.add p φ) tt Δ B) (h1 : ∀ H', B true → Own K W k H0 H' σ Δ ds → ts D σ H') (h2 : ∀ H', B false → Own K W k H0 H' σ Δ ds → tu D σ H') : tIfS tt ts tu D σ H := by
  obtain ⟨p, vs, n0, m, hp, dd, hk, s⟩ := h.it
  refine ht p (· = .lst vs) m σ H ⟨h.fr.j, _, hp, rfl⟩ s _ fun b H1 f1 hb => ?_
  obtain ⟨u, hp1, e⟩ := f1.j.2
  subst e
  have o : Own K W k H0 H1 σ Δ ds := ⟨⟨fun a o nm e => f1.keep a o (fun z => z.elim nm (ne_of_none e n0)) (h.fr.keep a o nm e), f1.j.1⟩, p, vs, n0, m, hp1, DtAll.ext f1.same _ _ dd, hk, s.fr f1⟩
  cases b with
  | true => exact iteT (h1 H1 hb o)
  | false => exact iteF (h2 H1 hb o)
end
section
variable {K : PySem.W.Frag} {W : Wd} {Δ : Env} {tt ut : TT}
theorem xt_andR {B C : Bool → Prop} (h : XT K W tt Δ B) (h' : B true → XT K W ut Δ C) : XT K W (tAnd tt ut) Δ fun b => (b = true ∧ B true ∧ C true) ∨ (b = false ∧ (B false ∨ C false)) := fun σ H j s Q q => h σ H j s _ fun v H1 f e => by
  cases v with
  | true => exact iteT (h' e σ H1 f.j (s.fr f) Q fun c H2 f2 e' => q c H2 (f.trans f2) (by cases c <;> simp_all))
  | false => exact iteF (q false H1 f (.inr ⟨rfl, .inl e⟩))
end
end V2
namespace V2
open PySem PySem.Spec PyProof.Rows L2
section
variable {K : PySem.W.Frag} {W : Wd} {Δ : Env} {t : TA} {k : Nat} {H0 H H' : Hp} {σ : L2.St} {ds : List PyData} {D : Ends}
theorem Own.later (h : Own K W k H0 H σ Δ ds) (f : Fr W H H') : Own K W k H0 H' σ Δ ds := by
  obtain ⟨p, vs, n0, m, hp, dd, hk, s⟩ := h.it
  have sm : Same (hid (fun a => W.M a ∨ a = p) H) (hid (fun a => W.M a ∨ a = p) H') := fun a o e => by
    by_cases z : W.M a ∨ a = p
    · rw [hid_in z] at e; cases e
    · rw [hid_out z] at e ⊢
      exact f.keep a o (fun q => z (.inl q)) e
  exact ⟨h.fr.trans f, p, vs, n0, m, f.keep p _ m hp, DtAll.ext sm _ _ dd, hk, s.ext sm⟩
/-- for k in range(..): the body as it reads -/
theorem own_rng {i : Nat} {tb : TS} {Nn : Nat → Prop} (o : Own K W k H0 H σ Δ ds) (ne : i ≠ k) (ha : XA K W t (Δ.set k (some (.d (.list ds)))) fun as => ∃ j : Int, as = [.d (.int j)] ∧ -(2 ^ 62) ≤ j ∧ j < 2 ^ 62 ∧ Nn j.toNat)
    (Inv : Nat → Nat → Env → List PyData → Prop) (h0 : ∀ n, Nn n → Inv n 0 Δ ds)
    (hs : ∀ (n j : Nat) (σ1 : L2.St) (H1 : Hp) (Δ1 : Env) (ds1 : List PyData), Nn n → j < n → Inv n j Δ1 ds1 → Own K W k H0 H1 (σ1.set i (some (.int (j : Int)))) (Δ1.set i (some (.d (.int (j : Int))))) ds1 →
      ∀ N : L2.St → Hp → Prop, (∀ σ2 H2 Δ2 ds2, Own K W k H0 H2 σ2 Δ2 ds2 → Inv n (j + 1) Δ2 ds2 → N σ2 H2) → tb { D with nx := N, ct := N, bk := D.nx } (σ1.set i (some (.int (j : Int)))) H1)
    (hd : ∀ (n : Nat) (σ1 : L2.St) (H1 : Hp) (Δ1 : Env) (ds1 : List PyData), Nn n → Own K W k H0 H1 σ1 Δ1 ds1 → Inv n n Δ1 ds1 → D.nx σ1 H1) : tFor (iRng1 t) (gName i) tb D σ H :=
  ha σ H o.fr.j o.st _ fun vs H1 as f1 e i1 => by
    obtain ⟨j, e, b1, b2, hn⟩ := e
    subst e
    cases i1 with
    | cons i1 i2 =>
      cases i2
      cases i1
      refine ⟨j, rfl, b1, b2, for_range (fun m σ2 H2 => ∃ Δ2 ds2, Own K W k H0 H2 σ2 Δ2 ds2 ∧ Inv j.toNat m Δ2 ds2) ⟨Δ, ds, o.later f1, h0 _ hn⟩ ?_ ?_⟩
      · rintro m σ2 H2 hm ⟨Δ2, ds2, o2, v2⟩
        have e : (0 : Int) + (m : Int) = (m : Int) := Int.zero_add _
        show tb _ (σ2.set i (some (.int (0 + (m : Int))))) H2
        rw [e]
        exact hs _ m σ2 H2 Δ2 ds2 hn hm v2 (own_other o2 ne fun M => .int _) _ fun σ3 H3 Δ3 ds3 o3 v3 => ⟨Δ3, ds3, o3, v3⟩
      · rintro σ2 H2 ⟨Δ2, ds2, o2, v2⟩
        exact hd _ σ2 H2 Δ2 ds2 hn o2 v2
/-- for x in xs, a list that stood ahead of one's own -/
theorem own_lst {i j : Nat} {tb : TS} {xs : List PyData} {a : Addr} {vs : List V} (o : Own K W k H0 H σ Δ ds) (ne : i ≠ k) (hj : σ[j]? = some (some (.ref a))) (ha : hid W.M H0 a = some (.lst vs)) (da : DtAll K (hid W.M H0) vs xs)
    (Inv : Nat → Env → List PyData → Prop) (h0 : Inv 0 Δ ds)
    (hs : ∀ (m : Nat) (x : PyData) (v : V) (σ1 : L2.St) (H1 : Hp) (Δ1 : Env) (ds1 : List PyData), xs[m]? = some x → Inv m Δ1 ds1 → Own K W k H0 H1 (σ1.set i (some v)) (Δ1.set i (some (.d x))) ds1 →
      ∀ N : L2.St → Hp → Prop, (∀ σ2 H2 Δ2 ds2, Own K W k H0 H2 σ2 Δ2 ds2 → Inv (m + 1) Δ2 ds2 → N σ2 H2) → tb { D with nx := N, ct := N, bk := D.nx } (σ1.set i (some v)) H1)
    (hd : ∀ (σ1 : L2.St) (H1 : Hp) (Δ1 : Env) (ds1 : List PyData), Own K W k H0 H1 σ1 Δ1 ds1 → Inv xs.length Δ1 ds1 → D.nx σ1 H1) : tFor (iList K (tVar j)) (gName i) tb D σ H := by
  have ma : ¬ W.M a := fun m => by rw [hid_in m] at ha; cases ha
  have ga : ∀ H2, Fr W H0 H2 → SqL K H2 a vs := fun H2 f => .inl (.inl (f.keep a _ ma (by rw [hid_out ma] at ha; exact ha)))
  refine ⟨.ref a, hj, a, rfl, ⟨vs, ga H o.fr⟩, for_list (xs := vs) (fun m σ2 H2 => ∃ Δ2 ds2, Own K W k H0 H2 σ2 Δ2 ds2 ∧ Inv m Δ2 ds2) ⟨Δ, ds, o, h0⟩ (fun m σ2 H2 _ ⟨Δ2, ds2, o2, _⟩ => ga H2 o2.fr) ?_ ?_⟩
  · rintro m v σ2 H2 hv ⟨Δ2, ds2, o2, v2⟩
    have l : m < xs.length := by
      rw [← da.length]
      exact (List.getElem?_eq_some_iff.mp hv).1
    obtain ⟨v', hv', dv⟩ := da.get (List.getElem?_eq_getElem l)
    rw [hv] at hv'
    cases hv'
    obtain ⟨p, us, n0, mp, hp, dd, hk, s⟩ := o2.it
    have iv : Is K (fun a => W.M a ∨ a = p) H2 v (.d xs[m]) := Dt.ext (same_in (φ := fun _ => True) o2.fr n0) _ _ dv
    refine hs m xs[m] v σ2 H2 Δ2 ds2 (List.getElem?_eq_getElem l) v2 ⟨o2.fr, p, us, n0, mp, hp, dd, by rw [List.getElem?_set_ne ne]; exact hk, s.set i iv⟩ _ fun σ3 H3 Δ3 ds3 o3 v3 => ⟨Δ3, ds3, o3, v3⟩
  · rintro σ2 H2 ⟨Δ2, ds2, o2, v2⟩
    rw [da.length] at v2
    exact hd σ2 H2 Δ2 ds2 o2 v2
/-- it is handed back -/
theorem own_ret (o : Own K W k H0 H σ Δ ds) (q : ∀ v, Is K W.M H v (.d (.list ds)) → D.rt v H) (hk : k < Δ.length) : tRet (tVar k) D σ H := by
  obtain ⟨v, h1, h2⟩ := o.st.get k (.d (.list ds)) (List.getElem?_set_self hk)
  exact ⟨v, h1, q v h2⟩
/-- a statement by the rules, the list of one's own read as data alone -/
theorem own_then {ts tu : TS} {N : Env → Prop} (o : Own K W k H0 H σ Δ ds) (h : XS K W ts (Δ.set k (some (.d (.list ds)))) N (fun _ => False) No No)
    (q : ∀ σ' H' Δ', Fr W H0 H' → StOk K W.M H' σ' Δ' → N Δ' → tu D σ' H') : tSeq ts tu D σ H :=
  xs_then h o.fr.j o.st fun σ' H' Δ' f s n => q σ' H' Δ' (o.fr.trans f) s n
end
/-- drawing -/
theorem xe_take {K : PySem.W.Frag} {W : Wd} {Δ : Env} {i : Nat} {pa : Addr} {te : TE} {m : Int} {E : XK} (hv : Δ[i]? = some (some (.v (.ref pa)))) (hp : HasPool W pa) (h : XV K W te Δ (.d (.int m))) (h0 : 0 < m) (h1 : m < 1000000) :
    XE K W (tCall (spD K preTake postTake) [] E (tCons (tVar i) (tCons te tNil))) Δ (IntR fun n => 0 ≤ n ∧ n < m) :=
  XE.mono (xe_call (xa_cons (xe_var hv) (xa_cons h xa_nil)) ⟨pa, m, rfl, hp, h0, h1⟩) fun a h => h
end V2
namespace V2
open PySem PySem.Spec PyProof.Rows L2
def rIntB : List V → Hp → VK → Prop := fun xs H Q => ∃ b, xs = [.bl b] ∧ Q (.int (b2i b)) H
theorem c_intB {X : Cx} : CallR X (.type "int") rIntB := by
  intro pins s σ H xs us Q I r h
  obtain ⟨b, rfl, q⟩ := h
  exact call_int1 pins s σ H _ us Q I r (.inr ⟨b, rfl, q⟩)
section
variable {K : PySem.W.Frag} {W : Wd} {Δ : Env} {t : TA} {te tl : TE} {k : Nat} {H0 H H' : Hp} {σ : L2.St} {ds : List PyData} {D : Ends} {N : Env → Prop} {Rt : A → Prop} {Bk Ct : Env → Prop} {ts : TS}
theorem cx_intB {b : Bool} : CX1 K W rIntB [.d (.bool b)] (· = .d (.int (b2i b))) := fun vs H j i Q q => by
  cases i with
  | cons h t =>
    cases t
    cases h
    exact ⟨_, rfl, q _ H _ (.refl j) rfl (.int _)⟩
theorem cx_minL {ns : List Int} (h0 : 0 < ns.length) : CX1 K W (rMin K) [.d (.list (ns.map PyData.int))] (IntR fun m => m ∈ ns ∧ ∀ y ∈ ns, m ≤ y) := fun vs H j i Q q => by
  cases i with
  | cons h t =>
    cases t
    cases h with
    | lst h1 d1 =>
      have e : ∀ {vs : List V} {ns : List Int}, DtAll K (hid W.M H) vs (ns.map PyData.int) → vs = ns.map V.int := by
        intro vs ns
        induction ns generalizing vs with
        | nil => intro h; cases h; rfl
        | cons n r ih =>
          intro h
          cases h with
          | cons h t => cases h; rw [ih t]; rfl
      obtain rfl := e d1
      exact ⟨_, ns, rfl, .inl (.inl (hid_le _ _ h1)), h0, fun m hm hy => q _ H _ (.refl j) ⟨m, rfl, hm, hy⟩ (.int _)⟩
theorem ox_last {xs : List PyData} {z : PyData} : OX K W (rIxL K) (.d (.list (xs ++ [z]))) (.d (.int (-1))) (· = .d z) := fun v w H j i1 i2 Q q => by
  cases i2
  cases i1 with
  | lst h1 d1 =>
    have len := d1.length
    obtain ⟨u, hu, du⟩ := d1.get (i := xs.length) (d := z) (by rw [List.getElem?_append_right (Nat.le_refl _), Nat.sub_self]; rfl)
    rename_i p vs
    have l2 : vs.length = xs.length + 1 := by rw [len, List.length_append]; rfl
    have ne : vs ≠ [] := fun e => by rw [e] at l2; cases l2
    have gl : vs.getLast ne = u := by
      rw [List.getLast_eq_getElem]
      have : vs[vs.length - 1]? = some u := by rw [l2]; exact hu
      exact (List.getElem?_eq_some_iff.mp this).2
    have e : vs = vs.dropLast ++ [u] := by
      have := (List.dropLast_concat_getLast ne).symm
      rwa [gl] at this
    refine ⟨_, vs, -1, u, rfl, rfl, .inl (.inl (hid_le _ _ h1)), ?_, q _ H _ (.refl j) rfl du⟩
    exact (congrArg (fun l => atI l (-1)) e).trans (atI_last _ _)
theorem own_append0 {P : PyData → Prop} (h : Own K W k H0 H σ Δ ds) (small : ds.length ≤ 100000) (he : XE K W te (Δ.set k (some (.d (.list ds)))) fun a => ∃ d, a = .d d ∧ flat d = true ∧ P d)
    (q : ∀ H' d, P d → Own K W k H0 H' σ Δ (ds ++ [d]) → D.nx σ H') : tDrop (tBM K "list" rAppend (tVar k) (tCons te tNil)) D σ H := by
  have st := h.st
  obtain ⟨p, vs, n0, m, hp, dd, hk, s⟩ := h.it
  refine ⟨_, hk, .inl ⟨rfl, _, .inl (.inl hp)⟩, he σ H h.fr.j st _ fun v H1 a f1 r i1 => ?_⟩
  obtain ⟨d, e, fl, pd⟩ := r
  subst e
  have hp1 := f1.keep p _ m hp
  have fA : Same (hid (fun a => W.M a ∨ a = p) H) (hid (fun a => W.M a ∨ a = p) (upd H1 p (.lst (vs ++ [v])))) := fun a o e => by
    by_cases z : W.M a ∨ a = p
    · rw [hid_in z] at e; cases e
    · rw [hid_out z] at e ⊢
      rw [upd_ne fun q => z (.inr q)]
      exact f1.keep a o (fun q => z (.inl q)) e
  obtain rfl := Dt.flat i1 fl
  refine ⟨p, vs, _, rfl, rfl, hp1, Nat.lt_of_le_of_lt (by rw [dd.length]; exact small) (by decide), q _ d pd ⟨?_, p, vs ++ [vOf d], n0, m, upd_same, DtAll.append (DtAll.ext fA _ _ dd) (.cons (Dt.ofFlat fl) .nil), hk, s.ext fA⟩⟩
  refine ⟨fun a o nm e => ?_, W.loc H1 _ (fun a ma => upd_ne fun z : a = p => m (by rw [← z]; exact ma)) f1.j⟩
  have ne : a ≠ p := ne_of_none e n0
  rw [upd_ne ne]
  exact f1.keep a o nm (h.fr.keep a o nm e)
/-- a pool is made: the rest in the world that has it -/
theorem xs_pool {s i kk : Nat} {ns : List Int} {n : Int} {E : XK} (hs : Δ[s]? = some (some (.s ns))) (hk : Δ[kk]? = some (some (.d (.int n)))) (hl : ns.length ≤ 63) (h0 : 0 ≤ n) (h1 : n < 1000)
    (h : ∀ p, ¬ W.M p → XS K (W.add p isPool) ts (Δ.set i (some (.v (.ref p)))) N Rt Bk Ct) : XS K W (tSeq (tAsg (tCall (spPool K) [] E (tCons (tVar s) (tCons (tVar kk) tNil))) (gName i)) ts) Δ N Rt Bk Ct := fun σ H j st D nx rt bk ct => by
  obtain ⟨v1, e1, a, rfl, sq⟩ := st.get s _ hs
  obtain ⟨v2, e2, i2⟩ := st.get kk _ hk
  cases i2
  refine ⟨_, e1, _, e2, a, ns, n, rfl, sqL_le sq, hl, h0, h1, fun p H1 sm np hp => ?_⟩
  obtain ⟨u, hu, pu⟩ := hp
  have m : ¬ W.M p := W.fresh j np
  have keepM : ∀ b, W.M b → H1 b = H b := fun b mb => by
    cases z : H b with
    | none => exact absurd z (W.live H b j mb)
    | some o => exact sm b o z
  have j1 : W.J H1 := W.loc H H1 keepM j
  have fp : Fr W H H1 := .of_same sm j1
  have sI : Same (hid W.M H) (hid (W.add p isPool).M H1) := same_in fp np
  have stp : StOk K (W.add p isPool).M H1 (σ.set i (some (.ref p))) (Δ.set i (some (.v (.ref p)))) := (st.ext sI).set i rfl
  have back : ∀ {H2 : Hp}, Fr (W.add p isPool) H1 H2 → Fr W H H2 := fun {H2} f => ⟨fun a o nm e => f.keep a o (fun z => z.elim nm (ne_of_none e np)) (sm a o e), f.j.1⟩
  exact h p m _ H1 ⟨j1, u, hu, pu⟩ stp D (fun σ' H' Δ' f s' q => nx σ' H' Δ' (back f) (s'.ext hid_add_le) q) (fun v H' a f r i => rt v H' a (back f) r (i.ext hid_add_le))
    (fun σ' H' Δ' f s' q => bk σ' H' Δ' (back f) (s'.ext hid_add_le) q) fun σ' H' Δ' f s' q => ct σ' H' Δ' (back f) (s'.ext hid_add_le) q
end
end V2
namespace V2
open PySem PySem.Spec PyProof.Rows L2
theorem seq_in {ts tu : TS} {D : Ends} {σ : L2.St} {H : Hp} (h : ts { D with nx := tu D } σ H) : tSeq ts tu D σ H := h
end V2
namespace V2
open PySem PySem.Spec PyProof.Rows L2
section
variable {K : PySem.W.Frag} {W : Wd} {Δ : Env} {te : TE} {ts tu : TS} {N : Env → Prop} {Rt : A → Prop}
theorem xs_thenR (h : XS K W ts Δ N Rt No No) {σ : L2.St} {H : Hp} {D : Ends} (j : W.J H) (s : StOk K W.M H σ Δ) (rt : ∀ v H' a, Fr W H H' → Rt a → Is K W.M H' v a → D.rt v H')
    (k : ∀ σ' H' Δ', Fr W H H' → StOk K W.M H' σ' Δ' → N Δ' → tu D σ' H') : tSeq ts tu D σ H := h σ H j s _ k rt (fun _ _ _ _ _ z => z.elim) fun _ _ _ _ _ z => z.elim
theorem xa_rng {n : Int} {Nn : Nat → Prop} (h : XV K W te Δ (.d (.int n))) (h0 : -(2 ^ 62) ≤ n) (h1 : n < 2 ^ 62) (hn : Nn n.toNat) : XA K W (tCons te tNil) Δ fun as => ∃ j : Int, as = [.d (.int j)] ∧ -(2 ^ 62) ≤ j ∧ j < 2 ^ 62 ∧ Nn j.toNat := fun σ H j s Q q =>
  (xa_cons h xa_nil) σ H j s _ fun vs H1 as f e i => by
    subst e
    exact q vs H1 _ f ⟨n, rfl, h0, h1, hn⟩ i
end
theorem run_law {K : PySem.W.Frag} {t : TS} {N : List Str} {a : Addr} {ns : List Int} {H : Hp} {Q : VK} (hS : SqL K H a (ns.map V.int)) (q : ∀ H', Q (.bl true) H') (h : XS K W0 t (startE N [.s ns]) (fun _ => False) (fun b => b = .d (.bool true)) No No) :
    t ⟨fun _ H' => Q .non H', Q, fun _ _ => False, fun _ _ => False⟩ (L2.start N [.ref a]) H :=
  h _ H trivial (stOk_start (.cons ⟨a, rfl, by rw [hid_W0]; exact hS⟩ .nil)) _ (fun _ _ _ _ _ z => z.elim) (fun v H' b f r i => by subst r; cases i; exact q H') (fun _ _ _ _ _ z => z.elim) fun _ _ _ _ _ z => z.elim
end V2
namespace V2
open PySem PySem.Spec PyProof.Rows L2
theorem okG0 {P : Program} {w : World} {K : PySem.W.Frag} {mg : Str → Option Value} {base : Heap} {k : Nat} {f : Addr} {fd : FuncData} {ps N : List Str} {sp : Sp} {x qual : Str} {st : Stmt} (F : Fun K x qual st f fd) (S : FnScope N ps (defScope st)) (len : ∀ vs H Q E, sp vs H Q E → vs.length = ps.length)
    (body : ∀ (cdv : Value) (A : Around) (outer : List PySem.Env) (s : Shared) (H : Hp) (vs : List V) (Q : VK) (E : XK),
      Room k (A.deeper (envOfC qual (defScope st) s.heap.objs.size f cdv)) → NoG A → sp vs H Q E →
      ∃ t, PSs (cxOf CX0 P w K mg base N qual (defScope st) f cdv A outer s H E).nox (defBody st) t ∧ t ⟨fun _ H' => Q .non H', Q, fun _ _ => False, fun _ _ => False⟩ (L2.start N vs) H) :
    FnG P w K mg base CX0 (k + 1) f fd ps sp :=
  okG F S len fun cdv A outer s H vs Q E hr ng h => by
    obtain ⟨t, ht, hq⟩ := body cdv A outer s H vs Q E hr ng h
    exact ⟨t, ht.nox, hq⟩
end V2

set_option Elab.async false
set_option linter.all false
set_option maxRecDepth 100000
set_option maxHeartbeats 1000000
namespace V2
open PySem PySem.Spec PyProof.Rows L2
/-! ### while -/
section
variable {K : PySem.W.Frag} {W : Wd} {Δ : Env} {ta tb te td ty tx : TE} {N : Env → Prop} {Rt : A → Prop} {Bk Ct : Env → Prop} {ts tu : TS} {tt : TT} {R : A → Prop}
theorem xs_while (Inv : Nat → Env → Prop) (h0 : ∃ m, Inv m Δ) (hs : ∀ m Δ', Inv m Δ' → ∃ b, XB K W tt Δ' b ∧ (b = true → XS K W ts Δ' (fun Δ2 => ∃ m', m' < m ∧ Inv m' Δ2) Rt N (fun Δ2 => ∃ m', m' < m ∧ Inv m' Δ2)) ∧ (b = false → N Δ')) :
    XS K W (tWhile tt ts) Δ N Rt Bk Ct := fun σ H j s D nx rt bk ct => by
  obtain ⟨m0, i0⟩ := h0
  refine ⟨fun m σ2 H2 => ∃ Δ2, Fr W H H2 ∧ StOk K W.M H2 σ2 Δ2 ∧ Inv m Δ2, ⟨m0, Δ, .refl j, s, i0⟩, ?_⟩
  rintro m σ2 H2 ⟨Δ2, f2, s2, v2⟩
  obtain ⟨b, hb, h1, h2⟩ := hs m Δ2 v2
  refine hb σ2 H2 f2.j s2 _ fun b' H3 f3 e => ?_
  subst e
  have f := f2.trans f3
  cases b' with
  | true =>
    refine iteT ⟨fun σ4 H4 => ∃ m', m' < m ∧ ∃ Δ4, Fr W H H4 ∧ StOk K W.M H4 σ4 Δ4 ∧ Inv m' Δ4, fun σ4 H4 h => h, ?_⟩
    exact h1 rfl σ2 H3 f.j (s2.fr f3) _ (fun σ4 H4 Δ4 f4 s4 ⟨m', l, v⟩ => ⟨m', l, Δ4, f.trans f4, s4, v⟩) (fun v H4 a f4 => rt v H4 a (f.trans f4)) (fun σ4 H4 Δ4 f4 s4 n => nx σ4 H4 Δ4 (f.trans f4) s4 n) fun σ4 H4 Δ4 f4 s4 ⟨m', l, v⟩ => ⟨m', l, Δ4, f.trans f4, s4, v⟩
  | false => exact iteF (nx σ2 H3 Δ2 f (s2.fr f3) (h2 rfl))
/-! ### tables of texts -/
def KD (kvs : List (Str × Str)) : PyData := .dict (kvs.map fun p => (.str p.1, .str p.2))
def look (kvs : List (Str × Str)) (z c : Str) : Str := ((kvs.find? fun p => decide (p.1 = c)).map (·.2)).getD z
def KV2 (kvs : List (Str × Str)) : List (Key × V) := kvs.map fun p => (Sum.inr p.1, V.str p.2)
theorem dtkv_cons {H : Hp} {es : List (Key × V)} {a b : PyData} {qs : List (PyData × PyData)} (h : DtKv K H es ((a, b) :: qs)) : ∃ k v es', es = (k, v) :: es' ∧ a = keyD k ∧ Dt K H v b ∧ DtKv K H es' qs := by
  cases h with
  | cons hd t => exact ⟨_, _, _, rfl, rfl, hd, t⟩
theorem dtkv_is {H : Hp} : ∀ {kvs : List (Str × Str)} {es : List (Key × V)}, DtKv K H es (kvs.map fun p => (.str p.1, .str p.2)) → es = KV2 kvs
  | [], es, h => by cases h; rfl
  | p :: r, es, h => by
    obtain ⟨k, v, es', rfl, e, hd, t⟩ := dtkv_cons (a := .str p.1) (b := .str p.2) h
    cases hd
    rw [dtkv_is t]
    cases k with
    | inl i => cases e
    | inr x =>
      cases e
      rfl
theorem dtkv_of {H : Hp} : ∀ (kvs : List (Str × Str)), DtKv K H (KV2 kvs) (kvs.map fun p => (.str p.1, .str p.2))
  | [] => .nil
  | p :: r => .cons (k := Sum.inr p.1) (.str p.2) (dtkv_of r)
theorem valV_look (c z : Str) : ∀ kvs : List (Str × Str), (valV (KV2 kvs) (Sum.inr c)).getD (.str z) = .str (look kvs z c)
  | [] => rfl
  | p :: r => by
    have ih := valV_look c z r
    unfold look KV2 at *
    rw [List.map_cons, List.find?_cons]
    by_cases e : p.1 = c
    · rw [valV_pos (by show (Sum.inr p.1 : Key) = Sum.inr c; rw [e])]
      simp [e]
    · rw [valV_neg (by show ¬ (Sum.inr p.1 : Key) = Sum.inr c; exact fun h => e (Sum.inr.inj h)), decide_eq_false e]
      exact ih
theorem xe_dget {kvs : List (Str × Str)} {c z : Str} (h : XV K W td Δ (.d (KD kvs))) (hy : XV K W ty Δ (.d (.str c))) (hx : XV K W tx Δ (.d (.str z))) : XV K W (tDGet2 td ty tx) Δ (.d (.str (look kvs z c))) := fun σ H j s Q q =>
  h σ H j s _ fun v H1 a f1 e i1 => by
    subst e
    cases i1 with
    | dct ha hk =>
      rename_i p es
      obtain rfl := dtkv_is hk
      have m : ¬ W.M p := fun m => by rw [hid_in m] at ha; cases ha
      rw [hid_out m] at ha
      refine ⟨p, rfl, .inl ⟨_, .inl ha⟩, hy σ H1 f1.j (s.fr f1) _ fun w H2 b f2 e i2 => ?_⟩
      subst e
      cases i2
      refine hx σ H2 f2.j (s.fr (f1.trans f2)) _ fun u H3 d f3 e i3 => ?_
      subst e
      cases i3
      refine ⟨_, DGet.k (k := Sum.inr c) ((f2.trans f3).keep p _ m ha), ?_⟩
      rw [valV_look]
      exact q _ H3 _ ((f1.trans f2).trans f3) rfl (.str _)
/-! ### texts -/
theorem ox_ixS {x : Str} {i : Int} {c : Nat} (n : x.length ≤ 100000) (h0 : 0 ≤ i) (h : x.cps.toList[i.toNat]? = some c) : OX K W rIxS (.d (.str x)) (.d (.int i)) (· = .d (.str (oneS c))) := fun v w H j i1 i2 Q q => by
  cases i1
  cases i2
  refine ⟨x, i, c, rfl, rfl, Nat.le_trans n (by decide), ?_, q _ H _ (.refl j) rfl (.str _)⟩
  have := atI_nat (xs := x.cps.toList) (j := i.toNat) h
  rwa [show ((i.toNat : Nat) : Int) = i by omega] at this
def rFind3 : V → List V → Hp → VK → Prop := fun x xs H Q => ∃ (a b : Str) (i : Int), x = .str a ∧ xs = [.str b, .int i] ∧ Q (.int (Txt.find3 a b i)) H
theorem m_find3 {X : Cx} : MtR X "str.find" rFind3 := mt_find3
theorem xe_find {x y : Str} {i : Int} (h : XV K W te Δ (.d (.str x))) (ha : XV K W ta Δ (.d (.str y))) (hb : XV K W tb Δ (.d (.int i))) : XV K W (tBM K "str" rFind3 te (tCons ta (tCons tb tNil))) Δ (.d (.int (Txt.find3 x y i))) := fun σ H j s Q q =>
  h σ H j s _ fun v H1 a f1 e i1 => by
    subst e
    cases i1
    refine ⟨rfl, ?_⟩
    refine (xa_cons ha (xa_cons hb xa_nil)) σ H1 f1.j (s.fr f1) _ fun vs H2 as f2 e i2 => ?_
    subst e
    cases i2 with
    | cons i2 t =>
      cases i2
      cases t with
      | cons i3 t =>
        cases i3
        cases t
        exact ⟨x, y, i, rfl, rfl, q _ H2 _ (f1.trans f2) rfl (.int _)⟩
theorem xe_slS {x : Str} {i k : Int} (n : x.length ≤ 100000) (h : XV K W te Δ (.d (.str x))) (ha : XV K W ta Δ (.d (.int i))) (hb : XV K W tb Δ (.d (.int k))) : XV K W (tSl rSlS te (tPart ta) (tPart tb)) Δ (.d (.str (cutS x (some i) (some k)))) := fun σ H j s Q q =>
  h σ H j s _ fun v H1 a f1 e i1 => by
    subst e
    cases i1
    refine ha σ H1 f1.j (s.fr f1) _ fun w H2 b f2 e i2 => ?_
    subst e
    cases i2
    refine ⟨i, rfl, hb σ H2 f2.j (s.fr (f1.trans f2)) _ fun u H3 d f3 e i3 => ?_⟩
    subst e
    cases i3
    exact ⟨k, rfl, x, rfl, Nat.le_trans n (by decide), q _ H3 _ ((f1.trans f2).trans f3) rfl (.str _)⟩
end
/-- the first of a sign from a place on -/
theorem occ_stays (s sub : Str) (hi a : Nat) : ∀ (l : List Nat) (f : Nat), (forIn l ((#[a] : Array Nat), f) (StrLaws.occBody s sub hi 1)).run.fst = #[a]
  | [], _ => by simp
  | b :: l, f => by
    rw [List.forIn_cons]
    unfold StrLaws.occBody
    rw [if_neg (fun h => by have := h.1.1.1; simp at this)]
    exact occ_stays s sub hi a l f
theorem occ_find (s sub : Str) (hi : Nat) : ∀ (l : List Nat) (f : Nat), (∀ i ∈ l, f ≤ i) →
    (forIn l ((#[] : Array Nat), f) (StrLaws.occBody s sub hi 1)).run.fst.toList = ((l.find? fun i => decide (i + sub.length ≤ hi ∧ Builtin.Str.subAt s sub i = true)).toList)
  | [], _, _ => by simp
  | a :: l, f, h => by
    have ha := h a (List.mem_cons_self ..)
    rw [List.forIn_cons, List.find?_cons]
    unfold StrLaws.occBody
    by_cases hc : a + sub.length ≤ hi ∧ Builtin.Str.subAt s sub a = true
    · rw [if_pos ⟨⟨⟨by simp, ha⟩, hc.1⟩, hc.2⟩, decide_eq_true hc]
      have := occ_stays s sub hi a l (a + sub.length)
      unfold StrLaws.occBody at this
      exact congrArg Array.toList this
    · rw [if_neg (fun q => hc ⟨q.1.2, q.2⟩), decide_eq_false hc]
      exact occ_find s sub hi l f fun i m => h i (List.mem_cons_of_mem _ m)
/-- how many signs a remark takes -/
def afterLF : List Nat → Nat
  | [] => 0
  | c :: r => if c = 10 then 1 else 1 + afterLF r
def afterF (x : List Nat) : Nat → Nat → Option Nat
  | 0, _ => none
  | n + 1, i => if x[i]? = some 10 then some i else afterF x n (i + 1)
theorem find_range (x : List Nat) : ∀ (n lo : Nat), (List.range' lo n).find? (fun i => decide (x[i]? = some 10)) = afterF x n lo
  | 0, _ => rfl
  | n + 1, lo => by
    rw [List.range'_succ, List.find?_cons]
    unfold afterF
    by_cases c : x[lo]? = some 10
    · rw [if_pos c, decide_eq_true c]
    · rw [if_neg c, decide_eq_false c]
      exact find_range x n (lo + 1)
theorem afterF_is (x : List Nat) : ∀ (n lo : Nat), lo + n = x.length + 1 → lo ≤ x.length → (match afterF x n lo with | some i => i + 1 | none => x.length) = lo + afterLF (x.drop lo)
  | 0, lo, h, h2 => by omega
  | n + 1, lo, h, h2 => by
    unfold afterF
    by_cases l : lo < x.length
    · rw [List.drop_eq_getElem_cons l]
      by_cases c : x[lo]? = some 10
      · rw [if_pos c]
        have e : x[lo] = 10 := by
          rw [List.getElem?_eq_getElem l] at c
          exact Option.some.inj c
        show lo + 1 = lo + (if x[lo] = 10 then 1 else _)
        rw [if_pos e]
      · rw [if_neg c, afterF_is x n (lo + 1) (by omega) (by omega)]
        have e : ¬ x[lo] = 10 := fun z => c (by rw [List.getElem?_eq_getElem l, z])
        show _ = lo + (if x[lo] = 10 then 1 else _)
        rw [if_neg e]
        omega
    · have e : lo = x.length := by omega
      subst e
      have c : ¬ x[x.length]? = some 10 := by rw [List.getElem?_eq_none (Nat.le_refl _)]; nofun
      rw [if_neg c, List.drop_length]
      have hn : n = 0 := by omega
      subst hn
      rfl
theorem find_lf (x : Str) (i : Nat) (h : i ≤ x.length) : (if Txt.find3 x "\n" (i : Int) < 0 then (x.length : Int) else Txt.find3 x "\n" (i : Int) + 1) = ((i + afterLF (x.cps.toList.drop i) : Nat) : Int) := by
  have fi : fromIndex x.length (i : Int) = i := by
    unfold fromIndex
    rw [if_neg (by omega)]
    omega
  have lf : ("\n" : Str) = (⟨#[10]⟩ : Str) := rfl
  have occ : Builtin.Str.occurrences x "\n" i x.length 1 = (afterF x.cps.toList (x.length + 1 - i) i).toList := by
    rw [lf, StrLaws.occ_eq, occ_find _ _ _ _ _ (fun k hk => (List.mem_range'_1.mp hk).1), ← find_range]
    congr 2
    funext k
    exact decide_eq_decide.mpr (StrLaws.subAt_one x 10 k)
  have ln : x.length = x.cps.toList.length := rfl
  have key := afterF_is x.cps.toList (x.length + 1 - i) i (by rw [← ln]; omega) (by rw [← ln]; exact h)
  unfold Txt.find3
  rw [fi, occ]
  cases q : afterF x.cps.toList (x.length + 1 - i) i with
  | some k =>
    rw [q] at key
    show (if ((k : Nat) : Int) < 0 then _ else ((k : Nat) : Int) + 1) = _
    rw [if_neg (by omega), ← key]
    rfl
  | none =>
    rw [q] at key
    show (if (-1 : Int) < 0 then (x.length : Int) else _) = _
    rw [if_pos (by decide), ← key]
    rfl
end V2
namespace V2
open PySem PySem.Spec PyProof.Rows L2
/-! ### promises with a datum of one's own -/
def spG {γ : Type} (K : PySem.W.Frag) (pre : γ → Wd → List A → Prop) (post : γ → A → Prop) : Sp := fun vs H Q _ =>
  ∃ (g : γ) (W : Wd) (as : List A), W.J H ∧ pre g W as ∧ IsAll K W.M H vs as ∧ ∀ v H' a, Fr W H H' → post g a → Is K W.M H' v a → Q v H'
section
variable {γ : Type} {P : Program} {w : World} {K : PySem.W.Frag} {mg : Str → Option Value} {base : Heap} {k : Nat} {f : Addr} {fd : FuncData} {ps N : List Str} {pre : γ → Wd → List A → Prop} {post : γ → A → Prop} {x qual : Str} {st : Stmt}
def BodyG (K : PySem.W.Frag) (N : List Str) (pre : γ → Wd → List A → Prop) (post : γ → A → Prop) (t : TS) : Prop :=
  ∀ g W as, pre g W as → XS K W t (startE N as) (fun _ => post g (.d .none)) (post g) No No
theorem bodyG_run {t : TS} (h : BodyG K N pre post t) {vs : List V} {H : Hp} {Q : VK} {E : XK} (s : spG K pre post vs H Q E) : t ⟨fun _ H' => Q .non H', Q, fun _ _ => False, fun _ _ => False⟩ (L2.start N vs) H := by
  obtain ⟨g, W, as, j, p, i, q⟩ := s
  exact h g W as p _ H j (stOk_start i) _ (fun σ' H' Δ' f _ n => q _ H' _ f n .non) (fun v H' a f r i' => q v H' a f r i') (fun _ _ _ _ _ z => z.elim) fun _ _ _ _ _ z => z.elim
theorem okDg (F : Fun K x qual st f fd) (S : FnScope N ps (defScope st)) (ar : ∀ g W as, pre g W as → as.length = ps.length)
    (body : ∀ (cdv : Value) (Ar : Around) (outer : List PySem.Env) (s : Shared) (H : Hp) (E : XK), Room k (Ar.deeper (envOfC qual (defScope st) s.heap.objs.size f cdv)) →
      ∃ t, PSs (cxOf CX0 P w K mg base N qual (defScope st) f cdv Ar outer s H E).nox (defBody st) t ∧ BodyG K N pre post t) : FnOk P w K mg base CX0 (k + 1) f fd ps (spG K pre post) :=
  F.ok S (fun vs H Q E ⟨g, W, as, _, p, i, _⟩ => by rw [i.length]; exact ar g W as p) fun cdv Ar outer s H vs Q E hr h => by
    obtain ⟨t, ht, hb⟩ := body cdv Ar outer s H E hr
    exact ⟨t, ht, bodyG_run hb h⟩
theorem okDgG (F : Fun K x qual st f fd) (S : FnScope N ps (defScope st)) (ar : ∀ g W as, pre g W as → as.length = ps.length)
    (body : ∀ (cdv : Value) (Ar : Around) (outer : List PySem.Env) (s : Shared) (H : Hp) (E : XK), Room k (Ar.deeper (envOfC qual (defScope st) s.heap.objs.size f cdv)) → NoG Ar →
      ∃ t, PSs (cxOf CX0 P w K mg base N qual (defScope st) f cdv Ar outer s H E).nox (defBody st) t ∧ BodyG K N pre post t) : FnG P w K mg base CX0 (k + 1) f fd ps (spG K pre post) :=
  okG0 F S (fun vs H Q E ⟨g, W, as, _, p, i, _⟩ => by rw [i.length]; exact ar g W as p) fun cdv Ar outer s H vs Q E hr ng h => by
    obtain ⟨t, ht, hb⟩ := body cdv Ar outer s H E hr ng
    exact ⟨t, ht, bodyG_run hb h⟩
variable {W : Wd} {Δ : Env} {ta : TA} {E : XK}
theorem xe_callg (g : γ) {as : List A} (h : XAs K W ta Δ as) (p : pre g W as) : XE K W (tCall (spG K pre post) [] E ta) Δ (post g) := fun σ H j s Q q =>
  h σ H j s _ fun vs H1 as' f1 e i1 => by
    subst e
    rw [List.append_nil]
    exact ⟨g, W, as', f1.j, p, i1, fun v H' a f r i => q v H' a (f1.trans f) r i⟩
end
end V2
namespace V2
open PySem PySem.Spec PyProof.Rows L2
theorem cutS_nat {x : Str} {i k : Nat} (hi : i ≤ k) (hk : k ≤ x.length) : cutS x (some (i : Int)) (some (k : Int)) = ⟨((x.cps.toList.drop i).take (k - i)).toArray⟩ := by
  unfold cutS
  rw [HT.sIx_nat, HT.sIx_nat, Nat.min_eq_left (show i ≤ x.length by omega), Nat.min_eq_left hk]
theorem xe_const {K : PySem.W.Frag} {W : Wd} {Δ : Env} {n : Int} {p : Prop} (_ : p) : XV K W (tC (.int n)) Δ (.d (.int n)) := xe_int
end V2

set_option Elab.async false
set_option linter.all false
set_option maxRecDepth 100000
set_option maxHeartbeats 1000000
namespace V2
open PySem PySem.Spec PyProof.Rows L2
/-! ### d.update(e), two dicts -/
def rUpd : V → List V → Hp → VK → Prop := fun x vs H Q => ∃ (a b : Addr) (kvs more : List (Key × V)), x = .ref a ∧ vs = [.ref b] ∧ a ≠ b ∧ H a = some (.dK kvs) ∧ H b = some (.dK more) ∧ kvs.length + more.length ≤ sizeLine ∧ Q .non (upd H a (.dK (mergeK kvs more)))
theorem mt_update {X : Cx} : MtR X "dict.update" rUpd := by
  intro pins s σ H x vs v us Q I rx rv h
  obtain ⟨a, b, kvs, more, ex, ev, ne, e, e2, sz, q⟩ := h
  subst ex
  subst ev
  obtain rfl : v = Value.ref a := rx
  cases rv with
  | @cons _ u _ us' r1 r2 =>
    cases r2
    obtain rfl : u = Value.ref b := r1
    obtain ⟨z, hd, ws, rel, dd⟩ := dk_of I.hok e
    obtain ⟨z2, hd2, ws2, rel2, dd2⟩ := dk_of I.hok e2
    refine call_meetsIn PySem.F.slot_dict_update dd.typeIs PySem.F.entry_dict_update (PySem.F.args_dict_update_2 _ _) (meets_dict_update (mixKind X.prog X.w) a b ne hd2) ⟨ws, ws2, dd, dd2, by rw [← rel.length, ← rel2.length]; exact sz, fun h' dd' _ hs => ?_⟩
    have he : ∃ q, h'.get? a = some q := let ⟨q, _, _, hq, _⟩ := dd'; ⟨q, hq⟩
    exact ⟨.non, _, d_write (t' := s.toks) I (by rw [e]; exact True.intro) hs he (dk_new (Nat.le_trans (length_mergeK more kvs) sz) hd (rel2.merge rel) dd'), rfl, q⟩
/-! ### tables of texts, told one by one -/
def putS (kvs : List (Str × Str)) (k z : Str) : List (Str × Str) := if (kvs.any fun kv => decide (kv.1 = k)) = true then kvs.map (fun kv => if kv.1 = k then (kv.1, z) else kv) else kvs ++ [(k, z)]
theorem any_KV2 (k : Str) : ∀ kvs : List (Str × Str), ((KV2 kvs).any fun kv => decide (kv.1 = Sum.inr k)) = kvs.any fun kv => decide (kv.1 = k)
  | [] => rfl
  | p :: r => by
    have ih := any_KV2 k r
    unfold KV2 at *
    rw [List.map_cons, List.any_cons, List.any_cons, ih]
    congr 1
    exact decide_eq_decide.mpr ⟨fun h => Sum.inr.inj h, fun h => congrArg Sum.inr h⟩
theorem putK_KV2 (kvs : List (Str × Str)) (k z : Str) : putK (KV2 kvs) (Sum.inr k) (.str z) = KV2 (putS kvs k z) := by
  unfold putK putS
  rw [any_KV2]
  split
  · unfold KV2
    rw [List.map_map, List.map_map]
    refine List.map_congr_left fun p _ => ?_
    show (if (Sum.inr p.1 : Key) = Sum.inr k then ((Sum.inr p.1 : Key), V.str z) else (Sum.inr p.1, V.str p.2)) = _
    by_cases e : p.1 = k
    · show _ = (Sum.inr (if p.1 = k then (p.1, z) else p).1, V.str (if p.1 = k then (p.1, z) else p).2)
      rw [if_pos (congrArg Sum.inr e), if_pos e]
    · show _ = (Sum.inr (if p.1 = k then (p.1, z) else p).1, V.str (if p.1 = k then (p.1, z) else p).2)
      rw [if_neg (fun h => e (Sum.inr.inj h)), if_neg e]
  · unfold KV2
    rw [List.map_append]
    rfl
def mergeS (kvs more : List (Str × Str)) : List (Str × Str) := more.foldl (fun acc kv => putS acc kv.1 kv.2) kvs
theorem mergeK_KV2 : ∀ (more kvs : List (Str × Str)), mergeK (KV2 kvs) (KV2 more) = KV2 (mergeS kvs more)
  | [], kvs => rfl
  | p :: r, kvs => by
    have ih := mergeK_KV2 r (putS kvs p.1 p.2)
    rw [← putK_KV2] at ih
    exact ih
/-- keys once each and among KS, worths among WS -/
structure DicOk (KS WS : List Str) (kvs : List (Str × Str)) : Prop where
  nd : (kvs.map (·.1)).Nodup
  ks : ∀ p ∈ kvs, p.1 ∈ KS
  ws : ∀ p ∈ kvs, p.2 ∈ WS
theorem nd_len {α : Type} [DecidableEq α] : ∀ (l m : List α), l.Nodup → (∀ x ∈ l, x ∈ m) → l.length ≤ m.length
  | [], m, _, _ => Nat.zero_le _
  | a :: l, m, nd, h => by
    rw [List.nodup_cons] at nd
    have ha := h a (.head _)
    have ih := nd_len l (m.erase a) nd.2 fun x hx => (List.mem_erase_of_ne fun e : x = a => nd.1 (by rw [← e]; exact hx)).mpr (h x (.tail _ hx))
    rw [List.length_erase_of_mem ha] at ih
    have : 0 < m.length := List.length_pos_of_mem ha
    rw [List.length_cons]
    omega
section
variable {KS WS : List Str} {kvs more : List (Str × Str)}
theorem DicOk.len (h : DicOk KS WS kvs) : kvs.length ≤ KS.length := by
  have := nd_len (kvs.map (·.1)) KS h.nd fun x hx => by
    obtain ⟨p, hp, e⟩ := List.mem_map.mp hx
    rw [← e]
    exact h.ks p hp
  rwa [List.length_map] at this
theorem DicOk.put (h : DicOk KS WS kvs) {k z : Str} (hk : k ∈ KS) (hz : z ∈ WS) : DicOk KS WS (putS kvs k z) := by
  unfold putS
  by_cases a : (kvs.any fun kv => decide (kv.1 = k)) = true
  · rw [if_pos a]
    have e : (kvs.map fun kv => if kv.1 = k then (kv.1, z) else kv).map (·.1) = kvs.map (·.1) := by
      rw [List.map_map]
      refine List.map_congr_left fun p _ => ?_
      show (if p.1 = k then (p.1, z) else p).1 = p.1
      split <;> rfl
    refine ⟨by rw [e]; exact h.nd, fun p hp => ?_, fun p hp => ?_⟩
    · obtain ⟨q, hq, e⟩ := List.mem_map.mp hp
      rw [← e]
      split
      · exact h.ks q hq
      · exact h.ks q hq
    · obtain ⟨q, hq, e⟩ := List.mem_map.mp hp
      rw [← e]
      split
      · exact hz
      · exact h.ws q hq
  · rw [if_neg a]
    refine ⟨?_, fun p hp => ?_, fun p hp => ?_⟩
    · rw [List.map_append, List.nodup_append]
      refine ⟨h.nd, by simp, fun x hx y hy e => a ?_⟩
      obtain ⟨q, hq, e1⟩ := List.mem_map.mp hx
      have e2 : y = k := by simpa using hy
      exact List.any_eq_true.mpr ⟨q, hq, decide_eq_true (by rw [e1, e, e2])⟩
    · rcases List.mem_append.mp hp with q | q
      · exact h.ks p q
      · cases (List.mem_singleton.mp q); exact hk
    · rcases List.mem_append.mp hp with q | q
      · exact h.ws p q
      · cases (List.mem_singleton.mp q); exact hz
theorem DicOk.nil : DicOk KS WS [] := ⟨List.nodup_nil, (fun _ h => nomatch h), (fun _ h => nomatch h)⟩
theorem DicOk.merge : ∀ {more kvs : List (Str × Str)}, DicOk KS WS kvs → (∀ p ∈ more, p.1 ∈ KS ∧ p.2 ∈ WS) → DicOk KS WS (mergeS kvs more)
  | [], _, h, _ => h
  | p :: r, _, h, g => DicOk.merge (more := r) (h.put (g p (.head _)).1 (g p (.head _)).2) fun q hq => g q (.tail _ hq)
end
/-- a table that may be written -/
def isDic (KS WS : List Str) (u : HO) : Prop := ∃ kvs, u = .dK (KV2 kvs) ∧ DicOk KS WS kvs
structure HasDic (W : Wd) (KS WS : List Str) (a : Addr) : Prop where
  mem : W.M a
  get : ∀ H, W.J H → ∃ kvs, H a = some (.dK (KV2 kvs)) ∧ DicOk KS WS kvs
  put : ∀ H kvs, W.J H → DicOk KS WS kvs → W.J (upd H a (.dK (KV2 kvs)))
theorem hasDic_new {W : Wd} {KS WS : List Str} {D : Addr} (n : ¬ W.M D) : HasDic (W.add D (isDic KS WS)) KS WS D where
  mem := .inr rfl
  get H j := by
    obtain ⟨u, e, kvs, rfl, h⟩ := j.2
    exact ⟨kvs, e, h⟩
  put H kvs j h := ⟨W.loc H _ (fun a m => upd_ne fun e => n (e ▸ m)) j.1, _, upd_same, kvs, rfl, h⟩
theorem Fr.dicput {W : Wd} {KS WS : List Str} {H : Hp} {a : Addr} {kvs : List (Str × Str)} (h : HasDic W KS WS a) (j : W.J H) (o : DicOk KS WS kvs) : Fr W H (upd H a (.dK (KV2 kvs))) :=
  ⟨fun b u nm e => by rw [upd_ne fun z : b = a => nm (by rw [z]; exact h.mem)]; exact e, h.put H kvs j o⟩
def tStrs (ps : List (Str × Str)) : List (TE × TE) := ps.map fun p => (tC (.str p.1), tC (.str p.2))
theorem tPairs_strs {σ : L2.St} {H : Hp} : ∀ (ps : List (Str × Str)) {Q : List (V × V) → Hp → Prop}, Q (ps.map fun p => (.str p.1, .str p.2)) H → tPairs (tStrs ps) σ H Q
  | [], Q, h => h
  | p :: r, Q, h => tPairs_strs r (Q := fun ps H3 => Q ((.str p.1, .str p.2) :: ps) H3) h
theorem disp_strs {σ : L2.St} {H : Hp} {Q : VK} {ps : List (Str × Str)} (l : ps.length ≤ 15) (q : ∀ p, H p = none → Q (.ref p) (upd H p (.dK (KV2 (mergeS [] ps))))) : tDisp (tStrs ps) σ H Q := fun p np => by
  refine tPairs_strs ps ⟨upd_same, KV2 ps, ?_, ?_, ?_⟩
  · unfold KV2
    rw [List.map_map]
    rfl
  · unfold KV2
    rw [List.length_map]
    exact l
  · rw [upd_upd]
    have := q p np
    rw [← mergeK_KV2] at this
    exact this
section
variable {K : PySem.W.Frag} {W : Wd} {Δ : Env} {ta tb te td ty tx : TE} {N : Env → Prop} {Rt : A → Prop} {Bk Ct : Env → Prop} {ts tu : TS} {KS WS : List Str}
/-- a table of one's own: the rest in the world that has it; then it is handed back -/
theorem xs_dic {i : Nat} {ps : List (Str × Str)} (l : ps.length ≤ 15) (g : ∀ p ∈ ps, p.1 ∈ KS ∧ p.2 ∈ WS) (rt : ∀ kvs, DicOk KS WS kvs → Rt (.d (KD kvs)))
    (h : ∀ p, ¬ W.M p → XS K (W.add p (isDic KS WS)) ts (Δ.set i (some (.v (.ref p)))) No (fun a => a = .v (.ref p)) No No) : XS K W (tSeq (tAsg (tDisp (tStrs ps)) (gName i)) ts) Δ N Rt Bk Ct := fun σ H j st D nx rt' bk ct => by
  refine seq_in (show tDisp (tStrs ps) σ H _ from disp_strs l fun p np => ?_)
  have m : ¬ W.M p := W.fresh j np
  have ok : DicOk KS WS (mergeS [] ps) := DicOk.nil.merge g
  have f0 : Fr W H (upd H p (.dK (KV2 (mergeS [] ps)))) := .new j np
  have stp : StOk K (W.add p (isDic KS WS)).M (upd H p (.dK (KV2 (mergeS [] ps)))) (σ.set i (some (.ref p))) (Δ.set i (some (.v (.ref p)))) := (st.add (φ := isDic KS WS) j np).set i rfl
  refine h p m _ _ ⟨f0.j, _, upd_same, _, rfl, ok⟩ stp _ (fun _ _ _ _ _ z => z.elim) (fun v H' a f r i1 => ?_) (fun _ _ _ _ _ z => z.elim) fun _ _ _ _ _ z => z.elim
  subst r
  have e : v = .ref p := i1
  subst e
  obtain ⟨u, hu, kvs, rfl, ok2⟩ := f.j.2
  have back : Fr W H H' := ⟨fun a o nm e => f.keep a o (fun z => z.elim nm (ne_of_none e np)) (f0.keep a o nm e), f.j.1⟩
  exact rt' _ H' (.d (KD kvs)) back (rt kvs ok2) (show Dt K (hid W.M H') (.ref p) (KD kvs) from .dct (by rw [hid_out m]; exact hu) (dtkv_of kvs))
theorem xs_dupd {i : Nat} {p : Addr} {ps : List (Str × Str)} (hv : Δ[i]? = some (some (.v (.ref p)))) (hd : HasDic W KS WS p) (l : ps.length ≤ 15) (g : ∀ p ∈ ps, p.1 ∈ KS ∧ p.2 ∈ WS) (lk : KS.length ≤ 10000) (n : N Δ) :
    XS K W (tDrop (tBM K "dict" rUpd (tVar i) (tCons (tDisp (tStrs ps)) tNil))) Δ N Rt Bk Ct := fun σ H j s D nx _ _ _ => by
  obtain ⟨v, h1, h2⟩ := s.get i _ hv
  have e : v = .ref p := h2
  subst e
  obtain ⟨kvs, g0, ok⟩ := hd.get H j
  refine ⟨_, h1, .inr (.inr (.inl ⟨rfl, .inl ⟨_, g0⟩⟩)), disp_strs l fun q nq => ?_⟩
  have ne : p ≠ q := ne_of_none g0 nq
  have f0 : Fr W H (upd H q (.dK (KV2 (mergeS [] ps)))) := .new j nq
  have ok2 : DicOk KS WS (mergeS [] ps) := DicOk.nil.merge g
  have ok3 : ∀ q ∈ mergeS [] ps, q.1 ∈ KS ∧ q.2 ∈ WS := fun q hq => ⟨ok2.ks q hq, ok2.ws q hq⟩
  refine ⟨p, q, _, _, rfl, rfl, ne, by rw [upd_ne ne]; exact g0, upd_same, ?_, ?_⟩
  · have a := ok.len
    have b := ok2.len
    unfold KV2
    rw [List.length_map, List.length_map]
    exact Nat.le_trans (Nat.add_le_add (Nat.le_trans a lk) (Nat.le_trans b lk)) (by decide)
  · rw [mergeK_KV2]
    have f1 := f0.trans (Fr.dicput hd f0.j (ok.merge ok3))
    exact nx _ _ _ f1 (s.fr f1) n
theorem xs_dput {i : Nat} {p : Addr} (hv : Δ[i]? = some (some (.v (.ref p)))) (hd : HasDic W KS WS p) (lk : KS.length ≤ 10000) (hk : XE K W ty Δ fun a => ∃ k ∈ KS, a = .d (.str k)) (hz : XE K W te Δ fun a => ∃ z ∈ WS, a = .d (.str z)) (n : N Δ) :
    XS K W (sDPut (tVar i) ty te) Δ N Rt Bk Ct := fun σ H j s D nx _ _ _ =>
  hz σ H j s _ fun v H1 a f1 r i1 => by
    obtain ⟨z, mz, e⟩ := r
    subst e
    cases i1
    obtain ⟨v, h1, h2⟩ := (s.fr f1).get i _ hv
    have e : v = .ref p := h2
    subst e
    refine ⟨_, h1, hk σ H1 f1.j (s.fr f1) _ fun w H2 b f2 r2 i2 => ?_⟩
    obtain ⟨k, mk, e⟩ := r2
    subst e
    cases i2
    obtain ⟨kvs, g0, ok⟩ := hd.get H2 f2.j
    refine ⟨p, _, rfl, DPut.k (k := Sum.inr k) g0 ?_, ?_⟩
    · have a := ok.len
      unfold KV2
      rw [List.length_map]
      exact Nat.lt_of_le_of_lt (Nat.le_trans a lk) (by decide)
    · rw [putK_KV2]
      have f := (f1.trans f2).trans (Fr.dicput hd f2.j (ok.put mk mz))
      exact nx _ _ _ f (s.fr f) n
end
end V2

namespace V2
open PySem PySem.Spec PyProof.Rows L2
section
variable {K : PySem.W.Frag} {W : Wd} {Δ : Env} {te : TE}
theorem dts_strs {H : Hp} : ∀ {ys : List Str} {vs : List V}, DtAll K H vs (ys.map PyData.str) → vs = ys.map V.str
  | [], _, .nil => rfl
  | y :: r, _, .cons (.str _) t => by rw [dts_strs t]; rfl
theorem strs_ones : ∀ (ds : List PyData), (∀ (i : Nat) d, ds[i]? = some d → ∃ c, d = .str (oneS c)) → ∃ cs : List Nat, ds = (cs.map oneS).map PyData.str ∧ cs.length = ds.length
  | [], _ => ⟨[], rfl, rfl⟩
  | d :: r, h => by
    obtain ⟨c, e⟩ := h 0 d rfl
    obtain ⟨cs, e2, l⟩ := strs_ones r fun i d h' => h (i + 1) d h'
    exact ⟨c :: cs, by rw [e, e2]; rfl, by rw [List.length_cons, List.length_cons, l]⟩
theorem strs_onesP {Pc : Nat → Prop} : ∀ (ds : List PyData), (∀ (i : Nat) d, ds[i]? = some d → ∃ c, Pc c ∧ d = .str (oneS c)) → ∃ cs : List Nat, ds = (cs.map oneS).map PyData.str ∧ cs.length = ds.length ∧ ∀ c ∈ cs, Pc c
  | [], _ => ⟨[], rfl, rfl, fun _ h => nomatch h⟩
  | d :: r, h => by
    obtain ⟨c, p, e⟩ := h 0 d rfl
    obtain ⟨cs, e2, l, q⟩ := strs_onesP r fun i d h' => h (i + 1) d h'
    exact ⟨c :: cs, by rw [e, e2]; rfl, by rw [List.length_cons, List.length_cons, l], fun x hx => by
      rcases List.mem_cons.mp hx with z | z
      · rw [z]; exact p
      · exact q x z⟩
def rJoin (K : PySem.W.Frag) : V → List V → Hp → VK → Prop := fun x xs H Q => ∃ a p, ∃ ys : List Str, x = .str a ∧ xs = [.ref p] ∧ (SqL K H p (ys.map V.str) ∨ SqT K H p (ys.map V.str)) ∧ (ys.map (·.length)).sum + ys.length * a.length ≤ 16777216 ∧ Q (.str (Txt.join a ys)) H
theorem sum_ones : ∀ cs : List Nat, ((cs.map oneS).map (·.length)).sum = cs.length
  | [] => rfl
  | c :: r => by
    rw [List.map_cons, List.map_cons, List.sum_cons, sum_ones r, List.length_cons]
    show 1 + r.length = _
    omega
theorem fold_ones : ∀ (cs : List Nat) (acc : Array Nat), (cs.map oneS).foldl (fun acc p => acc ++ ("" : Str).cps ++ p.cps) acc = acc ++ cs.toArray
  | [], acc => by simp
  | c :: r, acc => by
    rw [List.map_cons, List.foldl_cons, fold_ones r]
    show acc ++ #[] ++ #[c] ++ r.toArray = acc ++ (c :: r).toArray
    simp
theorem join_ones (cs : List Nat) : Txt.join "" (cs.map oneS) = ⟨cs.toArray⟩ := by
  cases cs with
  | nil => rfl
  | cons c r =>
    show (⟨((r.map oneS)).foldl (fun acc p => acc ++ ("" : Str).cps ++ p.cps) #[c]⟩ : Str) = _
    rw [fold_ones]
    simp
/-- ''.join of signs -/
theorem xe_joinC {Nn : Nat → Prop} {Pc : Nat → Prop} (he : XE K W te Δ fun b => ∃ ds : List PyData, Nn ds.length ∧ (∀ (i : Nat) (d : PyData), ds[i]? = some d → ∃ c, Pc c ∧ d = PyData.str (oneS c)) ∧ b = .d (.list ds)) (n : ∀ m, Nn m → m ≤ 100000) :
    XE K W (tM1 (rJoin K) (tC (.str "")) te) Δ fun a => ∃ cs : List Nat, a = .d (.str ⟨cs.toArray⟩) ∧ Nn cs.length ∧ ∀ c ∈ cs, Pc c := fun σ H j s Q q =>
  ⟨⟨_, rfl⟩, he σ H j s _ fun v H1 a f1 r i1 => by
    obtain ⟨ds, hn, hs, e⟩ := r
    subst e
    obtain ⟨cs, e, l, pc⟩ := strs_onesP ds hs
    subst e
    cases i1 with
    | lst h1 d1 =>
      have e := dts_strs d1
      subst e
      have ls : ((cs.map oneS).map (·.length)).sum + (cs.map oneS).length * ("" : Str).length = cs.length := by
        rw [sum_ones]
        show cs.length + _ * 0 = _
        omega
      refine ⟨_, _, _, rfl, rfl, .inl (.inl (.inl (hid_le _ _ h1))), by rw [ls, l]; exact Nat.le_trans (n _ hn) (by decide), ?_⟩
      rw [join_ones]
      exact q _ H1 _ f1 ⟨cs, rfl, by rw [l]; exact hn, pc⟩ (.str _)⟩
theorem xa_oneM {R : A → Prop} {S : List A → Prop} (h : XE K W te Δ R) (m : ∀ a, R a → S [a]) : XA K W (tCons te tNil) Δ S := fun σ H j s Q q =>
  h σ H j s _ fun v H1 a f r i => q _ H1 _ f (m a r) (.cons i .nil)
end
end V2

set_option Elab.async false
set_option linter.all false
set_option maxRecDepth 100000
set_option maxHeartbeats 1000000
namespace V2
open PySem PySem.Spec PyProof.Rows L2
/-! ### worlds with a state: what may change stays the same; what is true of it goes by the state -/
structure SW (S : Type) where
  M : Addr → Prop
  J : S → Hp → Prop
  live : ∀ s H a, J s H → M a → H a ≠ none
  loc : ∀ s H H', (∀ a, M a → H' a = H a) → J s H → J s H'
def SW.at {S : Type} (Z : SW S) (s : S) : Wd := ⟨Z.M, Z.J s, Z.live s, Z.loc s⟩
section
variable {S : Type} {Z : SW S} {s t u : S} {H H1 H2 : Hp} {K : PySem.W.Frag} {σ : L2.St} {Δ : Env} {v : V} {a : A}
theorem Fr.go (a : Fr (Z.at s) H H1) (b : Fr (Z.at t) H1 H2) : Fr (Z.at t) H H2 := ⟨fun x o n e => b.keep x o n (a.keep x o n e), b.j⟩
theorem StOk.go (f : Fr (Z.at t) H H1) (h : StOk K Z.M H σ Δ) : StOk K Z.M H1 σ Δ := h.ext (M := Z.M) (M' := Z.M) f.same
theorem Is.go (f : Fr (Z.at t) H H1) (h : Is K Z.M H v a) : Is K Z.M H1 v a := h.ext (M := Z.M) (M' := Z.M) f.same
end
/-! ### judgements -/
section
variable {S : Type} (K : PySem.W.Frag) (Z : SW S) (s : S)
def YE (te : TE) (Δ : Env) (R : S → A → Prop) : Prop := ∀ σ H, Z.J s H → StOk K Z.M H σ Δ → ∀ Q : VK, (∀ v H' t a, Fr (Z.at t) H H' → R t a → Is K Z.M H' v a → Q v H') → te σ H Q
def YT (tt : TT) (Δ : Env) (R : S → Bool → Prop) : Prop := ∀ σ H, Z.J s H → StOk K Z.M H σ Δ → ∀ Q : Bool → Hp → Prop, (∀ b H' t, Fr (Z.at t) H H' → R t b → Q b H') → tt σ H Q
def YA (ta : TA) (Δ : Env) (R : S → List A → Prop) : Prop := ∀ σ H, Z.J s H → StOk K Z.M H σ Δ → ∀ Q : List V → Hp → Prop, (∀ vs H' t as, Fr (Z.at t) H H' → R t as → IsAll K Z.M H' vs as → Q vs H') → ta σ H Q
/-- a statement; what it lets out: X of the state, and then Wp of the heap -/
def YS (Wp : Hp → Prop) (X : S → Prop) (ts : TS) (Δ : Env) (N : S → Env → Prop) (Rt : S → A → Prop) (Bk Ct : S → Env → Prop) : Prop := ∀ σ H, Z.J s H → StOk K Z.M H σ Δ → (∀ H' t, Fr (Z.at t) H H' → X t → Wp H') → ∀ D : Ends,
  (∀ σ' H' t Δ', Fr (Z.at t) H H' → StOk K Z.M H' σ' Δ' → N t Δ' → D.nx σ' H') → (∀ v H' t a, Fr (Z.at t) H H' → Rt t a → Is K Z.M H' v a → D.rt v H') →
  (∀ σ' H' t Δ', Fr (Z.at t) H H' → StOk K Z.M H' σ' Δ' → Bk t Δ' → D.bk σ' H') → (∀ σ' H' t Δ', Fr (Z.at t) H H' → StOk K Z.M H' σ' Δ' → Ct t Δ' → D.ct σ' H') → ts D σ H
def YI (wi : TI) (Δ : Env) (Nn : Nat → Prop) (Y : Nat → A → Prop) : Prop := ∀ σ H, Z.J s H → StOk K Z.M H σ Δ → ∀ R : It → Hp → Prop,
  (∀ J H1 n, Fr (Z.at s) H H1 → Nn n → (∀ t H2, Fr (Z.at t) H1 H2 → ∀ i, (i < n → J.go i H2 ∧ ∀ x H3, J.yld i H2 x H3 → H3 = H2 ∧ ∃ a, Y i a ∧ Is K Z.M H1 x a) ∧ (n ≤ i → J.stop i H2)) → R J H1) → wi σ H R
end
def NoS {S : Type} (_ : S) (_ : Env) : Prop := False
section
variable {S : Type} {Wp : Hp → Prop} {X : S → Prop} {K : PySem.W.Frag} {Z : SW S} {s : S} {te ta tb tl : TE} {tt ut : TT} {t tr : TA} {ts tu : TS} {Δ : Env} {R R' : S → A → Prop} {N N1 : S → Env → Prop} {Rt : S → A → Prop} {Bk Ct : S → Env → Prop}
theorem ye_of {P : A → Prop} (h : XE K (Z.at s) te Δ P) : YE K Z s te Δ fun t a => t = s ∧ P a := fun σ H j st Q q => h σ H j st Q fun v H' a f r i => q v H' s a f ⟨rfl, r⟩ i
theorem ye_mono (h : YE K Z s te Δ R) (m : ∀ t a, R t a → R' t a) : YE K Z s te Δ R' := fun σ H j st Q q => h σ H j st Q fun v H' t a f r i => q v H' t a f (m t a r) i
theorem yt_of {P : Bool → Prop} (h : XT K (Z.at s) tt Δ P) : YT K Z s tt Δ fun t b => t = s ∧ P b := fun σ H j st Q q => h σ H j st Q fun b H' f r => q b H' s f ⟨rfl, r⟩
theorem ya_of {P : List A → Prop} (h : XA K (Z.at s) t Δ P) : YA K Z s t Δ fun t a => t = s ∧ P a := fun σ H j st Q q => h σ H j st Q fun v H' a f r i => q v H' s a f ⟨rfl, r⟩ i
theorem ys_of {P : Env → Prop} {Pr : A → Prop} {Pb Pc : Env → Prop} (h : XS K (Z.at s) ts Δ P Pr Pb Pc) (n : ∀ Δ', P Δ' → N s Δ') (r : ∀ a, Pr a → Rt s a) (b : ∀ Δ', Pb Δ' → Bk s Δ') (c : ∀ Δ', Pc Δ' → Ct s Δ') : YS K Z s Wp X ts Δ N Rt Bk Ct := fun σ H j st _ D nx rt bk ct =>
  h σ H j st D (fun σ' H' Δ' f s' z => nx σ' H' s Δ' f s' (n Δ' z)) (fun v H' a f z i => rt v H' s a f (r a z) i) (fun σ' H' Δ' f s' z => bk σ' H' s Δ' f s' (b Δ' z)) fun σ' H' Δ' f s' z => ct σ' H' s Δ' f s' (c Δ' z)
theorem ya_one (h : YE K Z s te Δ R) : YA K Z s (tCons te tNil) Δ fun t as => ∃ a, as = [a] ∧ R t a := fun σ H j st Q q => h σ H j st _ fun v H1 t a f r i => q _ H1 t _ f ⟨a, rfl, r⟩ (.cons i .nil)
theorem ye_cb {r : List V → Hp → VK → Prop} {Ra : S → List A → Prop} (ha : YA K Z s t Δ Ra) (hr : ∀ t as, Ra t as → CX1 K (Z.at t) r as (R t)) : YE K Z s (tCB r t) Δ R := fun σ H j st Q q =>
  ha σ H j st _ fun vs H1 t as f1 ra i1 => hr t as ra vs H1 f1.j i1 Q fun u H2 c f2 rc i2 => q u H2 t c (f1.go f2) rc i2
theorem ye_op {r : R2} {Ra : S → A → Prop} {Rb : S → A → S → A → Prop} (ha : YE K Z s ta Δ Ra) (hb : ∀ t a, Ra t a → YE K Z t tb Δ (Rb t a)) (hr : ∀ t a u b, Ra t a → Rb t a u b → OX K (Z.at u) r a b (R u)) : YE K Z s (tOp r ta tb) Δ R := fun σ H j st Q q =>
  ha σ H j st _ fun v H1 t a f1 ra i1 => hb t a ra σ H1 f1.j (st.go f1) _ fun w H2 u b f2 rb i2 => hr t a u b ra rb v w H2 f2.j (Is.go f2 i1) i2 Q fun x H3 c f3 rc i3 => q x H3 u c ((f1.go f2).go f3) rc i3
theorem yt_test {B : S → Bool → Prop} (h : YE K Z s te Δ fun t a => ∃ b, a = .d (.bool b) ∧ B t b) : YT K Z s (tTest te) Δ B := fun σ H j st Q q => h σ H j st _ fun v H1 t a f e i => by
  obtain ⟨b, e, hb⟩ := e
  subst e
  cases i
  exact ⟨_, rfl, q _ H1 t f hb⟩
theorem yt_or {B C : S → Bool → Prop} (h : YT K Z s tt Δ B) (h1 : ∀ t, B t true → C t true) (h2 : ∀ t, B t false → YT K Z t ut Δ C) : YT K Z s (tOr tt ut) Δ C := fun σ H j st Q q => h σ H j st _ fun v H1 t f e => by
  cases v with
  | false => exact iteF (h2 t e σ H1 f.j (st.go f) Q fun c H2 u f2 e => q c H2 u (f.go f2) e)
  | true => exact iteT (q true H1 t f (h1 t e))
theorem yt_and {B C : S → Bool → Prop} (h : YT K Z s tt Δ B) (h1 : ∀ t, B t false → C t false) (h2 : ∀ t, B t true → YT K Z t ut Δ C) : YT K Z s (tAnd tt ut) Δ C := fun σ H j st Q q => h σ H j st _ fun v H1 t f e => by
  cases v with
  | true => exact iteT (h2 t e σ H1 f.j (st.go f) Q fun c H2 u f2 e => q c H2 u (f.go f2) e)
  | false => exact iteF (q false H1 t f (h1 t e))
theorem yt_not {B : S → Bool → Prop} (h : YT K Z s tt Δ B) : YT K Z s (tNot tt) Δ fun t b => B t (!b) := fun σ H j st Q q => h σ H j st _ fun v H1 t f e => q _ H1 t f (show B t (!!v) by rw [Bool.not_not]; exact e)
theorem ys_next (h : N s Δ) : YS K Z s Wp X tNext Δ N Rt Bk Ct := fun σ H j st _ D n _ _ _ => n σ H s Δ (.refl (W := Z.at s) j) st h
theorem ys_seq (h : YS K Z s Wp X ts Δ N1 Rt Bk Ct) (h' : ∀ t Δ', N1 t Δ' → YS K Z t Wp X tu Δ' N Rt Bk Ct) : YS K Z s Wp X (tSeq ts tu) Δ N Rt Bk Ct := fun σ H j st wx D n r b c =>
  h σ H j st wx { D with nx := tu D } (fun σ1 H1 t Δ1 f1 s1 n1 => h' t Δ1 n1 σ1 H1 f1.j s1 (fun H' u f => wx H' u (f1.go f)) D (fun σ2 H2 u Δ2 f2 => n σ2 H2 u Δ2 (f1.go f2)) (fun v H2 u a f2 => r v H2 u a (f1.go f2))
    (fun σ2 H2 u Δ2 f2 => b σ2 H2 u Δ2 (f1.go f2)) fun σ2 H2 u Δ2 f2 => c σ2 H2 u Δ2 (f1.go f2)) r b c
theorem ys_set {i : Nat} (h : YE K Z s te Δ R) (n : ∀ t a, R t a → N t (Δ.set i (some a))) : YS K Z s Wp X (tAsg te (gName i)) Δ N Rt Bk Ct := fun σ H j st _ D nx _ _ _ =>
  h σ H j st _ fun v H1 t a f r i1 => nx _ H1 t _ f ((st.go f).set i i1) (n t a r)
theorem ys_drop (h : YE K Z s te Δ R) (n : ∀ t a, R t a → N t Δ) : YS K Z s Wp X (tDrop te) Δ N Rt Bk Ct := fun σ H j st _ D nx _ _ _ =>
  h σ H j st _ fun v H1 t a f r i1 => nx _ H1 t _ f (st.go f) (n t a r)
theorem ys_ret (h : YE K Z s te Δ R) (m : ∀ t a, R t a → Rt t a) : YS K Z s Wp X (tRet te) Δ N Rt Bk Ct := fun σ H j st _ D _ rt _ _ => h σ H j st _ fun v H1 t a f r i1 => rt v H1 t a f (m t a r) i1
theorem ys_if {B : S → Bool → Prop} (h : YT K Z s tt Δ B) (h1 : ∀ t, B t true → YS K Z t Wp X ts Δ N Rt Bk Ct) (h2 : ∀ t, B t false → YS K Z t Wp X tu Δ N Rt Bk Ct) : YS K Z s Wp X (tIfS tt ts tu) Δ N Rt Bk Ct := fun σ H j st wx D nx rt bk ct =>
  h σ H j st _ fun v H1 t f e => by
    cases v with
    | true => exact iteT (h1 t e σ H1 f.j (st.go f) (fun H' u f' => wx H' u (f.go f')) D (fun σ2 H2 u Δ2 f2 => nx σ2 H2 u Δ2 (f.go f2)) (fun v H2 u a f2 => rt v H2 u a (f.go f2)) (fun σ2 H2 u Δ2 f2 => bk σ2 H2 u Δ2 (f.go f2)) fun σ2 H2 u Δ2 f2 => ct σ2 H2 u Δ2 (f.go f2))
    | false => exact iteF (h2 t e σ H1 f.j (st.go f) (fun H' u f' => wx H' u (f.go f')) D (fun σ2 H2 u Δ2 f2 => nx σ2 H2 u Δ2 (f.go f2)) (fun v H2 u a f2 => rt v H2 u a (f.go f2)) (fun σ2 H2 u Δ2 f2 => bk σ2 H2 u Δ2 (f.go f2)) fun σ2 H2 u Δ2 f2 => ct σ2 H2 u Δ2 (f.go f2))
/-! ### for -/
theorem yi_rng {Nn : Nat → Prop} (h : XA K (Z.at s) t Δ fun as => ∃ j : Int, as = [.d (.int j)] ∧ -(2 ^ 62) ≤ j ∧ j < 2 ^ 62 ∧ Nn j.toNat) : YI K Z s (iRng1 t) Δ Nn fun i a => a = .d (.int (i : Int)) := fun σ H j st R q =>
  h σ H j st _ fun vs H1 as f e i => by
    obtain ⟨k, e, k1, k2, hn⟩ := e
    subst e
    cases i with
    | cons i1 i2 =>
      cases i2
      cases i1
      refine ⟨k, rfl, k1, k2, q _ H1 _ f hn fun t H2 f2 i => ⟨fun l => ⟨l, fun y H3 ⟨e, ey⟩ => ⟨e, _, rfl, ?_⟩⟩, fun l => l⟩⟩
      subst ey
      rw [Int.zero_add]
      exact .int _
theorem yi_list {xs : List PyData} (h : XV K (Z.at s) tl Δ (.d (.list xs))) : YI K Z s (iList K tl) Δ (· = xs.length) fun i a => ∃ d, xs[i]? = some d ∧ a = .d d := fun σ H j st R q =>
  h σ H j st _ fun v H1 a f e i => by
    subst e
    cases i with
    | lst h1 d1 =>
      rename_i p vs
      have m : ¬ (Z.at s).M p := fun m => by rw [hid_in m] at h1; cases h1
      rw [hid_out m] at h1
      refine ⟨p, rfl, ⟨vs, .inl (.inl h1)⟩, q _ H1 _ f rfl fun t H2 f2 i => ?_⟩
      have g : SqL K H2 p vs := .inl (.inl (f2.keep p _ m h1))
      refine ⟨fun l => ?_, fun l => ⟨vs, g, by rw [d1.length]; exact l⟩⟩
      obtain ⟨v, hv, dv⟩ := d1.get (List.getElem?_eq_getElem l)
      refine ⟨⟨vs, v, g, hv⟩, fun x H3 y => ⟨y.1, .d xs[i], ⟨_, List.getElem?_eq_getElem l, rfl⟩, ?_⟩⟩
      have e := y.2 vs g
      rw [hv] at e
      cases e
      exact dv
theorem ys_for {wi : TI} {g : TG} {Nn : Nat → Prop} {Y : Nat → A → Prop} (Inv : Nat → Nat → S → Env → Prop) (hi : YI K Z s wi Δ Nn Y) (h0 : ∀ n, Nn n → Inv n 0 s Δ)
    (hs : ∀ n i a t Δ1, Nn n → i < n → Y i a → Inv n i t Δ1 → ∃ Δ2, GX K (Z.at t) g a Δ1 Δ2 ∧ YS K Z t Wp X ts Δ2 (Inv n (i + 1)) Rt N (Inv n (i + 1))) (hd : ∀ n t Δ1, Nn n → Inv n n t Δ1 → N t Δ1) : YS K Z s Wp X (tFor wi g ts) Δ N Rt Bk Ct := fun σ H j st wx D nx rt bk ct =>
  hi σ H j st _ fun J H1 n f1 hn w => by
    refine ⟨fun i m σ2 H2 => m = n - i ∧ i ≤ n ∧ ∃ t Δ2, Fr (Z.at t) H1 H2 ∧ StOk K Z.M H2 σ2 Δ2 ∧ Inv n i t Δ2, ⟨n, (Nat.sub_zero n).symm, Nat.zero_le n, s, Δ, .refl (W := Z.at s) f1.j, st.go f1, h0 n hn⟩, ?_⟩
    rintro i m σ2 H2 ⟨rfl, hi, t, Δ2, f2, s2, v2⟩
    by_cases l : i < n
    · obtain ⟨go, yl⟩ := (w t H2 f2 i).1 l
      refine .inr ⟨go, fun σ3 H3 => ∃ u Δ3, Fr (Z.at u) H1 H3 ∧ StOk K Z.M H3 σ3 Δ3 ∧ Inv n (i + 1) u Δ3, ?_, ?_⟩
      · rintro σ3 H3 ⟨u, Δ3, f3, s3, v3⟩
        exact ⟨n - (i + 1), by omega, rfl, l, u, Δ3, f3, s3, v3⟩
      · intro x H3 y
        obtain ⟨e, a, ya, ia⟩ := yl x H3 y
        subst e
        obtain ⟨Δ4, gx, body⟩ := hs n i a t Δ2 hn l ya v2
        refine gx x σ2 H3 f2.j s2 (Is.go f2 ia) _ fun σ4 H4 f4 s4 => ?_
        have f24 := f2.go f4
        exact body σ4 H4 f4.j s4 (fun H' u f' => wx H' u (f1.go (f24.go f'))) _ (fun σ5 H5 u Δ5 f5 s5 n5 => ⟨u, Δ5, f24.go f5, s5, n5⟩) (fun v H5 u a f5 => rt v H5 u a (f1.go (f24.go f5)))
          (fun σ5 H5 u Δ5 f5 s5 n5 => nx σ5 H5 u Δ5 (f1.go (f24.go f5)) s5 n5) (fun σ5 H5 u Δ5 f5 s5 n5 => ⟨u, Δ5, f24.go f5, s5, n5⟩)
    · obtain rfl : i = n := by omega
      exact .inl ⟨(w t H2 f2 i).2 (Nat.le_refl _), nx σ2 H2 t Δ2 (f1.go f2) s2 (hd i t Δ2 hn v2)⟩
end
/-! ### an object in such a world: where it stands, what of the state is its own -/
structure HasObj {S T : Type} (Z : SW S) (x : Addr) (o : T → HO) (get : S → T) (set : S → T → S) : Prop where
  mem : Z.M x
  here : ∀ s H, Z.J s H → H x = some (o (get s))
  put : ∀ s t H, Z.J s H → Z.J (set s t) (upd H x (o t))
  same : ∀ s, set s (get s) = s
  got : ∀ s t, get (set s t) = t
  twice : ∀ s t u, set (set s t) u = set s u
/-- one object more -/
def SW.obj {S T : Type} (Z : SW S) (x : Addr) (o : T → HO) : SW (S × T) where
  M a := Z.M a ∨ a = x
  J s H := Z.J s.1 H ∧ H x = some (o s.2)
  live s H a j m := m.elim (Z.live s.1 H a j.1) fun e => by rw [e, j.2]; nofun
  loc s H H' e j := ⟨Z.loc s.1 H H' (fun a m => e a (.inl m)) j.1, by rw [e x (.inr rfl)]; exact j.2⟩
/-- a world without a state -/
def SW.of (W : Wd) : SW Unit := ⟨W.M, fun _ => W.J, fun _ => W.live, fun _ => W.loc⟩
section
variable {S T U : Type} {Z : SW S} {x y : Addr} {o : T → HO} {o' : U → HO} {get : S → T} {set : S → T → S}
theorem hasObj_new (n : ¬ Z.M x) : HasObj (Z.obj x o) x o (fun s => s.2) (fun s t => (s.1, t)) where
  mem := .inr rfl
  here s H j := j.2
  put s t H j := ⟨Z.loc s.1 H _ (fun a m => upd_ne fun e => n (e ▸ m)) j.1, upd_same⟩
  same s := rfl
  got s t := rfl
  twice s t u := rfl
theorem HasObj.obj (h : HasObj Z x o get set) (n : ¬ Z.M y) : HasObj (Z.obj y o') x o (fun s => get s.1) (fun s t => (set s.1 t, s.2)) where
  mem := .inl h.mem
  here s H j := h.here s.1 H j.1
  put s t H j := ⟨h.put s.1 t H j.1, by rw [upd_ne fun e : y = x => n (e ▸ h.mem)]; exact j.2⟩
  same s := by show (set s.1 (get s.1), s.2) = s; rw [h.same]
  got s t := h.got s.1 t
  twice s t u := by show (set (set s.1 t) u, s.2) = (set s.1 u, s.2); rw [h.twice]
theorem HasObj.fr (h : HasObj Z x o get set) {s : S} {t : T} {H : Hp} (j : Z.J s H) : Fr (Z.at (set s t)) H (upd H x (o t)) :=
  ⟨fun b u nm e => by rw [upd_ne fun z : b = x => nm (show Z.M b by rw [z]; exact h.mem)]; exact e, h.put s t H j⟩
end
/-! ### promises about one object and its state -/
/-- o: how an object of such a state stands (its dict's address first); what is handed back, or raised (of the class at C), by post and postX -/
def spO {γ T : Type} (K : PySem.W.Frag) (C : Addr) (o : Addr → T → HO) (pre : γ → T → List A → Prop) (post : γ → T → T → A → Prop) (postX : γ → T → T → Prop) : Sp := fun vs H Q E =>
  ∃ (g : γ) (S : Type) (Z : SW S) (s : S) (x dx : Addr) (get : S → T) (set : S → T → S) (as : List A), Z.J s H ∧ HasObj Z x (o dx) get set ∧ pre g (get s) as ∧ IsAll K Z.M H vs (.v (.ref x) :: as) ∧
    (∀ v H' t a, Fr (Z.at (set s t)) H H' → post g (get s) t a → Is K Z.M H' v a → Q v H') ∧ ∀ H' t, Fr (Z.at (set s t)) H H' → postX g (get s) t → E (.ref C) none H'
section
variable {γ S T : Type} {K : PySem.W.Frag} {C : Addr} {o : Addr → T → HO} {pre : γ → T → List A → Prop} {post : γ → T → T → A → Prop} {postX : γ → T → T → Prop} {Z : SW S} {s : S} {x dx : Addr} {get : S → T} {set : S → T → S} {Δ : Env} {ta : TA} {te : TE} {E : XK}
/-- a method's call that does not raise -/
theorem ye_meth (g : γ) {D : Addr} {m : Str} {fs : List (Str × V)} {as : List A} (h : HasObj Z x (o dx) get set) (hv : XV K (Z.at s) te Δ (.v (.ref x))) (ho : ∀ t, ∃ fs, o dx t = .ins D dx fs ∧ fs.lookup m = none) (ha : XAs K (Z.at s) ta Δ as) (p : pre g (get s) as) (nx : ∀ t, ¬ postX g (get s) t) :
    YE K Z s (tMeth D m (spO K C o pre post postX) [] E te ta) Δ fun u a => ∃ t, u = set s t ∧ post g (get s) t a := fun σ H j st Q q =>
  hv σ H j st _ fun v H1 a f1 e i1 => by
    subst e
    have e : v = .ref x := i1
    subst e
    obtain ⟨fs, eo, el⟩ := ho (get s)
    refine ⟨x, dx, fs, rfl, by rw [h.here s H1 f1.j, eo], el, ha σ H1 f1.j (st.go f1) _ fun vs H2 as' f2 e i2 => ?_⟩
    subst e
    rw [List.append_nil]
    exact ⟨g, S, Z, s, x, dx, get, set, as', f2.j, h, p, .cons rfl i2, fun v H' t a f r i => q v H' (set s t) a ((f1.go f2).go f) ⟨t, rfl, r⟩ i, fun H' t f z => absurd z (nx t)⟩
/-- a def's call with such an object as its first argument -/
theorem ye_callo (g : γ) {as : List A} (h : HasObj Z x (o dx) get set) (ha : XAs K (Z.at s) ta Δ (.v (.ref x) :: as)) (p : pre g (get s) as) (nx : ∀ t, ¬ postX g (get s) t) :
    YE K Z s (tCall (spO K C o pre post postX) [] E ta) Δ fun u a => ∃ t, u = set s t ∧ post g (get s) t a := fun σ H j st Q q =>
  ha σ H j st _ fun vs H1 as' f1 e i1 => by
    subst e
    rw [List.append_nil]
    exact ⟨g, S, Z, s, x, dx, get, set, as, f1.j, h, p, i1, fun v H' t a f r i => q v H' (set s t) a (f1.go f) ⟨t, rfl, r⟩ i, fun H' t f z => absurd z (nx t)⟩
end
/-! ### objects whose fields are plain values -/
def oM {T : Type} (C : Addr) (fl : T → List (Str × V)) : Addr → T → HO := fun dx t => .ins C dx (fl t)
section
variable {γ S T : Type} {K : PySem.W.Frag} {C Ce : Addr} {fl : T → List (Str × V)} {pre : γ → T → List A → Prop} {post : γ → T → T → A → Prop} {postX : γ → T → T → Prop} {Z : SW S} {s : S} {x dx : Addr} {get : S → T} {set : S → T → S} {Δ : Env} {te to : TE} {Wp : Hp → Prop} {X : S → Prop} {N : S → Env → Prop} {Rt : S → A → Prop} {Bk Ct : S → Env → Prop} {f : Str} {d : PyData} {t' : T}
theorem xe_fld (h : HasObj Z x (oM C fl dx) get set) (c : Cls K C) (n : NoAttr K C f) (hv : XV K (Z.at s) to Δ (.v (.ref x))) (l : (fl (get s)).lookup f = some (vOf d)) (fd : flat d = true) : XV K (Z.at s) (tFld K to f) Δ (.d d) := fun σ H j st Q q =>
  hv σ H j st _ fun v H1 a f1 e i1 => by
    subst e
    have e : v = .ref x := i1
    subst e
    exact ⟨x, C, dx, _, _, rfl, h.here s H1 f1.j, c, n, l, q _ H1 _ f1 rfl (Dt.ofFlat fd)⟩
theorem ys_fld (h : HasObj Z x (oM C fl dx) get set) (c : Cls K C) (n : NoAttr K C f) (he : XV K (Z.at s) te Δ (.d d)) (fd : flat d = true) (hv : XV K (Z.at s) to Δ (.v (.ref x))) (small : (fl (get s)).length < 1000) (up : putF f (vOf d) (fl (get s)) = fl t') (nx : N (set s t') Δ) :
    YS K Z s Wp X (sFld K to te f) Δ N Rt Bk Ct := fun σ H j st _ D k _ _ _ =>
  he σ H j st _ fun y H1 a f1 e i1 => by
    subst e
    obtain rfl := Dt.flat i1 fd
    refine hv σ H1 f1.j (st.go f1) _ fun v H2 b f2 e i2 => ?_
    subst e
    have e : v = .ref x := i2
    subst e
    refine ⟨x, C, dx, _, rfl, h.here s H2 f2.j, c, n, small, ?_⟩
    rw [up]
    have f3 := (f1.go f2).go (h.fr (t := t') f2.j)
    exact k _ _ _ _ f3 (st.go f3) nx
/-- raising: an exception of the class at Ce, the state as it is -/
theorem ys_raise {to' : L2.St → Hp → Prop} (h : X s) (hw : ∀ σ H, Wp H → to' σ H) : YS K Z s Wp X (fun _ σ H => to' σ H) Δ N Rt Bk Ct := fun σ H j _ wx _ _ _ _ _ => hw σ H (wx H s (.refl (W := Z.at s) j) h)
def BodyO (K : PySem.W.Frag) (C Ce : Addr) (fl : T → List (Str × V)) (N : List Str) (E : XK) (pre : γ → T → List A → Prop) (post : γ → T → T → A → Prop) (postX : γ → T → T → Prop) (t : TS) : Prop :=
  ∀ (g : γ) (S : Type) (Z : SW S) (s : S) (x dx : Addr) (get : S → T) (set : S → T → S) (as : List A), HasObj Z x (oM C fl dx) get set → pre g (get s) as →
    YS K Z s (fun H => E (.ref Ce) none H) (fun u => ∃ t, u = set s t ∧ postX g (get s) t) t (startE N (.v (.ref x) :: as)) (fun u _ => ∃ t, u = set s t ∧ post g (get s) t (.d .none)) (fun u a => ∃ t, u = set s t ∧ post g (get s) t a) NoS NoS
theorem bodyO_run {N : List Str} {E : XK} {t : TS} (h : BodyO K C Ce fl N E pre post postX t) {vs : List V} {H : Hp} {Q : VK} (p : spO K Ce (oM C fl) pre post postX vs H Q E) : t ⟨fun _ H' => Q .non H', Q, fun _ _ => False, fun _ _ => False⟩ (L2.start N vs) H := by
  obtain ⟨g, S, Z, s, x, dx, get, set, as, j, ho, pr, i, q, qx⟩ := p
  refine h g S Z s x dx get set as ho pr _ H j (stOk_start i) (fun H' u f ⟨t, e, px⟩ => ?_) _ (fun σ' H' u Δ' f _ ⟨t, e, ps⟩ => ?_) (fun v H' u a f ⟨t, e, ps⟩ i' => ?_) (fun _ _ _ _ _ _ z => z.elim) fun _ _ _ _ _ _ z => z.elim
  · subst e
    exact qx H' t f px
  · subst e
    exact q _ H' t _ f ps .non
  · subst e
    exact q v H' t a f ps i'
end
section
variable {γ T : Type} {P : Program} {w : World} {K : PySem.W.Frag} {mg : Str → Option Value} {base : Heap} {k : Nat} {f C Ce : Addr} {fd : FuncData} {ps N : List Str} {fl : T → List (Str × V)} {pre : γ → T → List A → Prop} {post : γ → T → T → A → Prop} {postX : γ → T → T → Prop} {x qual : Str} {st : Stmt}
theorem spO_len (ar : ∀ g t as, pre g t as → as.length + 1 = ps.length) {vs : List V} {H : Hp} {Q : VK} {E : XK} (p : spO K Ce (oM C fl) pre post postX vs H Q E) : vs.length = ps.length := by
  obtain ⟨g, S, Z, s, x, dx, get, set, as, j, ho, pr, i, q, qx⟩ := p
  rw [i.length, List.length_cons]
  exact ar g _ as pr
/-- a method that raises nothing -/
theorem okO (F : Fun K x qual st f fd) (S : FnScope N ps (defScope st)) (ar : ∀ g t as, pre g t as → as.length + 1 = ps.length)
    (body : ∀ (cdv : Value) (Ar : Around) (outer : List PySem.Env) (s : Shared) (H : Hp) (E : XK), Room k (Ar.deeper (envOfC qual (defScope st) s.heap.objs.size f cdv)) →
      ∃ t, PSs (cxOf CX0 P w K mg base N qual (defScope st) f cdv Ar outer s H E).nox (defBody st) t ∧ BodyO K C Ce fl N E pre post postX t) : FnOk P w K mg base CX0 (k + 1) f fd ps (spO K Ce (oM C fl) pre post postX) :=
  F.ok S (fun vs H Q E p => spO_len ar p) fun cdv Ar outer s H vs Q E hr h => by
    obtain ⟨t, ht, hb⟩ := body cdv Ar outer s H E hr
    exact ⟨t, ht, bodyO_run hb h⟩
/-- a method that may raise -/
theorem okOX (F : Fun K x qual st f fd) (S : FnScope N ps (defScope st)) (ar : ∀ g t as, pre g t as → as.length + 1 = ps.length)
    (body : ∀ (cdv : Value) (Ar : Around) (outer : List PySem.Env) (s : Shared) (H : Hp) (E : XK), Room k (Ar.deeper (envOfC qual (defScope st) s.heap.objs.size f cdv)) →
      ∃ t, PSs (cxOf (CX P w) P w K mg base N qual (defScope st) f cdv Ar outer s H E) (defBody st) t ∧ BodyO K C Ce fl N E pre post postX t) : FnOk P w K mg base (CX P w) (k + 1) f fd ps (spO K Ce (oM C fl) pre post postX) :=
  F.okX S (fun vs H Q E p => spO_len ar p) fun cdv Ar outer s H vs Q E hr h => by
    obtain ⟨t, ht, hb⟩ := body cdv Ar outer s H E hr
    exact ⟨t, ht, bodyO_run hb h⟩
end
end V2

set_option Elab.async false
set_option linter.all false
set_option maxRecDepth 100000
set_option maxHeartbeats 1000000
namespace V2
open PySem PySem.Spec PyProof.Rows L2
/-! ### a method's call in a try's body: what it lets out goes by the slots -/
def tMethE (C : Addr) (m : Str) (sp : Sp) (E : L2.St → XK) (ta : TE) (t : TA) : TE := fun σ H Q => ta σ H fun y H1 => ∃ p dx fs, y = .ref p ∧ H1 p = some (.ins C dx fs) ∧ fs.lookup m = none ∧ t σ H1 fun ws H2 => sp (y :: ws) H2 Q (E σ)
section
variable {X : Cx} {CX : CXT} {k : Nat} {f C : Addr} {fd : FuncData} {ps : List Str} {sp : Sp} {E : L2.St → XK} {m : Str} {pos apos : Pos} {e o : Expr} {es : List Expr} {ta : TE} {t : TA} {pl : Sem Bool}
theorem pe_methE (he : PE X o ta) (c : Cls X.K C) (hm : Meth X.K C m f) (F : FnOk X.prog X.w X.K X.mg X.base CX k f fd ps sp) (hr : Room k X.A) (hb : Binds X.K fd ps []) (hx : ∀ σ, PassesAt CX X σ (E σ)) (ha : PA X (e :: es) t)
    (hs : starEach (e :: es) X.env = (false, eval e X.env) :: starEach es X.env := by rfl) (hp : (backTo pos (starEach es X.env)).any (·.1) = false := by rfl)
    (ht : eval (.Call (.Attribute o m apos) (e :: es) [] pos) X.env = (eval o X.env >>= fun u => standAt apos.atName >>= fun _ => holding [u] (getMethod u m pl) >>= fun q => callWith pos q.1 q.2 (backTo pos (starEach (e :: es) X.env)) (backToKw pos (keywordEach [] X.env))) := by rfl) :
    PE X (.Call (.Attribute o m apos) (e :: es) [] pos) (tMethE C m sp E ta t) := ⟨fun pins s σ H Q I h =>
  PySem.W.methodCall_KW (pl := pl) (thn (he.run pins s σ H _ I h) fun u s1 ⟨x, H1, I1, rx, a, dx, fs, ex, ea, l, q⟩ => by
    subst ex
    cases (show u = Value.ref a from rx)
    exact getmeth_ok I1 ea c hm l (PySem.W.callWith_K (first := [.ref a]) (h₀ := X.base) I.ok.mod.kin hm.kp (thn (ha.run pos pins s1 σ H1 _ I1 q) fun us s2 ⟨vs, H2, I2, r, q2⟩ => ⟨I2.kIn, run_fnS (us := .ref a :: us) (vs := .ref a :: vs) F hr hb (hx σ) I2 (.cons rfl r) q2⟩) hs hp)) ht⟩
end
end V2
namespace V2
open PySem PySem.Spec PyProof.Rows L2
theorem gx_tup3 {K : PySem.W.Frag} {W : Wd} {Δ : Env} {i j k : Nat} {x y z : PyData} : GX K W (gTup K 3 (gCons (gName i) (gCons (gName j) (gCons (gName k) gNil)))) (.d (.tuple [x, y, z])) Δ (((Δ.set i (some (.d x))).set j (some (.d y))).set k (some (.d z))) := fun v σ H jj s ii Q q => by
  cases ii with
  | tup h1 d1 =>
    cases d1 with
    | cons dx d2 =>
      cases d2 with
      | cons dy d3 =>
        cases d3 with
        | cons dz d4 =>
          cases d4
          exact ⟨_, _, rfl, sqT_same hid_le h1, rfl, _, _, rfl, _, _, rfl, _, _, rfl, rfl, q _ H (.refl jj) (((s.set (a := .d x) i dx).set (a := .d y) j dy).set (a := .d z) k dz)⟩
end V2
namespace V2
open PySem PySem.Spec PyProof.Rows L2
/-- a block whose derivation wants a fact: it is asked for in the reading -/
theorem pss_when {X : Cx} {b : List Stmt} {t : TS} {p : Prop} (h : p → PSs X b t) : PSs X b (fun D σ H => p ∧ t D σ H) := ⟨fun pins s σ H D I q => (h q.1).run pins s σ H D I q.2⟩
/-- the making of a mouth and the like: __init__ takes a text -/
theorem xs_make {T : Type} {K : PySem.W.Frag} {W : Wd} {C : Addr} {fl : T → List (Str × V)} {t0 : T} {sp : Sp} {dvs : List V} {E : XK} {d : PyData} {te : TE} {k : Nat} {ts : TS} {Δ : Env} {N : Env → Prop} {Rt : A → Prop} {Bk Ct : Env → Prop} (he : XV K W te Δ (.d d)) (fd : flat d = true)
    (hi : ∀ (x dx : Addr) (H : Hp) (Q : VK), H x = some (.ins C dx []) → Q .non (upd H x (.ins C dx (fl t0))) → sp (.ref x :: ([vOf d] ++ dvs)) H Q E)
    (h : ∀ x dx, ¬ W.M x → YS K ((SW.of W).obj x (oM C fl dx)) ((), t0) (fun _ => False) (fun _ => False) ts (Δ.set k (some (.v (.ref x)))) (fun _ => N) (fun _ => Rt) (fun _ => Bk) (fun _ => Ct)) :
    XS K W (tSeq (tAsg (tMake C sp dvs E (tCons te tNil)) (gName k)) ts) Δ N Rt Bk Ct := fun σ H j st D nx rt bk ct =>
  seq_in (show tCons te tNil σ H (fun vs H1 => ∀ x dx, H1 x = none → H1 dx = none → dx ≠ x → sp (.ref x :: (vs ++ dvs)) (upd (upd H1 dx (.own x)) x (.ins C dx [])) (fun v H2 => v = .non ∧ ts D (σ.set k (some (.ref x))) H2) E) from (xa_cons he xa_nil) σ H j st _ fun vs H1 as f1 e i1 => by
    subst e
    cases i1 with
    | cons i1 i2 =>
      cases i2
      obtain rfl := Dt.flat i1 fd
      intro x dx nx0 ndx ne
      refine hi x dx _ _ upd_same ⟨rfl, ?_⟩
      have m : ¬ W.M x := W.fresh f1.j nx0
      have fa : Fr W H1 (upd H1 dx (.own x)) := .new f1.j ndx
      have nx1 : (upd H1 dx (.own x)) x = none := by rw [upd_ne ne.symm]; exact nx0
      have fb : Fr W (upd H1 dx (.own x)) (upd (upd H1 dx (.own x)) x (.ins C dx (fl t0))) := .new fa.j nx1
      have ff := (f1.trans fa).trans fb
      have e2 : upd (upd (upd H1 dx (.own x)) x (.ins C dx [])) x (.ins C dx (fl t0)) = upd (upd H1 dx (.own x)) x (.ins C dx (fl t0)) := upd_upd
      show ts D (σ.set k (some (.ref x))) _
      rw [e2]
      have n0 : H x = none := by
        cases z : H x with
        | none => rfl
        | some o => rw [f1.keep x o m z] at nx0; cases nx0
      have sI : Same (hid W.M H) (hid (fun a => W.M a ∨ a = x) (upd (upd H1 dx (.own x)) x (.ins C dx (fl t0)))) := same_in (φ := fun _ => True) ff n0
      have stp : StOk K (fun a => W.M a ∨ a = x) (upd (upd H1 dx (.own x)) x (.ins C dx (fl t0))) (σ.set k (some (.ref x))) (Δ.set k (some (.v (.ref x)))) := (st.ext sI).set k rfl
      have back : ∀ {H2 : Hp} {u : Unit × T}, Fr (((SW.of W).obj x (oM C fl dx)).at u) (upd (upd H1 dx (.own x)) x (.ins C dx (fl t0))) H2 → Fr W H H2 := fun {H2 u} f => ⟨fun a o nm e => f.keep a o (fun z => z.elim nm (ne_of_none e n0)) (ff.keep a o nm e), f.j.1⟩
      exact h x dx m _ _ ⟨ff.j, upd_same⟩ stp (fun _ _ _ z => z.elim) D (fun σ' H' t Δ' f s' q => nx σ' H' Δ' (back f) (s'.ext (hid_add_le (φ := fun _ => True))) q)
        (fun v H' t a f r i => rt v H' a (back f) r (i.ext (hid_add_le (φ := fun _ => True))))
        (fun σ' H' t Δ' f s' q => bk σ' H' Δ' (back f) (s'.ext (hid_add_le (φ := fun _ => True))) q) fun σ' H' t Δ' f s' q => ct σ' H' Δ' (back f) (s'.ext (hid_add_le (φ := fun _ => True))) q)
section
variable {γ S T : Type} {K : PySem.W.Frag} {C Ce : Addr} {o : Addr → T → HO} {pre : γ → T → List A → Prop} {post : γ → T → T → A → Prop} {postX : γ → T → T → Prop} {Z : SW S} {s : S} {x dx : Addr} {get : S → T} {set : S → T → S} {Δ : Env} {te : TE} {ta : TA} {Wp : Hp → Prop} {X : S → Prop} {N : S → Env → Prop} {Rt : S → A → Prop} {Bk Ct : S → Env → Prop} {m : Str} {ts : Addr → Value → Option Addr → TS} {Wout : WX}
/-- try: name = o.m(..) except C as e: suite -/
theorem ys_try {i k : Nat} (g : γ) {D' : Addr} {as : List A} (h : HasObj Z x (o dx) get set) (hv : XV K (Z.at s) te Δ (.v (.ref x))) (ho : ∀ t, ∃ fs, o dx t = .ins D' dx fs ∧ fs.lookup m = none) (ha : XAs K (Z.at s) ta Δ as) (p : pre g (get s) as)
    (ex : PySem.W.exmOne K (.ref Ce) (.ref Ce) = some true) (n : ∀ t a, post g (get s) t a → N (set s t) (Δ.set k (some a)))
    (hx : ∀ t q, postX g (get s) t → YS K Z (set s t) Wp X (ts q (.ref Ce) none) (Δ.set i (some (.v (.ref q)))) (fun u Δ' => N u (Δ'.set i none)) Rt (fun u Δ' => Bk u (Δ'.set i none)) (fun u Δ' => Ct u (Δ'.set i none))) :
    YS K Z s Wp X (fun D σ H => tAsg (tMethE D' m (spO K Ce o pre post postX) (WE (wAs K (.ref Ce) i ts Wout D)) te ta) (gName k) D σ H) Δ N Rt Bk Ct := fun σ H j st wx D nx rt bk ct =>
  hv σ H j st _ fun v H1 a f1 e i1 => by
    subst e
    have e : v = .ref x := i1
    subst e
    obtain ⟨fs, eo, el⟩ := ho (get s)
    refine ⟨x, dx, fs, rfl, by rw [h.here s H1 f1.j, eo], el, ha σ H1 f1.j (st.go f1) _ fun vs H2 as' f2 e i2 => ?_⟩
    subst e
    have f12 := f1.go f2
    refine ⟨g, S, Z, s, x, dx, get, set, as', f2.j, h, p, .cons rfl i2, fun v H' t a f r i => nx _ H' (set s t) _ (f12.go f) ((st.go (f12.go f)).set k i) (n t a r), fun H' t f px => ?_⟩
    refine ⟨true, ex, fun _ q hq => ?_, fun z => nomatch z⟩
    have f3 := f12.go f
    exact hx t q px _ H' f3.j ((st.go f3).set (a := .v (.ref q)) i rfl) (fun H'' u f' => wx H'' u (f3.go f')) _ (fun σ' H'' u Δ' f' s' z => nx _ H'' u _ (f3.go f') (s'.unset i none) z) (fun v H'' u a f' => rt v H'' u a (f3.go f'))
      (fun σ' H'' u Δ' f' s' z => bk _ H'' u _ (f3.go f') (s'.unset i none) z) fun σ' H'' u Δ' f' s' z => ct _ H'' u _ (f3.go f') (s'.unset i none) z
end
section
variable {γ T : Type} {P : Program} {w : World} {K : PySem.W.Frag} {mg : Str → Option Value} {base : Heap} {k : Nat} {f C Ce : Addr} {fd : FuncData} {ps N : List Str} {fl : T → List (Str × V)} {pre : γ → T → List A → Prop} {post : γ → T → T → A → Prop} {postX : γ → T → T → Prop} {x qual : Str} {st : Stmt}
/-- a def about an object, where no repr is under way -/
theorem okOG (F : Fun K x qual st f fd) (S : FnScope N ps (defScope st)) (ar : ∀ g t as, pre g t as → as.length + 1 = ps.length)
    (body : ∀ (cdv : Value) (Ar : Around) (outer : List PySem.Env) (s : Shared) (H : Hp) (E : XK), Room k (Ar.deeper (envOfC qual (defScope st) s.heap.objs.size f cdv)) → NoG Ar →
      ∃ t, PSs (cxOf CX0 P w K mg base N qual (defScope st) f cdv Ar outer s H E).nox (defBody st) t ∧ BodyO K C Ce fl N E pre post postX t) : FnG P w K mg base CX0 (k + 1) f fd ps (spO K Ce (oM C fl) pre post postX) :=
  okG0 F S (fun vs H Q E p => spO_len ar p) fun cdv Ar outer s H vs Q E hr ng h => by
    obtain ⟨t, ht, hb⟩ := body cdv Ar outer s H E hr ng
    exact ⟨t, ht, bodyO_run hb h⟩
end
end V2
namespace V2
open PySem PySem.Spec PyProof.Rows L2
theorem ys_when {S : Type} {K : PySem.W.Frag} {Z : SW S} {s : S} {Wp : Hp → Prop} {X : S → Prop} {t : TS} {p : Prop} {Δ : Env} {N : S → Env → Prop} {Rt : S → A → Prop} {Bk Ct : S → Env → Prop} (hp : p) (h : YS K Z s Wp X t Δ N Rt Bk Ct) : YS K Z s Wp X (fun D σ H => p ∧ t D σ H) Δ N Rt Bk Ct :=
  fun σ H j st wx D a b c d => ⟨hp, h σ H j st wx D a b c d⟩
theorem cx_isE {K : PySem.W.Frag} {W : Wd} {D q : Addr} {c : V} {cv : Value} {b : Bool} (hc : ∀ u, RelV c u → u = cv) (hk : PySem.W.kitOne K (.ref D) cv = some b) : CX1 K W (rIsE K D q) [.v (.ref q), .v c] (· = .d (.bool b)) := fun vs H j i Q k => by
  cases i with
  | cons i1 i2 =>
    cases i2 with
    | cons i2 i3 =>
      cases i3
      have e1 : _ = V.ref q := i1
      have e2 : _ = c := i2
      subst e1 e2
      exact ⟨_, cv, b, rfl, hc, hk, k _ H _ (.refl j) rfl (.bl b)⟩
end V2
namespace V2
open PySem PySem.Spec PyProof.Rows L2
theorem ox_isB {K : PySem.W.Frag} {W : Wd} {a b : Bool} : OX K W rIsB (.d (.bool a)) (.d (.bool b)) (· = .d (.bool (decide (a = b)))) := fun v w H j i1 i2 Q q => by
  cases i1
  cases i2
  exact ⟨_, _, rfl, rfl, q _ H _ (.refl j) rfl (.bl _)⟩
theorem ox_notB {K : PySem.W.Frag} {W : Wd} {a b : Bool} : OX K W rNotB (.d (.bool a)) (.d (.bool b)) (· = .d (.bool (!decide (a = b)))) := fun v w H j i1 i2 Q q => by
  cases i1
  cases i2
  exact ⟨_, _, rfl, rfl, q _ H _ (.refl j) rfl (.bl _)⟩
/-- what leaves the state as it is, read as an expression -/
theorem xe_of_ye {S : Type} {K : PySem.W.Frag} {Z : SW S} {s : S} {te : TE} {Δ : Env} {P : A → Prop} (h : YE K Z s te Δ fun t a => t = s ∧ P a) : XE K (Z.at s) te Δ P := fun σ H j st Q q =>
  h σ H j st Q fun v H' t a f r i => by
    obtain ⟨e, r⟩ := r
    subst e
    exact q v H' a f r i
end V2
namespace V2
open PySem PySem.Spec PyProof.Rows L2
/-- a text, so many times -/
def rMulT : R2 := fun x y H Q => ∃ (a : Str) (n : Int), x = .str a ∧ y = .int n ∧ MulOk a n ∧ Q (.str (Txt.mul a n)) H
theorem o_mulT {X : Cx} : OpR X (binaryOp .Mult) rMulT := fun pins s σ H x y v u Q I rx ry h => by
  obtain ⟨a, n, rfl, rfl, ok, q⟩ := h
  obtain ⟨t, rfl⟩ := rx
  obtain ⟨t', rfl⟩ := ry
  exact SB.mul ok fun t' k => ⟨.str _, H, I.tok _, ⟨_, rfl⟩, q⟩
theorem ox_mulT {K : PySem.W.Frag} {W : Wd} {a : Str} {n : Int} (ok : MulOk a n) : OX K W rMulT (.d (.str a)) (.d (.int n)) (· = .d (.str (Txt.mul a n))) := fun v w H j i1 i2 Q q => by
  cases i1
  cases i2
  exact ⟨_, _, rfl, rfl, ok, q _ H _ (.refl j) rfl (.str _)⟩
theorem xe_disp {K : PySem.W.Frag} {W : Wd} {Δ : Env} {ps : List (Str × Str)} (l : ps.length ≤ 15) : XV K W (tDisp (tStrs ps)) Δ (.d (KD (mergeS [] ps))) := fun σ H j st Q q =>
  disp_strs l fun p np => q _ _ _ (.new j np) rfl (.dct (hid_new j np) (dtkv_of _))
theorem xa_consR {K : PySem.W.Frag} {W : Wd} {Δ : Env} {te : TE} {tr : TA} {R : A → Prop} {R2 : List A → Prop} (h : XE K W te Δ R) (r : XA K W tr Δ R2) : XA K W (tCons te tr) Δ fun as => ∃ a bs, as = a :: bs ∧ R a ∧ R2 bs := fun σ H j s Q q =>
  h σ H j s _ fun v H1 a f1 e1 i1 => r σ H1 f1.j (s.fr f1) _ fun vs H2 bs f2 e2 i2 => q _ H2 _ (f1.trans f2) ⟨a, bs, rfl, e1, e2⟩ (.cons (i1.fr f2) i2)
theorem xe_callgR {γ : Type} {K : PySem.W.Frag} {W : Wd} {Δ : Env} {ta : TA} {E : XK} {pre : γ → Wd → List A → Prop} {post : γ → A → Prop} {Ra : List A → Prop} {R : A → Prop} (h : XA K W ta Δ Ra) (p : ∀ as, Ra as → ∃ g, pre g W as ∧ ∀ a, post g a → R a) : XE K W (tCall (spG K pre post) [] E ta) Δ R := fun σ H j s Q q =>
  h σ H j s _ fun vs H1 as f1 e i1 => by
    obtain ⟨g, hp, hr⟩ := p as e
    rw [List.append_nil]
    exact ⟨g, W, as, f1.j, hp, i1, fun v H' a f r i => q v H' a (f1.trans f) (hr a r) i⟩
end V2
namespace V2
open PySem PySem.Spec PyProof.Rows L2
/-- an error of a class is what «except» of that class names -/
theorem exm_one {K : PySem.W.Frag} {D : Addr} (b : PySem.W.subIn K (.ref D) (.type "BaseException") = some true) (i : PySem.W.isClsIn K D = true) (t : PySem.W.typeIn K (.ref D) = some (.type "type")) (s : PySem.W.subIn K (.ref D) (.ref D) = some true) : PySem.W.exmOne K (.ref D) (.ref D) = some true := by
  have i' : (PySem.W.clsIn K D).isSome = true := i
  have e1 : (PySem.W.subIn K (.ref D) (.type "BaseException") == some true) = true := by rw [b] <;> rfl
  have e2 : ((PySem.W.clsIn K D).isSome && PySem.W.typeIn K (.ref D) == some (.type "type")) = true := by rw [i', t] <;> rfl
  have k : PySem.W.kitCls K (.ref D) (.ref D) = some true := (if_pos e2).trans s
  exact (if_pos e1).trans k
end V2

set_option Elab.async false
set_option linter.all false
set_option maxRecDepth 100000
set_option maxHeartbeats 1000000
namespace V2
open PySem PySem.Spec PyProof.Rows L2
section
variable {γ S T : Type} {K : PySem.W.Frag} {C Ce : Addr} {o : Addr → T → HO} {pre : γ → T → List A → Prop} {post : γ → T → T → A → Prop} {postX : γ → T → T → Prop} {Z : SW S} {s : S} {x dx : Addr} {get : S → T} {set : S → T → S} {Δ : Env} {te : TE} {ta : TA} {Wp : Hp → Prop} {X : S → Prop} {N : S → Env → Prop} {Rt : S → A → Prop} {Bk Ct : S → Env → Prop} {m : Str} {ts : Addr → Value → Option Addr → TS} {Wout : WX}
/-- try: return o.m(..) except C: suite -/
theorem ys_tryret (g : γ) {D' : Addr} {as : List A} (h : HasObj Z x (o dx) get set) (hv : XV K (Z.at s) te Δ (.v (.ref x))) (ho : ∀ t, ∃ fs, o dx t = .ins D' dx fs ∧ fs.lookup m = none) (ha : XAs K (Z.at s) ta Δ as) (p : pre g (get s) as)
    (ex : PySem.W.exmOne K (.ref Ce) (.ref Ce) = some true) (n : ∀ t a, post g (get s) t a → Rt (set s t) a) (hx : ∀ t q, postX g (get s) t → YS K Z (set s t) Wp X (ts q (.ref Ce) none) Δ N Rt Bk Ct) :
    YS K Z s Wp X (fun D σ H => tRet (tMethE D' m (spO K Ce o pre post postX) (WE (wOnly K (.ref Ce) ts Wout D)) te ta) D σ H) Δ N Rt Bk Ct := fun σ H j st wx D nx rt bk ct =>
  hv σ H j st _ fun v H1 a f1 e i1 => by
    subst e
    have e : v = .ref x := i1
    subst e
    obtain ⟨fs, eo, el⟩ := ho (get s)
    refine ⟨x, dx, fs, rfl, by rw [h.here s H1 f1.j, eo], el, ha σ H1 f1.j (st.go f1) _ fun vs H2 as' f2 e i2 => ?_⟩
    subst e
    have f12 := f1.go f2
    refine ⟨g, S, Z, s, x, dx, get, set, as', f2.j, h, p, .cons rfl i2, fun v H' t a f r i => rt v H' (set s t) a (f12.go f) (n t a r) i, fun H' t f px => ?_⟩
    refine ⟨true, ex, fun _ q hq => ?_, fun z => nomatch z⟩
    have f3 := f12.go f
    exact hx t q px _ H' f3.j (st.go f3) (fun H'' u f' => wx H'' u (f3.go f')) _ (fun σ' H'' u Δ' f' s' z => nx _ H'' u _ (f3.go f') s' z) (fun v H'' u a f' => rt v H'' u a (f3.go f'))
      (fun σ' H'' u Δ' f' s' z => bk _ H'' u _ (f3.go f') s' z) fun σ' H'' u Δ' f' s' z => ct _ H'' u _ (f3.go f') s' z
end
end V2

set_option Elab.async false
set_option linter.all false
set_option maxRecDepth 100000
set_option maxHeartbeats 1000000
namespace V2
open PySem PySem.Spec PyProof.Rows L2
/-! ### a world with a state that grows by new objects -/
structure Grw {S S' : Type} (Z : SW S) (s : S) (H : Hp) (Z' : SW S') (s' : S') (H' : Hp) (π : S' → S) : Prop where
  j : Z'.J s' H'
  sm : Same (hid Z.M H) (hid Z'.M H')
  back : ∀ u H2, Fr (Z'.at u) H' H2 → Fr (Z.at (π u)) H H2
  le : ∀ H2, Same (hid Z'.M H2) (hid Z.M H2)
section
variable {S S' S'' T : Type} {Z : SW S} {Z' : SW S'} {Z'' : SW S''} {s t : S} {s' : S'} {s'' : S''} {H H' H'' : Hp} {π : S' → S} {ρ : S'' → S'} {x y D : Addr} {o : T → HO} {t0 : T} {φ : HO → Prop}
theorem Grw.fr (f : Fr (Z.at t) H H') : Grw Z s H Z t H' id := ⟨f.j, f.same, fun u H2 g => f.go g, fun _ _ _ e => e⟩
theorem Grw.trans (a : Grw Z s H Z' s' H' π) (b : Grw Z' s' H' Z'' s'' H'' ρ) : Grw Z s H Z'' s'' H'' (fun u => π (ρ u)) :=
  ⟨b.j, fun x o e => b.sm x o (a.sm x o e), fun u H2 g => a.back (ρ u) H2 (b.back u H2 g), fun H2 x o e => a.le H2 x o (b.le H2 x o e)⟩
theorem Grw.obj (j : Z.J s H) (n : H x = none) : Grw Z s H (Z.obj x o) (s, t0) (upd H x (o t0)) Prod.fst where
  j := ⟨Z.loc s H _ (fun a m => upd_ne fun z => Wd.fresh (W := Z.at s) j n (z ▸ m)) j, upd_same⟩
  sm := same_in (W := Z.at s) (φ := fun _ => True) (Fr.new (W := Z.at s) j n) n
  back u H2 g := ⟨fun a o nm e => g.keep a o (fun z => z.elim nm (ne_of_none e n)) ((Fr.new (W := Z.at s) j n).keep a o nm e), g.j.1⟩
  le H2 := hid_add_le (W := Z.at s) (φ := fun _ => True)
/-- one more address that may change, by φ alone -/
def SW.add {S : Type} (Z : SW S) (D : Addr) (φ : HO → Prop) : SW S where
  M a := Z.M a ∨ a = D
  J s H := Z.J s H ∧ ∃ u, H D = some u ∧ φ u
  live s H a j m := m.elim (Z.live s H a j.1) fun e => by
    obtain ⟨u, h, _⟩ := j.2
    rw [e, h]
    nofun
  loc s H H' e j := ⟨Z.loc s H H' (fun a m => e a (.inl m)) j.1, by rw [e D (.inr rfl)]; exact j.2⟩
theorem HasObj.add {get : S → T} {set : S → T → S} (h : HasObj Z x o get set) (n : ¬ Z.M D) : HasObj (Z.add D φ) x o get set where
  mem := .inl h.mem
  here s H j := h.here s H j.1
  put s t H j := ⟨h.put s t H j.1, by
    obtain ⟨u, e, p⟩ := j.2
    exact ⟨u, by rw [upd_ne fun z : D = x => n (z ▸ h.mem)]; exact e, p⟩⟩
  same := h.same
  got := h.got
  twice := h.twice
theorem HasPool.obj {t : T} (h : HasPool (Z.at s) x) (n : ¬ Z.M y) : HasPool ((Z.obj y o).at (s, t)) x where
  mem := .inl h.mem
  get H j := h.get H j.1
  put H n' s' j h0 h1 := ⟨h.put H n' s' j.1 h0 h1, by rw [upd_ne fun e : y = x => n (e ▸ h.mem)]; exact j.2⟩
end
section
variable {S S' T : Type} {K : PySem.W.Frag} {Z : SW S} {Z' : SW S'} {s : S} {s' : S'} {π : S' → S} {H H' : Hp} {σ : L2.St} {Δ Δ' : Env} {Wp : Hp → Prop} {X : S → Prop} {N : S → Env → Prop} {Rt : S → A → Prop} {Bk Ct : S → Env → Prop} {ts : TS} {te : TE} {ta : TA} {k : Nat} {W : Wd}
theorem ys_in (g : Grw Z s H Z' s' H' π) (st : StOk K Z'.M H' σ Δ') (h : YS K Z' s' Wp (fun u => X (π u)) ts Δ' (fun u => N (π u)) (fun u => Rt (π u)) (fun u => Bk (π u)) (fun u => Ct (π u)))
    (wx : ∀ H2 t, Fr (Z.at t) H H2 → X t → Wp H2) {D : Ends} (nx : ∀ σ' H' t Δ', Fr (Z.at t) H H' → StOk K Z.M H' σ' Δ' → N t Δ' → D.nx σ' H') (rt : ∀ v H' t a, Fr (Z.at t) H H' → Rt t a → Is K Z.M H' v a → D.rt v H')
    (bk : ∀ σ' H' t Δ', Fr (Z.at t) H H' → StOk K Z.M H' σ' Δ' → Bk t Δ' → D.bk σ' H') (ct : ∀ σ' H' t Δ', Fr (Z.at t) H H' → StOk K Z.M H' σ' Δ' → Ct t Δ' → D.ct σ' H') : ts D σ H' :=
  h σ H' g.j st (fun H2 u f => wx H2 (π u) (g.back u H2 f)) D (fun σ2 H2 u Δ2 f s2 n => nx σ2 H2 (π u) Δ2 (g.back u H2 f) (s2.ext (g.le H2)) n) (fun v H2 u a f r i => rt v H2 (π u) a (g.back u H2 f) r (i.ext (g.le H2)))
    (fun σ2 H2 u Δ2 f s2 n => bk σ2 H2 (π u) Δ2 (g.back u H2 f) (s2.ext (g.le H2)) n) fun σ2 H2 u Δ2 f s2 n => ct σ2 H2 (π u) Δ2 (g.back u H2 f) (s2.ext (g.le H2)) n
theorem xs_of_ys {N : Env → Prop} {Rt : A → Prop} {Bk Ct : Env → Prop} (h : YS K (SW.of W) () (fun _ => False) (fun _ => False) ts Δ (fun _ => N) (fun _ => Rt) (fun _ => Bk) (fun _ => Ct)) : XS K W ts Δ N Rt Bk Ct := fun σ H j st D nx rt bk ct =>
  h σ H j st (fun _ _ _ z => z.elim) D (fun σ' H' _ Δ' f s n => nx σ' H' Δ' f s n) (fun v H' _ a f r i => rt v H' a f r i) (fun σ' H' _ Δ' f s n => bk σ' H' Δ' f s n) fun σ' H' _ Δ' f s n => ct σ' H' Δ' f s n
theorem ys_via (P : TS → Prop) (h : P ts) (h' : P ts → YS K Z s Wp X ts Δ N Rt Bk Ct) : YS K Z s Wp X ts Δ N Rt Bk Ct := h' h
/-- the making of an object whose __init__ takes flat things -/
theorem mk_in {C : Addr} {fl : T → List (Str × V)} {t0 : T} {sp : Sp} {dvs : List V} {E : XK} {d : PyData} (he : XV K (Z.at s) te Δ (.d d)) (fd : flat d = true)
    (hi : ∀ (x dx : Addr) (H : Hp) (Q : VK), H x = some (.ins C dx []) → Q .non (upd H x (.ins C dx (fl t0))) → sp (.ref x :: ([vOf d] ++ dvs)) H Q E) (j : Z.J s H) (st : StOk K Z.M H σ Δ) {Q : VK}
    (q : ∀ x dx H', ¬ Z.M x → Grw Z s H (Z.obj x (oM C fl dx)) (s, t0) H' Prod.fst → Q (.ref x) H') : tMake C sp dvs E (tCons te tNil) σ H Q :=
  show tCons te tNil σ H (fun vs H1 => ∀ x dx, H1 x = none → H1 dx = none → dx ≠ x → sp (.ref x :: (vs ++ dvs)) (upd (upd H1 dx (.own x)) x (.ins C dx [])) (fun v H2 => v = .non ∧ Q (.ref x) H2) E) from
  (xa_cons he xa_nil) σ H j st _ fun vs H1 as f1 e i1 => by
    subst e
    cases i1 with
    | cons i1 i2 =>
      cases i2
      obtain rfl := Dt.flat i1 fd
      intro x dx nx0 ndx ne
      refine hi x dx _ _ upd_same ⟨rfl, ?_⟩
      have fa : Fr (Z.at s) H1 (upd H1 dx (.own x)) := .new f1.j ndx
      have nx1 : (upd H1 dx (.own x)) x = none := by rw [upd_ne ne.symm]; exact nx0
      have e2 : upd (upd (upd H1 dx (.own x)) x (.ins C dx [])) x (.ins C dx (fl t0)) = upd (upd H1 dx (.own x)) x (.ins C dx (fl t0)) := upd_upd
      rw [e2]
      exact q x dx _ (Wd.fresh (W := Z.at s) f1.j nx0) ((Grw.fr (f1.trans fa)).trans (Grw.obj (o := oM C fl dx) (t0 := t0) fa.j nx1))
/-- [C(..), C(..)], the rest in the world that has both and the list -/
theorem ys_two {C : Addr} {fl : T → List (Str × V)} {t0 : T} {sp : Sp} {dvs : List V} {E : XK} {d : PyData} (he : ∀ W, XV K W te Δ (.d d)) (fd : flat d = true)
    (hi : ∀ (x dx : Addr) (H : Hp) (Q : VK), H x = some (.ins C dx []) → Q .non (upd H x (.ins C dx (fl t0))) → sp (.ref x :: ([vOf d] ++ dvs)) H Q E)
    (h : ∀ x1 dx1 x2 dx2 m, ¬ Z.M x1 → ¬ (Z.obj x1 (oM C fl dx1)).M x2 → ¬ ((Z.obj x1 (oM C fl dx1)).obj x2 (oM C fl dx2)).M m →
      YS K (((Z.obj x1 (oM C fl dx1)).obj x2 (oM C fl dx2)).obj m (fun (_ : Unit) => HO.lst [.ref x1, .ref x2])) (((s, t0), t0), ()) Wp (fun u => X u.1.1.1) ts (Δ.set k (some (.v (.ref m)))) (fun u => N u.1.1.1) (fun u => Rt u.1.1.1) (fun u => Bk u.1.1.1) (fun u => Ct u.1.1.1)) :
    YS K Z s Wp X (tSeq (tAsg (tLst (tCons (tMake C sp dvs E (tCons te tNil)) (tCons (tMake C sp dvs E (tCons te tNil)) tNil))) (gName k)) ts) Δ N Rt Bk Ct := fun σ H j st wx D nx rt bk ct =>
  seq_in (show tMake C sp dvs E (tCons te tNil) σ H (fun v1 H1 => tMake C sp dvs E (tCons te tNil) σ H1 (fun v2 H2 => [v1, v2].length ≤ sizeLine ∧ ∀ p, H2 p = none → ts D (σ.set k (some (.ref p))) (upd H2 p (.lst [v1, v2])))) from
    mk_in (he _) fd hi j st fun x1 dx1 H1 m1 g1 => mk_in (he _) fd hi g1.j (st.ext g1.sm) fun x2 dx2 H2 m2 g2 => by
      refine ⟨by show 2 ≤ sizeLine; decide, fun p np => ?_⟩
      have g3 := Grw.obj (o := fun (_ : Unit) => HO.lst [.ref x1, .ref x2]) (t0 := ()) g2.j np
      have m3 : ¬ ((Z.obj x1 (oM C fl dx1)).obj x2 (oM C fl dx2)).M p := Wd.fresh (W := ((Z.obj x1 (oM C fl dx1)).obj x2 (oM C fl dx2)).at ((s, t0), t0)) g2.j np
      exact ys_in ((g1.trans g2).trans g3) ((((st.ext g1.sm).ext g2.sm).ext g3.sm).set (a := .v (.ref p)) k rfl) (h x1 dx1 x2 dx2 p m1 m2 m3) wx nx rt bk ct)
/-- two whole numbers in a list that may be written -/
def o2 : Nat × Nat → HO := fun p => .lst [.int (p.1 : Int), .int (p.2 : Int)]
theorem ys_ints {a b : Nat} (ha : XAs K (Z.at s) ta Δ [.d (.int (a : Int)), .d (.int (b : Int))])
    (h : ∀ x, ¬ Z.M x → YS K (Z.obj x o2) (s, (a, b)) Wp (fun u => X u.1) ts (Δ.set k (some (.v (.ref x)))) (fun u => N u.1) (fun u => Rt u.1) (fun u => Bk u.1) (fun u => Ct u.1)) :
    YS K Z s Wp X (tSeq (tAsg (tLst ta) (gName k)) ts) Δ N Rt Bk Ct := fun σ H j st wx D nx rt bk ct =>
  seq_in (show ta σ H (fun xs H1 => xs.length ≤ sizeLine ∧ ∀ p, H1 p = none → ts D (σ.set k (some (.ref p))) (upd H1 p (.lst xs))) from ha σ H j st _ fun vs H1 as f e i => by
    subst e
    cases i with
    | cons i1 i2 =>
      cases i1
      cases i2 with
      | cons i1 i2 =>
        cases i1
        cases i2
        refine ⟨by show 2 ≤ sizeLine; decide, fun p np => ?_⟩
        have g := (Grw.fr (s := s) f).trans (Grw.obj (o := o2) (t0 := (a, b)) f.j np)
        exact ys_in g ((st.ext g.sm).set (a := .v (.ref p)) k rfl) (h p (Wd.fresh (W := Z.at s) f.j np)) wx nx rt bk ct)
theorem ox_ixO {xs : List V} {m : Addr} {i : Int} {v : V} {a : A} (h : ∀ H, Z.J s H → H m = some (.lst xs)) (h0 : 0 ≤ i) (hv : xs[i.toNat]? = some v) (ia : ∀ H, Is K Z.M H v a) : OX K (Z.at s) (rIxL K) (.v (.ref m)) (.d (.int i)) (· = a) := fun v' w H j i1 i2 Q q => by
  cases i2
  have e : v' = .ref m := i1
  subst e
  exact ⟨_, xs, i, v, rfl, rfl, .inl (.inl (h H j)), at_of (j := i.toNat) (by omega) hv, q _ H _ (.refl j) rfl (ia H)⟩
/-- name, list[w] = a pair -/
theorem ys_putAt {i pl w : Nat} {x : Addr} {wi : Int} {P : PyData} {n : Nat} {get : S → Nat × Nat} {set : S → Nat × Nat → S} {p' : Nat × Nat} (ho : HasObj Z x o2 get set) (hpl : Δ[pl]? = some (some (.v (.ref x)))) (hw : Δ[w]? = some (some (.d (.int wi)))) (ne1 : i ≠ pl) (ne2 : i ≠ w)
    (hwi : (wi = 0 ∧ p' = (n, (get s).2)) ∨ (wi = 1 ∧ p' = ((get s).1, n))) (he : XV K (Z.at s) te Δ (.d (.tuple [P, .int (n : Nat)]))) (hN : N (set s p') (Δ.set i (some (.d P)))) :
    YS K Z s Wp X (tAsg te (gTup K 2 (gCons (gName i) (gCons (gSub (tVar pl) (tVar w) rSetL) gNil)))) Δ N Rt Bk Ct := fun σ H j st wx D nx rt bk ct =>
  he σ H j st _ fun v H1 a f e i1 => by
    subst e
    cases i1 with
    | tup h1 d1 =>
      cases d1 with
      | cons dx d2 =>
        cases d2 with
        | cons dy d3 =>
          cases d3
          cases dy
          have st1 := (st.go f).set (a := .d P) i dx
          obtain ⟨u1, e1, r1⟩ := st1.get pl (.v (.ref x)) (by rw [List.getElem?_set_ne ne1]; exact hpl)
          obtain ⟨u2, e2, r2⟩ := st1.get w (.d (.int wi)) (by rw [List.getElem?_set_ne ne2]; exact hw)
          cases r2
          have r1 : u1 = .ref x := r1
          subst r1
          have ff : Fr (Z.at (set s p')) H1 (upd H1 x (o2 p')) := ho.fr f.j
          have fin := nx _ _ (set s p') _ (f.go ff) (st1.go ff) hN
          refine ⟨_, _, rfl, sqT_same hid_le h1, rfl, _, _, rfl, _, _, rfl, _, e1, _, e2, x, _, wi, wi.toNat, rfl, rfl, ho.here s H1 f.j, ?_, ?_⟩
          · rcases hwi with ⟨rfl, _⟩ | ⟨rfl, _⟩ <;> rfl
          · refine ⟨rfl, ?_⟩
            rcases hwi with ⟨rfl, rfl⟩ | ⟨rfl, rfl⟩ <;> exact fin
theorem xi_objs {xs : List Addr} {m : Addr} {jv : Nat} (h : ∀ H, Z.J s H → H m = some (.lst (xs.map V.ref))) (hv : Δ[jv]? = some (some (.v (.ref m)))) : XI K (Z.at s) (iList K (tVar jv)) Δ (· = xs.length) (fun i a => ∃ x, xs[i]? = some x ∧ a = .v (.ref x)) := fun σ H j st R q => by
  obtain ⟨v, e, r⟩ := st.get jv _ hv
  have r : v = .ref m := r
  subst r
  refine ⟨_, e, m, rfl, ⟨_, .inl (.inl (h H j))⟩, q _ H _ (.refl j) rfl fun H2 f2 i => ?_⟩
  have g : SqL K H2 m (xs.map V.ref) := .inl (.inl (h H2 f2.j))
  refine ⟨fun l => ?_, fun l => ⟨_, g, by rw [List.length_map]; exact l⟩⟩
  refine ⟨⟨_, .ref xs[i], g, by rw [List.getElem?_map, List.getElem?_eq_getElem l]; rfl⟩, fun x H3 y => ⟨y.1, .v (.ref xs[i]), ⟨_, List.getElem?_eq_getElem l, rfl⟩, ?_⟩⟩
  have e := y.2 _ g
  rw [List.getElem?_map, List.getElem?_eq_getElem l] at e
  cases e
  rfl
theorem dts_ints {H : Hp} : ∀ ns : List Int, DtAll K H (ns.map V.int) (ns.map PyData.int)
  | [] => .nil
  | n :: r => .cons (.int n) (dts_ints r)
theorem ox_neO {d : PyData} {ns : List Int} {x : Addr} (nd : d.hasDict = false) (sd : SeqAt.shaped d = true) (h : ∀ H, Z.J s H → H x = some (.lst (ns.map V.int))) (hn : (PyData.list (ns.map .int)).hasDict = false) (sn : SeqAt.shaped (.list (ns.map .int)) = true) :
    OX K (Z.at s) (rNeD K) (.d d) (.v (.ref x)) (· = .d (.bool (!PyData.eqv d (.list (ns.map .int))))) := fun v w H j i1 i2 Q q => by
  have e : w = .ref x := i2
  subst e
  exact ⟨d, .list (ns.map .int), Dt.dp _ _ nd (Dt.ext hid_le _ _ i1), Dt.dp _ _ hn (Dt.lst (h H j) (dts_ints ns)), sd, sn, q _ H _ (.refl j) rfl (.bl _)⟩
end
section
variable {γ S T : Type} {K : PySem.W.Frag} {C Ce : Addr} {o : Addr → T → HO} {pre : γ → T → List A → Prop} {post : γ → T → T → A → Prop} {postX : γ → T → T → Prop} {Z : SW S} {s : S} {x dx : Addr} {get : S → T} {set : S → T → S} {Δ : Env} {te : TE} {ta : TA} {Wp : Hp → Prop} {X : S → Prop} {N : S → Env → Prop} {Rt : S → A → Prop} {Bk Ct : S → Env → Prop} {m : Str} {ts : Addr → Value → Option Addr → TS} {Wout : WX}
/-- try: o.m(..) except C as e: suite -/
theorem ys_tryDrop {i : Nat} (g : γ) {D' : Addr} {as : List A} (h : HasObj Z x (o dx) get set) (hv : XV K (Z.at s) te Δ (.v (.ref x))) (ho : ∀ t, ∃ fs, o dx t = .ins D' dx fs ∧ fs.lookup m = none) (ha : XAs K (Z.at s) ta Δ as) (p : pre g (get s) as)
    (ex : PySem.W.exmOne K (.ref Ce) (.ref Ce) = some true) (n : ∀ t a, post g (get s) t a → N (set s t) Δ)
    (hx : ∀ t q, postX g (get s) t → YS K Z (set s t) Wp X (ts q (.ref Ce) none) (Δ.set i (some (.v (.ref q)))) (fun u Δ' => N u (Δ'.set i none)) Rt (fun u Δ' => Bk u (Δ'.set i none)) (fun u Δ' => Ct u (Δ'.set i none))) :
    YS K Z s Wp X (fun D σ H => tDrop (tMethE D' m (spO K Ce o pre post postX) (WE (wAs K (.ref Ce) i ts Wout D)) te ta) D σ H) Δ N Rt Bk Ct := fun σ H j st wx D nx rt bk ct =>
  hv σ H j st _ fun v H1 a f1 e i1 => by
    subst e
    have e : v = .ref x := i1
    subst e
    obtain ⟨fs, eo, el⟩ := ho (get s)
    refine ⟨x, dx, fs, rfl, by rw [h.here s H1 f1.j, eo], el, ha σ H1 f1.j (st.go f1) _ fun vs H2 as' f2 e i2 => ?_⟩
    subst e
    have f12 := f1.go f2
    refine ⟨g, S, Z, s, x, dx, get, set, as', f2.j, h, p, .cons rfl i2, fun v H' t a f r i => nx _ H' (set s t) _ (f12.go f) (st.go (f12.go f)) (n t a r), fun H' t f px => ?_⟩
    refine ⟨true, ex, fun _ q hq => ?_, fun z => nomatch z⟩
    have f3 := f12.go f
    exact hx t q px _ H' f3.j ((st.go f3).set (a := .v (.ref q)) i rfl) (fun H'' u f' => wx H'' u (f3.go f')) _ (fun σ' H'' u Δ' f' s' z => nx _ H'' u _ (f3.go f') (s'.unset i none) z) (fun v H'' u a f' => rt v H'' u a (f3.go f'))
      (fun σ' H'' u Δ' f' s' z => bk _ H'' u _ (f3.go f') (s'.unset i none) z) fun σ' H'' u Δ' f' s' z => ct _ H'' u _ (f3.go f') (s'.unset i none) z
end
end V2

set_option Elab.async false
set_option linter.all false
set_option maxRecDepth 100000
set_option maxHeartbeats 1000000
namespace V2
open PySem PySem.Spec PyProof.Rows L2
section
variable {S T γ : Type} {K : PySem.W.Frag} {Z : SW S} {s : S} {H : Hp} {σ : L2.St} {Δ : Env} {te tk : TE} {ta : TA} {W : Wd} {k : Nat} {ts : TS} {Wp : Hp → Prop} {X : S → Prop} {N : S → Env → Prop} {Rt : S → A → Prop} {Bk Ct : S → Env → Prop}
/-- C(e, k = e2) -/
theorem mk_inK {C : Addr} {fl : T → List (Str × V)} {t0 : T} {sp : Sp} {E : XK} {d d2 : PyData} (he : XV K (Z.at s) te Δ (.d d)) (fd : flat d = true) (he2 : XV K (Z.at s) tk Δ (.d d2)) (fd2 : flat d2 = true)
    (hi : ∀ (x dx : Addr) (H : Hp) (Q : VK), H x = some (.ins C dx []) → Q .non (upd H x (.ins C dx (fl t0))) → sp (.ref x :: [vOf d, vOf d2]) H Q E) (j : Z.J s H) (st : StOk K Z.M H σ Δ) {Q : VK}
    (q : ∀ x dx H', ¬ Z.M x → Grw Z s H (Z.obj x (oM C fl dx)) (s, t0) H' Prod.fst → Q (.ref x) H') : tMakeK C 1 1 sp (fun vs zs => vs ++ zs) E (tCons te tNil) (tCons tk tNil) σ H Q :=
  show tCons te tNil σ H (fun vs H1 => tCons tk tNil σ H1 fun zs H2 => vs.length = 1 ∧ zs.length = 1 ∧ ∀ x dx, H2 x = none → H2 dx = none → dx ≠ x → sp ((.ref x :: vs) ++ zs) (upd (upd H2 dx (.own x)) x (.ins C dx [])) (fun v H3 => v = .non ∧ Q (.ref x) H3) E) from
  (xa_cons he xa_nil) σ H j st _ fun vs H1 as f1 e i1 => by
    subst e
    refine (xa_cons he2 xa_nil) σ H1 f1.j (st.go f1) _ fun zs H2 bs f2 e i2 => ?_
    subst e
    cases i1 with
    | cons i1 i1' =>
      cases i1'
      cases i2 with
      | cons i2 i2' =>
        cases i2'
        obtain rfl := Dt.flat i1 fd
        obtain rfl := Dt.flat i2 fd2
        refine ⟨rfl, rfl, ?_⟩
        intro x dx nx0 ndx ne
        refine hi x dx _ _ upd_same ⟨rfl, ?_⟩
        have f12 := f1.go f2
        have fa : Fr (Z.at s) H2 (upd H2 dx (.own x)) := .new f2.j ndx
        have nx1 : (upd H2 dx (.own x)) x = none := by rw [upd_ne ne.symm]; exact nx0
        have e2 : upd (upd (upd H2 dx (.own x)) x (.ins C dx [])) x (.ins C dx (fl t0)) = upd (upd H2 dx (.own x)) x (.ins C dx (fl t0)) := upd_upd
        rw [e2]
        exact q x dx _ (Wd.fresh (W := Z.at s) f2.j nx0) ((Grw.fr (f12.trans fa)).trans (Grw.obj (o := oM C fl dx) (t0 := t0) fa.j nx1))
/-- name = C(e, k = e2), the rest in the world that has it -/
theorem ys_makeK {C : Addr} {fl : T → List (Str × V)} {t0 : T} {sp : Sp} {E : XK} {d d2 : PyData} (he : XV K (Z.at s) te Δ (.d d)) (fd : flat d = true) (he2 : XV K (Z.at s) tk Δ (.d d2)) (fd2 : flat d2 = true)
    (hi : ∀ (x dx : Addr) (H : Hp) (Q : VK), H x = some (.ins C dx []) → Q .non (upd H x (.ins C dx (fl t0))) → sp (.ref x :: [vOf d, vOf d2]) H Q E)
    (h : ∀ x dx, ¬ Z.M x → YS K (Z.obj x (oM C fl dx)) (s, t0) Wp (fun u => X u.1) ts (Δ.set k (some (.v (.ref x)))) (fun u => N u.1) (fun u => Rt u.1) (fun u => Bk u.1) (fun u => Ct u.1)) :
    YS K Z s Wp X (tSeq (tAsg (tMakeK C 1 1 sp (fun vs zs => vs ++ zs) E (tCons te tNil) (tCons tk tNil)) (gName k)) ts) Δ N Rt Bk Ct := fun σ H j st wx D nx rt bk ct =>
  seq_in (show tMakeK C 1 1 sp (fun vs zs => vs ++ zs) E (tCons te tNil) (tCons tk tNil) σ H (fun v H1 => ts D (σ.set k (some v)) H1) from mk_inK he fd he2 fd2 hi j st fun x dx H1 m g =>
    ys_in g ((st.ext g.sm).set (a := .v (.ref x)) k rfl) (h x dx m) wx nx rt bk ct)
/-- f(C(e)) -/
theorem xe_callMk {C Ce : Addr} {fl : T → List (Str × V)} {t0 : T} {sp : Sp} {dvs : List V} {E E' : XK} {d : PyData} {pre : γ → T → List A → Prop} {post : γ → T → T → A → Prop} {postX : γ → T → T → Prop} {R : A → Prop} (g : γ) (he : XV K W te Δ (.d d)) (fd : flat d = true)
    (hi : ∀ (x dx : Addr) (H : Hp) (Q : VK), H x = some (.ins C dx []) → Q .non (upd H x (.ins C dx (fl t0))) → sp (.ref x :: ([vOf d] ++ dvs)) H Q E') (p : pre g t0 []) (nx : ∀ t, ¬ postX g t0 t) (q : ∀ t a, post g t0 t a → R a) :
    XE K W (tCall (spO K Ce (oM C fl) pre post postX) [] E (tCons (tMake C sp dvs E' (tCons te tNil)) tNil)) Δ R := fun σ H j st Q k =>
  show tMake C sp dvs E' (tCons te tNil) σ H (fun x H1 => spO K Ce (oM C fl) pre post postX ([x] ++ []) H1 Q E) from mk_in (Z := SW.of W) (s := ()) he fd hi j st fun x dx H' nm gr =>
    ⟨g, _, (SW.of W).obj x (oM C fl dx), ((), t0), x, dx, (fun s => s.2), (fun s t => (s.1, t)), [], gr.j, hasObj_new nm, p, .cons rfl .nil, fun v H2 t a f r i => k v H2 a (gr.back _ _ f) (q t a r) (i.ext (gr.le H2)), fun H' t f z => absurd z (nx t)⟩
/-! ### promises about one object and a pool -/
def spOP (K : PySem.W.Frag) (o : Addr → T → HO) (pre : γ → T → List A → Prop) (post : γ → T → T → A → Prop) : Sp := fun vs H Q _ =>
  ∃ (g : γ) (S : Type) (Z : SW S) (s : S) (p x dx : Addr) (get : S → T) (set : S → T → S) (as : List A), Z.J s H ∧ HasObj Z x (o dx) get set ∧ (∀ s, HasPool (Z.at s) p) ∧ pre g (get s) as ∧ IsAll K Z.M H vs (.v (.ref p) :: .v (.ref x) :: as) ∧
    ∀ v H' t a, Fr (Z.at (set s t)) H H' → post g (get s) t a → Is K Z.M H' v a → Q v H'
theorem ye_callop {o : Addr → T → HO} {pre : γ → T → List A → Prop} {post : γ → T → T → A → Prop} {p x dx : Addr} {get : S → T} {set : S → T → S} {E : XK} (g : γ) {as : List A} (h : HasObj Z x (o dx) get set) (hp : ∀ s, HasPool (Z.at s) p) (ha : XAs K (Z.at s) ta Δ (.v (.ref p) :: .v (.ref x) :: as)) (pr : pre g (get s) as) :
    YE K Z s (tCall (spOP K o pre post) [] E ta) Δ fun u a => ∃ t, u = set s t ∧ post g (get s) t a := fun σ H j st Q q =>
  ha σ H j st _ fun vs H1 as' f1 e i1 => by
    subst e
    rw [List.append_nil]
    exact ⟨g, S, Z, s, p, x, dx, get, set, as, f1.j, h, hp, pr, i1, fun v H' t a f r i => q v H' (set s t) a (f1.go f) ⟨t, rfl, r⟩ i⟩
def BodyOP (K : PySem.W.Frag) (C : Addr) (fl : T → List (Str × V)) (N : List Str) (pre : γ → T → List A → Prop) (post : γ → T → T → A → Prop) (t : TS) : Prop :=
  ∀ (g : γ) (S : Type) (Z : SW S) (s : S) (p x dx : Addr) (get : S → T) (set : S → T → S) (as : List A), HasObj Z x (oM C fl dx) get set → (∀ s, HasPool (Z.at s) p) → pre g (get s) as →
    YS K Z s (fun _ => False) (fun _ => False) t (startE N (.v (.ref p) :: .v (.ref x) :: as)) (fun u _ => ∃ t, u = set s t ∧ post g (get s) t (.d .none)) (fun u a => ∃ t, u = set s t ∧ post g (get s) t a) NoS NoS
theorem bodyOP_run {C : Addr} {fl : T → List (Str × V)} {pre : γ → T → List A → Prop} {post : γ → T → T → A → Prop} {N : List Str} {E : XK} {t : TS} (h : BodyOP K C fl N pre post t) {vs : List V} {H : Hp} {Q : VK} (p : spOP K (oM C fl) pre post vs H Q E) : t ⟨fun _ H' => Q .non H', Q, fun _ _ => False, fun _ _ => False⟩ (L2.start N vs) H := by
  obtain ⟨g, S, Z, s, p, x, dx, get, set, as, j, ho, hp, pr, i, q⟩ := p
  refine h g S Z s p x dx get set as ho hp pr _ H j (stOk_start i) (fun _ _ _ z => z.elim) _ (fun σ' H' u Δ' f _ ⟨t, e, ps⟩ => ?_) (fun v H' u a f ⟨t, e, ps⟩ i' => ?_) (fun _ _ _ _ _ _ z => z.elim) fun _ _ _ _ _ _ z => z.elim
  · subst e
    exact q _ H' t _ f ps .non
  · subst e
    exact q v H' t a f ps i'
end
section
variable {γ T : Type} {P : Program} {w : World} {K : PySem.W.Frag} {mg : Str → Option Value} {base : Heap} {k : Nat} {f C : Addr} {fd : FuncData} {ps N : List Str} {fl : T → List (Str × V)} {pre : γ → T → List A → Prop} {post : γ → T → T → A → Prop} {x qual : Str} {st : Stmt}
theorem spOP_len (ar : ∀ g t as, pre g t as → as.length + 2 = ps.length) {vs : List V} {H : Hp} {Q : VK} {E : XK} (p : spOP K (oM C fl) pre post vs H Q E) : vs.length = ps.length := by
  obtain ⟨g, S, Z, s, p, x, dx, get, set, as, j, ho, hp, pr, i, q⟩ := p
  rw [i.length, List.length_cons, List.length_cons]
  exact ar g _ as pr
theorem okOPG (F : Fun K x qual st f fd) (S : FnScope N ps (defScope st)) (ar : ∀ g t as, pre g t as → as.length + 2 = ps.length)
    (body : ∀ (cdv : Value) (Ar : Around) (outer : List PySem.Env) (s : Shared) (H : Hp) (E : XK), Room k (Ar.deeper (envOfC qual (defScope st) s.heap.objs.size f cdv)) → NoG Ar →
      ∃ t, PSs (cxOf CX0 P w K mg base N qual (defScope st) f cdv Ar outer s H E).nox (defBody st) t ∧ BodyOP K C fl N pre post t) : FnG P w K mg base CX0 (k + 1) f fd ps (spOP K (oM C fl) pre post) :=
  okG0 F S (fun vs H Q E p => spOP_len ar p) fun cdv Ar outer s H vs Q E hr ng h => by
    obtain ⟨t, ht, hb⟩ := body cdv Ar outer s H E hr ng
    exact ⟨t, ht, bodyOP_run hb h⟩
end
section
variable {K : PySem.W.Frag} {W : Wd} {Δ : Env} {t : TA} {te : TE}
theorem wipe2 {i j : Nat} (ij : i ≠ j) (σ : L2.St) (u v : Option V) : L2.wipe (((L2.wipe σ [i, j]).set i u).set j v) [i, j] = L2.wipe σ [i, j] := by
  show (((((σ.set j none).set i none).set i u).set j v).set j none).set i none = (σ.set j none).set i none
  rw [List.set_set, List.set_set, List.set_comm _ _ ij, List.set_set, List.set_set]
/-- [e for i, j in zip(xs, ys)] -/
theorem xe_lcZ {i j : Nat} {xs ys : List PyData} {P : PyData → Prop} (ij : i ≠ j) (ha : XAs K W t Δ [.d (.list xs), .d (.list ys)]) (small : xs.length ≤ 100000)
    (hs : ∀ D φ x y, ¬ W.M D → x ∈ xs → y ∈ ys → XE K (W.add D φ) te ((((Δ.set j none).set i none).set i (some (.d x))).set j (some (.d y))) fun b => ∃ d, b = .d d ∧ P d) :
    XE K W (tLc (iZip K t) (gTup K 2 (gCons (gName i) (gCons (gName j) gNil))) tYes te [i, j]) Δ fun b => ∃ ds : List PyData, ds.length = min xs.length ys.length ∧ (∀ d ∈ ds, P d) ∧ b = .d (.list ds) := fun σ H jw s Q q =>
  ha σ H jw s _ fun vs H1 as f1 e ia => by
    subst e
    cases ia with
    | cons ia ib =>
      cases ib with
      | cons ib ic =>
        cases ic
        cases ia with
        | lst h1 d1 =>
          cases ib with
          | lst h2 d2 =>
            rename_i p1 us1 p2 us2
            have m1 : ¬ W.M p1 := fun m => by rw [hid_in m] at h1; cases h1
            have m2 : ¬ W.M p2 := fun m => by rw [hid_in m] at h2; cases h2
            rw [hid_out m1] at h1
            rw [hid_out m2] at h2
            have g1 : ∀ H2, Fr W H1 H2 → SqL K H2 p1 us1 := fun H2 f => .inl (.inl (f.keep p1 _ m1 h1))
            have g2 : ∀ H2, Fr W H1 H2 → SqL K H2 p2 us2 := fun H2 f => .inl (.inl (f.keep p2 _ m2 h2))
            refine ⟨p1, p2, us1, us2, rfl, g1 H1 (.refl f1.j), g2 H1 (.refl f1.j), ?_⟩
            intro D nD
            have mD : ¬ W.M D := W.fresh f1.j nD
            have s1 := s.fr f1
            let n := min xs.length ys.length
            refine ⟨fun i m H2 => m = n - i ∧ i ≤ n ∧ ∃ ds vs, Fr W H1 H2 ∧ H2 D = some (.lst vs) ∧ DtAll K (hid (fun a => W.M a ∨ a = D) H2) vs ds ∧ ds.length = i ∧ ∀ d ∈ ds, P d,
              ⟨n, (Nat.sub_zero n).symm, Nat.zero_le n, [], [], .new f1.j nD, upd_same, .nil, rfl, fun d e => by cases e⟩, ?_⟩
            rintro c m H2 ⟨rfl, hc, ds, vs, f2, hD, dD, len, pr⟩
            by_cases l : c < n
            · have lx : c < xs.length := by show c < xs.length; have : n ≤ xs.length := Nat.min_le_left _ _; omega
              have ly : c < ys.length := by have : n ≤ ys.length := Nat.min_le_right _ _; omega
              obtain ⟨x, hx, dx⟩ := d1.get (List.getElem?_eq_getElem lx)
              obtain ⟨y, hy, dy⟩ := d2.get (List.getElem?_eq_getElem ly)
              refine .inr ⟨⟨us1, us2, x, y, g1 H2 f2, g2 H2 f2, hx, hy⟩, fun H3 => ∃ ds vs, Fr W H1 H3 ∧ H3 D = some (.lst vs) ∧ DtAll K (hid (fun a => W.M a ∨ a = D) H3) vs ds ∧ ds.length = c + 1 ∧ ∀ d ∈ ds, P d, ?_, ?_⟩
              · rintro H3 ⟨ds3, vs3, r⟩
                exact ⟨n - (c + 1), by omega, rfl, l, ds3, vs3, r⟩
              · rintro z H3 ⟨T, x', y', rfl, nT, rfl, ex, ey⟩
                have ex' := ex us1 (g1 H2 f2)
                rw [hx] at ex'
                cases ex'
                have ey' := ey us2 (g2 H2 f2)
                rw [hy] at ey'
                cases ey'
                have fT : Fr W H1 (upd H2 T (.tup [x, y])) := f2.trans (.new f2.j nT)
                have hD' : (upd H2 T (.tup [x, y])) D = some (.lst vs) := by rw [upd_ne fun e => by rw [e, nT] at hD; cases hD]; exact hD
                refine ⟨T, [x, y], rfl, .inl (.inl upd_same), rfl, x, [y], rfl, y, [], rfl, rfl, wipe2 ij σ (some x) (some y), ?_⟩
                unfold tYes
                dsimp only
                rw [if_pos rfl]
                have sI := same_in (φ := (· = HO.lst vs)) fT nD
                have sD : StOk K (W.add D (· = .lst vs)).M (upd H2 T (.tup [x, y])) (((L2.wipe σ [i, j]).set i (some x)).set j (some y)) ((((Δ.set j none).set i none).set i (some (.d xs[c]))).set j (some (.d ys[c]))) :=
                  ((((s1.unset j none).unset i none).ext sI).set (a := .d xs[c]) i (Dt.ext sI _ _ dx)).set (a := .d ys[c]) j (Dt.ext sI _ _ dy)
                refine hs D (· = .lst vs) xs[c] ys[c] mD (List.getElem_mem lx) (List.getElem_mem ly) _ _ ⟨fT.j, _, hD', rfl⟩ sD _ fun v H4 b f4 rb ib => ?_
                obtain ⟨d, eb, pd⟩ := rb
                subst eb
                obtain ⟨u4, h4, eu⟩ := f4.j.2
                subst eu
                have dT : DtAll K (hid (fun a => W.M a ∨ a = D) (upd H2 T (.tup [x, y]))) vs ds := DtAll.ext (fun a o e => by
                  by_cases z : W.M a ∨ a = D
                  · rw [hid_in z] at e; cases e
                  · rw [hid_out z] at e ⊢
                    rw [upd_ne (ne_of_none e nT)]; exact e) _ _ dD
                have len4 : vs.length = c := by rw [dD.length]; exact len
                have f5 : Fr W H1 (upd H4 D (.lst (vs ++ [v]))) := by
                  refine ⟨fun a o nm e => ?_, W.loc H4 _ (fun a m => upd_ne fun z => mD (z ▸ m)) f4.j.1⟩
                  have ne : a ≠ D := ne_of_none e nD
                  rw [upd_ne ne]
                  exact f4.keep a o (fun z => z.elim nm ne) (fT.keep a o nm e)
                have cl : c ≤ 100000 := by have : n ≤ xs.length := Nat.min_le_left _ _; omega
                refine ⟨vs, h4, Nat.lt_of_le_of_lt (by rw [len4]; exact cl) (by decide), ds ++ [d], vs ++ [v], f5, upd_same, ?_, by rw [List.length_append, len]; rfl, fun d' hd' => ?_⟩
                · rw [hid_upd (.inr rfl)]
                  exact DtAll.append (DtAll.ext f4.same _ _ dT) (.cons ib .nil)
                · rcases List.mem_append.mp hd' with hd' | hd'
                  · exact pr d' hd'
                  · rw [List.mem_singleton.mp hd']; exact pd
            · obtain rfl : c = n := by omega
              refine .inl ⟨⟨us1, us2, g1 H2 f2, g2 H2 f2, ?_⟩, q _ H2 _ (f1.trans f2) ⟨ds, len, pr, rfl⟩ ?_⟩
              · rw [d1.length, d2.length]
                show xs.length ≤ min xs.length ys.length ∨ ys.length ≤ min xs.length ys.length
                omega
              · exact Dt.lst (by rw [hid_out mD]; exact hD) (DtAll.ext (hid_add_le (φ := fun _ => True)) _ _ dD)
theorem ints_vs {H : Hp} : ∀ {vs : List V} {ns : List Int}, DtAll K H vs (ns.map PyData.int) → vs = ns.map V.int
  | _, [], .nil => rfl
  | _, n :: r, .cons h t => by
    cases h
    rw [ints_vs t]
    rfl
theorem cx_sorted {ns : List Int} (n : ns.length < 64) : CX1 K W (rSorted K) [.d (.list (ns.map PyData.int))] (fun a => ∃ ns' : List Int, ns'.Perm ns ∧ a = .d (.list (ns'.map PyData.int))) := fun vs H j i Q q => by
  cases i with
  | cons h t =>
    cases t
    cases h with
    | lst h1 d1 =>
      obtain rfl := ints_vs d1
      exact ⟨_, ns, rfl, .inl (.inl (hid_le _ _ h1)), n, fun ns' p pm _ np => q _ _ _ (.new j np) ⟨ns', pm, rfl⟩ (Dt.lst (hid_new j np) (dts_ints ns'))⟩
theorem ox_inD {d : PyData} {ds : List PyData} (f : d.hasDict = false) (g : (PyData.list ds).hasDict = false) (sd : SeqAt.shaped d = true) (se : SeqAt.shaped (.list ds) = true) : OX K W (rInD K) (.d d) (.d (.list ds)) (· = .d (.bool (ds.any fun z => PyData.eqv z d))) := fun v w H j i1 i2 Q q =>
  ⟨d, ds, Dt.dp _ _ f (Dt.ext hid_le _ _ i1), Dt.dp _ _ g (Dt.ext hid_le _ _ i2), sd, se, q _ H _ (.refl j) rfl (.bl _)⟩
end
theorem ys_at {S : Type} {K : PySem.W.Frag} {Z : SW S} {s s' : S} {Δ : Env} {Wp : Hp → Prop} {X : S → Prop} {N : S → Env → Prop} {Rt : S → A → Prop} {Bk Ct : S → Env → Prop} {ts : TS} (e : s = s') (h : YS K Z s' Wp X ts Δ N Rt Bk Ct) : YS K Z s Wp X ts Δ N Rt Bk Ct := by
  rw [e]
  exact h
theorem room65 {k : Nat} {A : Around} (r : Room (k + 1) A) : A.units + 65 < cLine := by
  have := r.un
  omega
section
variable {S : Type} {K : PySem.W.Frag} {Z : SW S} {s : S} {W : Wd} {Δ : Env} {t ta : TA} {te : TE} {Wp : Hp → Prop} {X : S → Prop} {N : S → Env → Prop} {Rt : S → A → Prop} {Bk Ct : S → Env → Prop}
theorem xe_lstR {P : List PyData → Prop} (h : XA K W t Δ fun as => ∃ ds, as = dAll ds ∧ P ds) (n : ∀ ds, P ds → ds.length ≤ 10000) : XE K W (tLst t) Δ fun a => ∃ ds : List PyData, P ds ∧ a = .d (.list ds) := fun σ H j s Q q =>
  h σ H j s _ fun vs H1 as f1 e i => by
    obtain ⟨ds, e, pd⟩ := e
    subst e
    have d := dts_of i
    refine ⟨by rw [d.length]; exact Nat.le_trans (n ds pd) (by decide), fun p np => q _ _ _ (f1.trans (.new f1.j np)) ⟨ds, pd, rfl⟩ ?_⟩
    exact Dt.lst (hid_new f1.j np) (DtAll.ext (Fr.same (.new f1.j np)) _ _ d)
theorem xa_mono {R R' : List A → Prop} (h : XA K W t Δ R) (m : ∀ as, R as → R' as) : XA K W t Δ R' := fun σ H j s Q q => h σ H j s Q fun vs H' as f r i => q vs H' as f (m as r) i
theorem ys_par {i j : Nat} {a b : A} (h : XAs K (Z.at s) t Δ [a, b]) (n : N s ((Δ.set i (some a)).set j (some b))) : YS K Z s Wp X (tPar i j t) Δ N Rt Bk Ct := fun σ H jj st wx D nx rt bk ct =>
  h σ H jj st _ fun vs H1 as f e ia => by
    subst e
    cases ia with
    | cons i1 i2 =>
      cases i2 with
      | cons i2 i3 =>
        cases i3
        exact ⟨_, _, rfl, nx _ H1 s _ f (((st.go f).set i i1).set j i2) n⟩
/-- range(a, b) -/
theorem xi_rng2 {Nn : Nat → Prop} {a b : Int} (h : XAs K W t Δ [.d (.int a), .d (.int b)]) (b1 : -(2 ^ 62) ≤ a ∧ a < 2 ^ 62 ∧ -(2 ^ 62) ≤ b ∧ b < 2 ^ 62) (hn : Nn (b - a).toNat) : XI K W (iRng2 t) Δ Nn fun i x => x = .d (.int (a + (i : Int))) := fun σ H j s R q =>
  h σ H j s _ fun vs H1 as f e i => by
    subst e
    cases i with
    | cons i1 i2 =>
      cases i2 with
      | cons i2 i3 =>
        cases i3
        cases i1
        cases i2
        refine ⟨a, b, rfl, b1, q _ H1 _ f hn fun H2 f2 i => ⟨fun l => ⟨l, fun y H3 ⟨e, ey⟩ => ⟨e, _, rfl, ?_⟩⟩, fun l => l⟩⟩
        subst ey
        exact .int _
end
/-- no exception is let out -/
theorem passE {X : Cx} {P : Program} {w : World} : Passes (L2.CX P w) X E0 := fun _ _ _ _ _ _ _ ⟨_, _, _, _, _, _, _, _, _, _, _, _, h⟩ => h.elim
end V2

set_option Elab.async false
set_option linter.all false
set_option maxRecDepth 100000
set_option maxHeartbeats 1000000
namespace V2
open PySem PySem.Spec PyProof.Rows L2
section
variable {K : PySem.W.Frag} {W : Wd} {Δ Δ2 : Env} {wi : TI} {g : TG} {tt : TT} {te ta tb : TE} {t : TA} {own : List Nat} {d : PyData}
/-- what a comprehension's target does to an item -/
def GT (K : PySem.W.Frag) (g : TG) (own : List Nat) (d : PyData) (Δ Δ2 : Env) : Prop := ∀ (W' : Wd) (v : V) (σ : L2.St) (H : Hp), W'.J H → StOk K W'.M H (L2.wipe σ own) (wipeE Δ own) → Is K W'.M H v (.d d) → ∀ Q : L2.St → Hp → Prop, (∀ σ2, L2.wipe σ2 own = L2.wipe σ own → StOk K W'.M H σ2 Δ2 → Q σ2 H) → g v (L2.wipe σ own) H Q
theorem gt_name {k : Nat} : GT K (gName k) [k] d Δ ((Δ.set k none).set k (some (.d d))) := fun W' v σ H j st i Q q =>
  q _ (show ((σ.set k none).set k (some v)).set k none = σ.set k none by rw [List.set_set, List.set_set]) (st.set k i)
theorem gt_pair {i j : Nat} {x y : PyData} (ij : i ≠ j) : GT K (gTup K 2 (gCons (gName i) (gCons (gName j) gNil))) [i, j] (.tuple [x, y]) Δ ((((Δ.set j none).set i none).set i (some (.d x))).set j (some (.d y))) := fun W' v σ H jj st ii Q q => by
  cases ii with
  | tup h1 d1 =>
    cases d1 with
    | cons dx d2 =>
      cases d2 with
      | cons dy d3 =>
        cases d3
        exact ⟨_, _, rfl, sqT_same hid_le h1, rfl, _, _, rfl, _, _, rfl, rfl, q _ (wipe2 ij σ _ _) ((st.set (a := .d x) i dx).set (a := .d y) j dy)⟩
theorem xt_yes : XB K W tYes Δ true := fun σ H j s Q q => q true H (.refl j) rfl
/-- [e for target in xs if t] -/
theorem xe_lcF {xs : List PyData} {b : PyData → Bool} {h : PyData → PyData} (hi : XI K W wi Δ (· = xs.length) fun i a => ∃ d, xs[i]? = some d ∧ a = .d d) (small : xs.length ≤ 100000)
    (hs : ∀ d ∈ xs, ∃ Δ2, GT K g own d Δ Δ2 ∧ (∀ D φ, ¬ W.M D → XB K (W.add D φ) tt Δ2 (b d)) ∧ (b d = true → ∀ D φ, ¬ W.M D → XV K (W.add D φ) te Δ2 (.d (h d)))) :
    XV K W (tLc wi g tt te own) Δ (.d (.list ((xs.filter b).map h))) := fun σ H j s Q q =>
  hi σ H j s _ fun J H1 n f1 hn w => by
    subst hn
    intro D nD
    have mD : ¬ W.M D := W.fresh f1.j nD
    have s1 := s.fr f1
    let out : Nat → List PyData := fun i => ((xs.take i).filter b).map h
    have outl : ∀ i, (out i).length ≤ xs.length := fun i => by
      show (((xs.take i).filter b).map h).length ≤ _
      rw [List.length_map]
      exact Nat.le_trans (List.length_filter_le _ _) (by rw [List.length_take]; exact Nat.min_le_right _ _)
    have out1 : ∀ i d, xs[i]? = some d → out (i + 1) = out i ++ (if b d = true then [h d] else []) := fun i d e => by
      show ((xs.take (i + 1)).filter b).map h = _
      rw [List.take_add_one, e, List.filter_append, List.map_append]
      congr 1
      show ([d].filter b).map h = _
      by_cases c : b d = true
      · rw [if_pos c, List.filter_cons_of_pos c]; rfl
      · rw [if_neg c, List.filter_cons_of_neg c]; rfl
    refine ⟨fun i m H2 => m = xs.length - i ∧ i ≤ xs.length ∧ ∃ vs, Fr W H1 H2 ∧ H2 D = some (.lst vs) ∧ DtAll K (hid (fun a => W.M a ∨ a = D) H2) vs (out i),
      ⟨xs.length, (Nat.sub_zero _).symm, Nat.zero_le _, [], .new f1.j nD, upd_same, .nil⟩, ?_⟩
    rintro i m H2 ⟨rfl, hi, vs, f2, h2, d2⟩
    by_cases l : i < xs.length
    · obtain ⟨go, yl⟩ := (w H2 f2 i).1 l
      refine .inr ⟨go, fun H3 => ∃ vs, Fr W H1 H3 ∧ H3 D = some (.lst vs) ∧ DtAll K (hid (fun a => W.M a ∨ a = D) H3) vs (out (i + 1)), ?_, ?_⟩
      · rintro H3 ⟨vs3, r⟩
        exact ⟨xs.length - (i + 1), by omega, rfl, l, vs3, r⟩
      · intro x H3 y
        obtain ⟨e, a, ⟨d, hd, ea⟩, ia⟩ := yl x H3 y
        subst e ea
        obtain ⟨Δ2, gt, ht, he⟩ := hs d (List.mem_of_getElem? hd)
        have sI := same_in (φ := (· = HO.lst vs)) f2 nD
        have s0 : StOk K (W.add D (· = .lst vs)).M H3 (L2.wipe σ own) (wipeE Δ own) := (s1.wipe own).ext sI
        refine gt (W.add D (· = .lst vs)) x σ H3 ⟨f2.j, _, h2, rfl⟩ s0 (ia.ext sI) _ fun σ2 ew s2 => ⟨ew, ?_⟩
        refine ht D (· = HO.lst vs) mD σ2 H3 ⟨f2.j, _, h2, rfl⟩ s2 _ fun c H4 f4 ec => ?_
        subst ec
        have e1 := out1 i d hd
        have keep : ∀ {H5}, Fr (W.add D (· = HO.lst vs)) H3 H5 → Fr W H1 H5 := fun {H5} f => ⟨fun a o nm e => f.keep a o (fun z => z.elim nm (ne_of_none e nD)) (f2.keep a o nm e), f.j.1⟩
        by_cases c : b d = true
        · rw [if_pos c]
          rw [if_pos c] at e1
          refine he c D (· = HO.lst vs) mD σ2 H4 f4.j (s2.fr f4) _ fun v H5 a f5 ea ib => ?_
          subst ea
          have f45 := f4.trans f5
          obtain ⟨u5, h5, eu⟩ := f45.j.2
          subst eu
          have lvs : vs.length = (out i).length := d2.length
          refine ⟨vs, h5, Nat.lt_of_le_of_lt (by rw [lvs]; exact Nat.le_trans (outl i) small) (by decide), vs ++ [v], ?_, upd_same, ?_⟩
          · refine ⟨fun a o nm e => ?_, W.loc H5 _ (fun a m => upd_ne fun z => mD (z ▸ m)) f45.j.1⟩
            have ne : a ≠ D := ne_of_none e nD
            rw [upd_ne ne]
            exact (keep f45).keep a o nm e
          · rw [hid_upd (.inr rfl), e1]
            exact DtAll.append (DtAll.ext f45.same _ _ d2) (.cons ib .nil)
        · rw [if_neg c]
          rw [if_neg c, List.append_nil] at e1
          obtain ⟨u4, h4, eu⟩ := f4.j.2
          subst eu
          refine ⟨vs, keep f4, h4, ?_⟩
          rw [e1]
          exact DtAll.ext f4.same _ _ d2
    · obtain rfl : i = xs.length := by omega
      have e : out xs.length = (xs.filter b).map h := by
        show ((xs.take xs.length).filter b).map h = _
        rw [List.take_length]
      rw [e] at d2
      exact .inl ⟨(w H2 f2 _).2 (Nat.le_refl _), q _ H2 _ (f1.trans f2) rfl (Dt.lst (by rw [hid_out mD]; exact h2) (DtAll.ext (hid_add_le (φ := fun _ => True)) _ _ d2))⟩
/-- list(range(a, b)) -/
theorem xe_listRg {a b : Int} (ha : XV K W ta Δ (.d (.int a))) (hb : XV K W tb Δ (.d (.int b))) (ok : RgOk a b) : XV K W (tLstRg (tRg2 ta tb)) Δ (.d (.list ((List.range (b - a).toNat).map fun i => PyData.int (a + (i : Nat))))) := fun σ H j s Q q =>
  ha σ H j s _ fun v H1 x f1 e i1 => by
    subst e
    cases i1
    refine hb σ H1 f1.j (s.fr f1) _ fun w H2 y f2 e i2 => ?_
    subst e
    cases i2
    refine ⟨a, b, rfl, rfl, ok, fun p np => q _ _ _ ((f1.trans f2).trans (.new f2.j np)) rfl (Dt.lst (hid_new f2.j np) ?_)⟩
    have e : rgV a b = ((List.range (b - a).toNat).map fun i => a + ((i : Nat) : Int)).map V.int := by
      unfold rgV
      rw [List.map_map]
      rfl
    have e2 : ((List.range (b - a).toNat).map fun i => PyData.int (a + ((i : Nat) : Int))) = ((List.range (b - a).toNat).map fun i => a + ((i : Nat) : Int)).map PyData.int := by
      rw [List.map_map]
      rfl
    rw [e, e2]
    exact dts_ints _
theorem dtAll_rep {H : Hp} {vs : List V} {ds : List PyData} (h : DtAll K H vs ds) : ∀ n, DtAll K H (List.replicate n vs).flatten (List.replicate n ds).flatten
  | 0 => .nil
  | n + 1 => by
    rw [List.replicate_succ, List.replicate_succ, List.flatten_cons, List.flatten_cons]
    exact DtAll.append h (dtAll_rep h n)
theorem ox_rep {xs : List PyData} {k : Int} (h0 : 0 ≤ k) (h1 : k ≤ 1000) (n : xs.length ≤ 1000) : OX K W rRep (.d (.list xs)) (.d (.int k)) (· = .d (.list (List.replicate k.toNat xs).flatten)) := fun v w H j i1 i2 Q q => by
  cases i2
  cases i1 with
  | lst h1' d1 =>
    have m : ¬ W.M _ := fun m => by rw [hid_in m] at h1'; cases h1'
    rw [hid_out m] at h1'
    refine ⟨_, k, _, rfl, rfl, h1', by omega, by omega, ?_, fun p np => q _ _ _ (.new j np) rfl (Dt.lst (hid_new j np) (dtAll_rep (DtAll.ext (Fr.same (.new j np)) _ _ d1) _))⟩
    rw [d1.length]
    exact Nat.le_trans (Nat.mul_le_mul n (show k.toNat ≤ 1000 by omega)) (by decide)
theorem ox_repT {xs : List PyData} {k : Int} (ne : xs ≠ []) (h0 : 2 ≤ k) (h1 : k ≤ 1000) (n : xs.length ≤ 1000) : OX K W (rRepT K) (.d (.tuple xs)) (.d (.int k)) (· = .d (.tuple (List.replicate k.toNat xs).flatten)) := fun v w H j i1 i2 Q q => by
  cases i2
  cases i1 with
  | tup h1' d1 =>
    refine ⟨_, k, _, rfl, rfl, sqT_same hid_le h1', fun e => ne ?_, h0, h1, by rw [d1.length]; exact n, fun p np => q _ _ _ (.new j np) rfl (Dt.tup (.inl (.inl (hid_new j np))) (dtAll_rep (DtAll.ext (Fr.same (.new j np)) _ _ d1) _))⟩
    subst e
    cases d1
    rfl
theorem ox_catT {xs ys : List PyData} (n : xs.length + ys.length ≤ 100000) : OX K W (rCatA K) (.d (.tuple xs)) (.d (.tuple ys)) (· = .d (.tuple (xs ++ ys))) := fun v w H j i1 i2 Q q => by
  cases i1 with
  | tup h1 d1 =>
    cases i2 with
    | tup h2 d2 =>
      refine ⟨_, _, _, _, rfl, rfl, sqT_same hid_le h1, sqT_same hid_le h2, by rw [d1.length, d2.length]; exact Nat.le_trans n (by decide), fun e => ?_, fun _ e => ?_, fun _ _ p np => ?_⟩
      · subst e
        cases d1
        exact q _ H _ (.refl j) rfl (Dt.tup h2 d2)
      · subst e
        cases d2
        rw [List.append_nil] at q
        exact q _ H _ (.refl j) rfl (Dt.tup h1 d1)
      · exact q _ _ _ (.new j np) rfl (Dt.tup (.inl (.inl (hid_new j np))) (DtAll.append (DtAll.ext (Fr.same (.new j np)) _ _ d1) (DtAll.ext (Fr.same (.new j np)) _ _ d2)))
theorem cx_lstT {xs : List PyData} : CX1 K W (rLstOf K) [.d (.tuple xs)] (· = .d (.list xs)) := fun vs H j i Q q => by
  cases i with
  | cons h t =>
    cases t
    cases h with
    | tup h1 d1 => exact ⟨_, _, rfl, .inr (sqT_same hid_le h1), fun p np => q _ _ _ (.new j np) rfl (Dt.lst (hid_new j np) (DtAll.ext (Fr.same (.new j np)) _ _ d1))⟩
theorem ox_notInS1 {c : Nat} {z : Str} : OX K W rNotInS (.d (.str (oneS c))) (.d (.str z)) (· = .d (.bool (!decide (c ∈ z.cps.toList)))) := fun v w H j i1 i2 Q q => by
  cases i1
  cases i2
  exact ⟨c, z, rfl, rfl, q _ H _ (.refl j) rfl (.bl _)⟩
end
section
variable {K : PySem.W.Frag} {W : Wd} {Δ : Env} {te ta tb : TE} {t : TA} {g : TG} {N : Env → Prop} {Rt : A → Prop} {Bk Ct : Env → Prop} {R : A → Prop}
theorem xs_asgR (h : XE K W te Δ R) (hg : ∀ a, R a → ∃ Δ', GX K W g a Δ Δ' ∧ N Δ') : XS K W (tAsg te g) Δ N Rt Bk Ct := fun σ H j s D nx _ _ _ =>
  h σ H j s _ fun v H1 a f r i => by
    obtain ⟨Δ', gx, n⟩ := hg a r
    exact gx v σ H1 f.j (s.fr f) i _ fun σ' H' f' s' => nx σ' H' Δ' (f.trans f') s' n
theorem xe_tupR {P : List PyData → Prop} (h : XA K W t Δ fun as => ∃ ds, as = dAll ds ∧ P ds) (n : ∀ ds, P ds → ds.length ≤ 10000) : XE K W (tTup t) Δ fun a => ∃ ds : List PyData, P ds ∧ a = .d (.tuple ds) := fun σ H j s Q q =>
  h σ H j s _ fun vs H1 as f1 e i => by
    obtain ⟨ds, e, pd⟩ := e
    subst e
    have d := dts_of i
    refine ⟨by rw [d.length]; exact Nat.le_trans (n ds pd) (by decide), fun p np => q _ _ _ (f1.trans (.new f1.j np)) ⟨ds, pd, rfl⟩ ?_⟩
    exact Dt.tup (.inl (.inl (hid_new f1.j np))) (DtAll.ext (Fr.same (.new f1.j np)) _ _ d)
def BoolR (p : Bool → Prop) (a : A) : Prop := ∃ b, a = .d (.bool b) ∧ p b
theorem xe_andB {a0 : Bool} (h : XV K W ta Δ (.d (.bool a0))) (h' : a0 = true → XE K W tb Δ (BoolR fun _ => True)) : XE K W (tAndV ta tb) Δ (BoolR fun b => b = true → a0 = true) := fun σ H j s Q q => h σ H j s _ fun v H1 c f e i => by
  subst e
  cases i
  refine ⟨a0, rfl, ?_⟩
  cases a0 with
  | true => exact iteT (h' rfl σ H1 f.j (s.fr f) Q fun c H2 z f2 ⟨b, e, _⟩ i => q c H2 z (f.trans f2) ⟨b, e, fun _ => rfl⟩ i)
  | false => exact iteF (q _ H1 _ f ⟨false, rfl, fun z => z⟩ (.bl _))
/-- int(..) of a truth -/
theorem xe_intBR {p : Bool → Prop} (h : XE K W te Δ (BoolR p)) : XE K W (tCB rIntB (tCons te tNil)) Δ fun a => ∃ b, p b ∧ a = .d (.int (b2i b)) := xe_cbR (xa_oneM (S := fun as => ∃ b, p b ∧ as = [.d (.bool b)]) h fun a ⟨b, e, hb⟩ => ⟨b, hb, by rw [e]⟩) fun as ⟨b, hb, e⟩ => by
  subst e
  intro vs H j i Q q
  exact cx_intB vs H j i Q fun u H' c f e ic => q u H' c f ⟨b, hb, e⟩ ic
/-- [..] * int(a truth) -/
theorem xe_repB {xs : List PyData} {b : Bool} (h : XV K W ta Δ (.d (.list xs))) (h' : XV K W tb Δ (.d (.int (b2i b)))) (n : xs.length ≤ 1000) : XV K W (tOp rRep ta tb) Δ (.d (.list (if b = true then xs else []))) := by
  refine XE.is (xe_op h h' (ox_rep (by cases b <;> decide) (by cases b <;> decide) n)) ?_
  cases b
  · rfl
  · show A.d (.list (List.replicate 1 xs).flatten) = _
    rw [List.replicate_one, List.flatten_singleton]
    rfl
theorem ox_repB {xs : List PyData} {b : Bool} (n : xs.length ≤ 1000) : OX K W rRep (.d (.list xs)) (.d (.int (b2i b))) (· = .d (.list (if b = true then xs else []))) := by
  refine OX.is (ox_rep (by cases b <;> decide) (by cases b <;> decide) n) ?_
  cases b
  · rfl
  · show A.d (.list (List.replicate 1 xs).flatten) = _
    rw [List.replicate_one, List.flatten_singleton]
    rfl
end
section
variable {γ : Type} {K : PySem.W.Frag} {W : Wd} {Δ : Env} {wi : TI} {tl : TE} {ts : TS} {N : Env → Prop} {Rt : A → Prop} {Bk Ct : Env → Prop}
/-- what a loop walks, known by a datum alone -/
def XIP (K : PySem.W.Frag) (W : Wd) (wi : TI) (Δ : Env) (Nn : γ → Nat → Prop) (Y : γ → Nat → A → Prop) : Prop := ∀ σ H, W.J H → StOk K W.M H σ Δ → ∀ R : It → Hp → Prop, (∀ c J H1 n, Fr W H H1 → Nn c n → Walks K W H1 J n (Y c) → R J H1) → wi σ H R
theorem xip_list {P : List PyData → Prop} (h : XE K W tl Δ fun a => ∃ xs, P xs ∧ a = .d (.list xs)) : XIP K W (iList K tl) Δ (fun xs n => P xs ∧ n = xs.length) fun xs i a => ∃ d, xs[i]? = some d ∧ a = .d d := fun σ H j s R q =>
  h σ H j s _ fun v H1 a f e i => by
    obtain ⟨xs, px, e⟩ := e
    subst e
    cases i with
    | lst h1 d1 =>
      rename_i p vs
      have m : ¬ W.M p := fun m => by rw [hid_in m] at h1; cases h1
      rw [hid_out m] at h1
      refine ⟨p, rfl, ⟨vs, .inl (.inl h1)⟩, q xs _ H1 _ f ⟨px, rfl⟩ fun H2 f2 i => ?_⟩
      have g : SqL K H2 p vs := .inl (.inl (f2.keep p _ m h1))
      refine ⟨fun l => ?_, fun l => ⟨vs, g, by rw [d1.length]; exact l⟩⟩
      obtain ⟨v, hv, dv⟩ := d1.get (List.getElem?_eq_getElem l)
      refine ⟨⟨vs, v, g, hv⟩, fun x H3 y => ⟨y.1, .d xs[i], ⟨_, List.getElem?_eq_getElem l, rfl⟩, ?_⟩⟩
      have e := y.2 vs g
      rw [hv] at e
      cases e
      exact dv
theorem xs_forP {g : TG} {Nn : γ → Nat → Prop} {Y : γ → Nat → A → Prop} (Inv : γ → Nat → Nat → Env → Prop) (hi : XIP K W wi Δ Nn Y) (h0 : ∀ c n, Nn c n → Inv c n 0 Δ)
    (hs : ∀ c n i a Δ1, Nn c n → i < n → Y c i a → Inv c n i Δ1 → ∃ Δ2, GX K W g a Δ1 Δ2 ∧ XS K W ts Δ2 (Inv c n (i + 1)) Rt N (Inv c n (i + 1))) (hd : ∀ c n Δ1, Nn c n → Inv c n n Δ1 → N Δ1) : XS K W (tFor wi g ts) Δ N Rt Bk Ct := fun σ H j s D nx rt bk ct =>
  hi σ H j s _ fun c J H1 n f1 hn w => by
    refine ⟨fun i m σ2 H2 => m = n - i ∧ i ≤ n ∧ ∃ Δ2, Fr W H1 H2 ∧ StOk K W.M H2 σ2 Δ2 ∧ Inv c n i Δ2, ⟨n, (Nat.sub_zero n).symm, Nat.zero_le n, Δ, .refl f1.j, s.fr f1, h0 c n hn⟩, ?_⟩
    rintro i m σ2 H2 ⟨rfl, hi, Δ2, f2, s2, v2⟩
    by_cases l : i < n
    · obtain ⟨go, yl⟩ := (w H2 f2 i).1 l
      refine .inr ⟨go, fun σ3 H3 => ∃ Δ3, Fr W H1 H3 ∧ StOk K W.M H3 σ3 Δ3 ∧ Inv c n (i + 1) Δ3, ?_, ?_⟩
      · rintro σ3 H3 ⟨Δ3, f3, s3, v3⟩
        exact ⟨n - (i + 1), by omega, rfl, l, Δ3, f3, s3, v3⟩
      · intro x H3 y
        obtain ⟨e, a, ya, ia⟩ := yl x H3 y
        subst e
        obtain ⟨Δ4, gx, body⟩ := hs c n i a Δ2 hn l ya v2
        refine gx x σ2 H3 f2.j s2 (ia.fr f2) _ fun σ4 H4 f4 s4 => ?_
        have f24 := f2.trans f4
        exact body σ4 H4 f4.j s4 _ (fun σ5 H5 Δ5 f5 s5 n5 => ⟨Δ5, f24.trans f5, s5, n5⟩) (fun v H5 a f5 => rt v H5 a (f1.trans (f24.trans f5)))
          (fun σ5 H5 Δ5 f5 s5 n5 => nx σ5 H5 Δ5 (f1.trans (f24.trans f5)) s5 n5) (fun σ5 H5 Δ5 f5 s5 n5 => ⟨Δ5, f24.trans f5, s5, n5⟩)
    · obtain rfl : i = n := by omega
      exact .inl ⟨(w H2 f2 i).2 (Nat.le_refl _), nx σ2 H2 Δ2 (f1.trans f2) s2 (hd c i Δ2 hn v2)⟩
def charsD (s : Str) : List PyData := s.cps.toList.map fun c => PyData.str (oneS c)
theorem xi_strL {x : Str} (h : XV K W tl Δ (.d (.str x))) : XI K W (iStr tl) Δ (· = (charsD x).length) fun i a => ∃ d, (charsD x)[i]? = some d ∧ a = .d d := fun σ H j s R q =>
  xi_str h σ H j s R fun J H1 n f hn w => q J H1 n f (by rw [hn]; unfold charsD; rw [List.length_map, Array.length_toList]) fun H2 f2 i => ⟨fun l => ⟨((w H2 f2 i).1 l).1, fun y H3 yl => by
    obtain ⟨e, a, ⟨c, hc, ea⟩, ia⟩ := ((w H2 f2 i).1 l).2 y H3 yl
    refine ⟨e, a, ⟨_, ?_, ea⟩, ia⟩
    unfold charsD
    rw [List.getElem?_map, Array.getElem?_toList, hc]
    rfl⟩, (w H2 f2 i).2⟩
end
def cutD (xs : List PyData) (lo hi : Option Int) : List PyData := (xs.drop (HT.sIx xs.length 0 lo)).take (HT.sIx xs.length xs.length hi - HT.sIx xs.length 0 lo)
theorem cutD_mem {xs : List PyData} {lo hi : Option Int} {d : PyData} (h : d ∈ cutD xs lo hi) : d ∈ xs := List.mem_of_mem_drop (List.mem_of_mem_take h)
theorem cutD_len (xs : List PyData) (lo hi : Option Int) : (cutD xs lo hi).length ≤ xs.length := by
  unfold cutD
  rw [List.length_take, List.length_drop]
  omega
section
variable {K : PySem.W.Frag} {W : Wd} {Δ : Env} {te ta : TE} {xs : List PyData} {k : Int}
theorem cut_dts {H : Hp} {vs : List V} {lo hi : Option Int} (d : DtAll K H vs xs) : DtAll K H (cutV vs lo hi) (cutD xs lo hi) := by
  unfold cutV cutD
  rw [d.length]
  exact DtAll.take _ (DtAll.drop _ d)
theorem xe_slTto (h : XV K W te Δ (.d (.tuple xs))) (hk : XV K W ta Δ (.d (.int k))) (ne : ¬ (HT.sIx xs.length 0 none = 0 ∧ HT.sIx xs.length xs.length (some k) = xs.length)) : XV K W (tSl (rSlT K) te tNoPart (tPart ta)) Δ (.d (.tuple (cutD xs none (some k)))) := fun σ H j s Q q =>
  h σ H j s _ fun v H1 a f1 e i1 => by
    subst e
    refine hk σ H1 f1.j (s.fr f1) _ fun w H2 b f2 e i2 => ?_
    subst e
    cases i2
    cases i1.fr f2 with
    | tup h1 d1 =>
      exact ⟨k, rfl, _, _, rfl, sqT_same hid_le h1, by rw [d1.length]; exact ne, fun p np => q _ _ _ ((f1.trans f2).trans (.new f2.j np)) rfl (Dt.tup (.inl (.inl (hid_new f2.j np))) (cut_dts (DtAll.ext (Fr.same (.new f2.j np)) _ _ d1)))⟩
theorem xe_slTfrom (h : XV K W te Δ (.d (.tuple xs))) (hk : XV K W ta Δ (.d (.int k))) (ne : ¬ (HT.sIx xs.length 0 (some k) = 0 ∧ HT.sIx xs.length xs.length none = xs.length)) : XV K W (tSl (rSlT K) te (tPart ta) tNoPart) Δ (.d (.tuple (cutD xs (some k) none))) := fun σ H j s Q q =>
  h σ H j s _ fun v H1 a f1 e i1 => by
    subst e
    refine hk σ H1 f1.j (s.fr f1) _ fun w H2 b f2 e i2 => ?_
    subst e
    cases i2
    cases i1.fr f2 with
    | tup h1 d1 =>
      exact ⟨k, rfl, _, _, rfl, sqT_same hid_le h1, by rw [d1.length]; exact ne, fun p np => q _ _ _ ((f1.trans f2).trans (.new f2.j np)) rfl (Dt.tup (.inl (.inl (hid_new f2.j np))) (cut_dts (DtAll.ext (Fr.same (.new f2.j np)) _ _ d1)))⟩
end
end V2

set_option Elab.async false
set_option linter.all false
set_option maxRecDepth 100000
set_option maxHeartbeats 1000000
namespace V2
open PySem PySem.Spec PyProof.Rows L2
/-- a statement that is never reached -/
theorem ps_never {X : Cx} {st : Stmt} : PS X st (fun _ _ _ => False) := ⟨fun _ _ _ _ _ _ h => h.elim⟩
/-! ### an object that holds values of which something is known -/
section
variable {S T γ : Type} {K : PySem.W.Frag} {Z : SW S} {s : S} {Δ : Env} {te to : TE} {ta t : TA} {tt : TT} {ts : TS} {C : Addr} {fl : T → List (Str × V)} {x dx : Addr} {get : S → T} {set : S → T → S} {f : Str} {vs : List V} {ds : List PyData}
variable {Wp : Hp → Prop} {X : S → Prop} {N : S → Env → Prop} {Rt : S → A → Prop} {Bk Ct : S → Env → Prop}
theorem xe_fldW {v0 : V} {d0 : PyData} (h : HasObj Z x (oM C fl dx) get set) (c : Cls K C) (n : NoAttr K C f) (hv : XV K (Z.at s) to Δ (.w (.ref x) [v0] [d0])) (l : (fl (get s)).lookup f = some v0) : XV K (Z.at s) (tFld K to f) Δ (.d d0) := fun σ H j st Q q =>
  hv σ H j st _ fun v H1 a f1 e i1 => by
    subst e
    obtain ⟨e, dd⟩ := i1
    subst e
    cases dd with
    | cons d1 d2 => exact ⟨x, C, dx, _, _, rfl, h.here s H1 f1.j, c, n, l, q _ H1 _ f1 rfl d1⟩
theorem xe_fldF {d : PyData} (h : HasObj Z x (oM C fl dx) get set) (c : Cls K C) (n : NoAttr K C f) (hv : XV K (Z.at s) to Δ (.w (.ref x) vs ds)) (l : (fl (get s)).lookup f = some (vOf d)) (fd : flat d = true) : XV K (Z.at s) (tFld K to f) Δ (.d d) := fun σ H j st Q q =>
  hv σ H j st _ fun v H1 a f1 e i1 => by
    subst e
    obtain ⟨e, dd⟩ := i1
    subst e
    exact ⟨x, C, dx, _, _, rfl, h.here s H1 f1.j, c, n, l, q _ H1 _ f1 rfl (Dt.ofFlat fd)⟩
/-- o.f += 1 and the like -/
theorem ys_fldaug {i k : Int} {t' : T} (h : HasObj Z x (oM C fl dx) get set) (c : Cls K C) (n : NoAttr K C f) (hv : XV K (Z.at s) to Δ (.w (.ref x) vs ds)) (l : (fl (get s)).lookup f = some (.int i)) (he : XV K (Z.at s) te Δ (.d (.int k))) (small : (fl (get s)).length < 1000) (up : putF f (.int (i + k)) (fl (get s)) = fl t') (nx : N (set s t') Δ) :
    YS K Z s Wp X (sFldAug K to te rAdd f) Δ N Rt Bk Ct := fun σ H j st _ D kk _ _ _ =>
  hv σ H j st _ fun v H1 a f1 e i1 => by
    subst e
    obtain ⟨e, dd⟩ := i1
    subst e
    refine ⟨x, C, dx, _, _, rfl, h.here s H1 f1.j, c, n, l, he σ H1 f1.j (st.go f1) _ fun y H2 b f2 e i2 => ?_⟩
    subst e
    cases i2
    refine ⟨i, k, rfl, rfl, dx, _, h.here s H2 f2.j, small, ?_⟩
    rw [up]
    have f3 := (f1.go f2).go (h.fr (t := t') f2.j)
    exact kk _ _ _ _ f3 (st.go f3) nx
/-- promises about such an object -/
def spW (K : PySem.W.Frag) (o : Addr → T → HO) (hv : γ → List V) (hd : γ → List PyData) (pre : γ → T → List A → Prop) (post : γ → T → T → A → Prop) : Sp := fun us H Q _ =>
  ∃ (g : γ) (S : Type) (Z : SW S) (s : S) (x dx : Addr) (get : S → T) (set : S → T → S) (as : List A), Z.J s H ∧ HasObj Z x (o dx) get set ∧ pre g (get s) as ∧ IsAll K Z.M H us (.w (.ref x) (hv g) (hd g) :: as) ∧
    ∀ v H' t a, Fr (Z.at (set s t)) H H' → post g (get s) t a → Is K Z.M H' v a → Q v H'
variable {hv : γ → List V} {hd : γ → List PyData} {pre : γ → T → List A → Prop} {post : γ → T → T → A → Prop} {o : Addr → T → HO} {E : XK} {m : Str}
theorem ye_methW (g : γ) {D : Addr} {fs : List (Str × V)} {as : List A} (h : HasObj Z x (o dx) get set) (hx : XV K (Z.at s) te Δ (.w (.ref x) (hv g) (hd g))) (ho : ∀ t, ∃ fs, o dx t = .ins D dx fs ∧ fs.lookup m = none) (ha : XAs K (Z.at s) ta Δ as) (p : pre g (get s) as) :
    YE K Z s (tMeth D m (spW K o hv hd pre post) [] E te ta) Δ fun u a => ∃ t, u = set s t ∧ post g (get s) t a := fun σ H j st Q q =>
  hx σ H j st _ fun v H1 a f1 e i1 => by
    subst e
    have i0 := i1
    obtain ⟨e, dd⟩ := i1
    subst e
    obtain ⟨fs, eo, el⟩ := ho (get s)
    refine ⟨x, dx, fs, rfl, by rw [h.here s H1 f1.j, eo], el, ha σ H1 f1.j (st.go f1) _ fun us H2 as' f2 e i2 => ?_⟩
    subst e
    rw [List.append_nil]
    exact ⟨g, S, Z, s, x, dx, get, set, as', f2.j, h, p, .cons (a := .w (.ref x) (hv g) (hd g)) (Is.go f2 i0) i2, fun v H' t a f r i => q v H' (set s t) a ((f1.go f2).go f) ⟨t, rfl, r⟩ i⟩
theorem ye_callW (g : γ) {as : List A} (h : HasObj Z x (o dx) get set) (ha : XAs K (Z.at s) ta Δ (.w (.ref x) (hv g) (hd g) :: as)) (p : pre g (get s) as) :
    YE K Z s (tCall (spW K o hv hd pre post) [] E ta) Δ fun u a => ∃ t, u = set s t ∧ post g (get s) t a := fun σ H j st Q q =>
  ha σ H j st _ fun us H1 as' f1 e i1 => by
    subst e
    rw [List.append_nil]
    exact ⟨g, S, Z, s, x, dx, get, set, as, f1.j, h, p, i1, fun v H' t a f r i => q v H' (set s t) a (f1.go f) ⟨t, rfl, r⟩ i⟩
def BodyW (K : PySem.W.Frag) (C : Addr) (fl : T → List (Str × V)) (hv : γ → List V) (hd : γ → List PyData) (N : List Str) (pre : γ → T → List A → Prop) (post : γ → T → T → A → Prop) (t : TS) : Prop :=
  ∀ (g : γ) (S : Type) (Z : SW S) (s : S) (x dx : Addr) (get : S → T) (set : S → T → S) (as : List A), HasObj Z x (oM C fl dx) get set → pre g (get s) as →
    YS K Z s (fun _ => False) (fun _ => False) t (startE N (.w (.ref x) (hv g) (hd g) :: as)) (fun u _ => ∃ t, u = set s t ∧ post g (get s) t (.d .none)) (fun u a => ∃ t, u = set s t ∧ post g (get s) t a) NoS NoS
theorem bodyW_run {N : List Str} {E : XK} {t : TS} (h : BodyW K C fl hv hd N pre post t) {us : List V} {H : Hp} {Q : VK} (p : spW K (oM C fl) hv hd pre post us H Q E) : t ⟨fun _ H' => Q .non H', Q, fun _ _ => False, fun _ _ => False⟩ (L2.start N us) H := by
  obtain ⟨g, S, Z, s, x, dx, get, set, as, j, ho, pr, i, q⟩ := p
  refine h g S Z s x dx get set as ho pr _ H j (stOk_start i) (fun _ _ _ z => z.elim) _ (fun σ' H' u Δ' f _ ⟨t, e, ps⟩ => ?_) (fun v H' u a f ⟨t, e, ps⟩ i' => ?_) (fun _ _ _ _ _ _ z => z.elim) fun _ _ _ _ _ _ z => z.elim
  · subst e
    exact q _ H' t _ f ps .non
  · subst e
    exact q v H' t a f ps i'
/-! ### a list of one's own in a world with a state -/
def oL (vs : List V) : HO := .lst vs
theorem is_w {M : Addr → Prop} {H : Hp} {v : V} {y : V} (h : Is K M H v (.w y vs ds)) : v = y ∧ DtAll K (hid M H) vs ds := h
/-- name = [], the rest in the world that has it -/
theorem ys_new {k : Nat} (h : ∀ p, ¬ Z.M p → YS K (Z.obj p oL) (s, []) Wp (fun u => X u.1) ts (Δ.set k (some (.w (.ref p) [] []))) (fun u => N u.1) (fun u => Rt u.1) (fun u => Bk u.1) (fun u => Ct u.1)) : YS K Z s Wp X (tSeq (tAsg (tLst tNil) (gName k)) ts) Δ N Rt Bk Ct := fun σ H j st wx D nx rt bk ct =>
  seq_in (show ([] : List V).length ≤ sizeLine ∧ ∀ p, H p = none → ts D (σ.set k (some (.ref p))) (upd H p (.lst [])) from ⟨by decide, fun p np => by
    have g := Grw.obj (o := oL) (t0 := ([] : List V)) j np
    exact ys_in g ((st.ext g.sm).set (a := .w (.ref p) [] []) k ⟨rfl, .nil⟩) (h p (Wd.fresh (W := Z.at s) j np)) wx nx rt bk ct⟩)
/-- name, other = [], e -/
theorem ys_parNew {k i : Nat} {b : A} (he : ∀ W, XV K W te Δ b) (h : ∀ p, ¬ Z.M p → YS K (Z.obj p oL) (s, []) Wp (fun u => X u.1) ts ((Δ.set k (some (.w (.ref p) [] []))).set i (some b)) (fun u => N u.1) (fun u => Rt u.1) (fun u => Bk u.1) (fun u => Ct u.1)) :
    YS K Z s Wp X (tSeq (tPar k i (tCons (tLst tNil) (tCons te tNil))) ts) Δ N Rt Bk Ct := fun σ H j st wx D nx rt bk ct =>
  seq_in (show ([] : List V).length ≤ sizeLine ∧ ∀ p, H p = none → te σ (upd H p (.lst [])) (fun y H2 => ∃ v w, [.ref p, y] = [v, w] ∧ ts D ((σ.set k (some v)).set i (some w)) H2) from ⟨by decide, fun p np => by
    have g := Grw.obj (o := oL) (t0 := ([] : List V)) j np
    refine he ((Z.obj p oL).at (s, [])) σ _ g.j (st.ext g.sm) _ fun y H2 b' f e ib => ?_
    subst e
    have g2 := g.trans (Grw.fr (s := (s, ([] : List V))) f)
    exact ⟨_, _, rfl, ys_in g2 (((st.ext g2.sm).set (a := .w (.ref p) [] []) k ⟨rfl, .nil⟩).set i ib) (h p (Wd.fresh (W := Z.at s) j np)) wx nx rt bk ct⟩⟩)
/-- name.append(e) -/
theorem ys_app {p : Addr} {get : S → List V} {set : S → List V → S} {k : Nat} {d : PyData} (h : HasObj Z p oL get set) (hk : Δ[k]? = some (some (.w (.ref p) (get s) ds))) (small : ds.length ≤ 100000) (he : XV K (Z.at s) te Δ (.d d))
    (n : ∀ v, N (set s (get s ++ [v])) (Δ.set k (some (.w (.ref p) (get s ++ [v]) (ds ++ [d]))))) : YS K Z s Wp X (tDrop (tBM K "list" rAppend (tVar k) (tCons te tNil))) Δ N Rt Bk Ct := fun σ H j st _ D nx _ _ _ => by
  obtain ⟨v0, e0, i0⟩ := st.get k _ hk
  obtain ⟨e, dd⟩ := is_w i0
  subst e
  have hp := h.here s H j
  refine ⟨_, e0, .inl ⟨rfl, _, .inl (.inl hp)⟩, he σ H j st _ fun v H1 a f1 e i1 => ?_⟩
  subst e
  have hp1 := h.here s H1 f1.j
  have len : (get s).length = ds.length := dd.length
  have f2 : Fr (Z.at (set s (get s ++ [v]))) H1 (upd H1 p (.lst (get s ++ [v]))) := h.fr (t := get s ++ [v]) f1.j
  have ff := f1.go f2
  have d2 : DtAll K (hid Z.M (upd H1 p (.lst (get s ++ [v])))) (get s ++ [v]) (ds ++ [d]) := DtAll.append (DtAll.ext ff.same _ _ dd) (.cons (Is.go f2 i1) .nil)
  have st2 : StOk K Z.M (upd H1 p (.lst (get s ++ [v]))) (σ.set k (some (.ref p))) (Δ.set k (some (.w (.ref p) (get s ++ [v]) (ds ++ [d])))) := (st.go ff).set k ⟨rfl, d2⟩
  have es : σ.set k (some (.ref p)) = σ := by
    refine List.ext_getElem? fun i => ?_
    by_cases q : k = i
    · subst q
      have lt : k < σ.length := by
        rcases Nat.lt_or_ge k σ.length with l | l
        · exact l
        · rw [List.getElem?_eq_none l] at e0; cases e0
      rw [List.getElem?_set_self lt, e0]
    · rw [List.getElem?_set_ne q]
  rw [es] at st2
  exact ⟨p, _, v, rfl, rfl, hp1, Nat.lt_of_le_of_lt (by rw [len]; exact small) (by decide), nx _ _ _ _ ff st2 (n v)⟩
theorem xe_lenW {p : Addr} {get : S → List V} {set : S → List V → S} {k : Nat} (h : HasObj Z p oL get set) (hk : Δ[k]? = some (some (.w (.ref p) (get s) ds))) : XV K (Z.at s) (tCB (rLen K) (tCons (tVar k) tNil)) Δ (.d (.int ds.length)) := fun σ H j st Q q => by
  obtain ⟨v0, e0, i0⟩ := st.get k _ hk
  obtain ⟨e, dd⟩ := is_w i0
  subst e
  refine ⟨_, e0, p, _, rfl, .inl (.inl (.inl (h.here s H j))), ?_⟩
  rw [dd.length]
  exact q _ H _ (.refl j) rfl (.int _)
theorem xe_tupW {p : Addr} {get : S → List V} {set : S → List V → S} {k : Nat} (h : HasObj Z p oL get set) (hk : Δ[k]? = some (some (.w (.ref p) (get s) ds))) : XV K (Z.at s) (tCB (rTupOf K) (tCons (tVar k) tNil)) Δ (.d (.tuple ds)) := fun σ H j st Q q => by
  obtain ⟨v0, e0, i0⟩ := st.get k _ hk
  obtain ⟨e, dd⟩ := is_w i0
  subst e
  exact ⟨_, e0, p, _, rfl, .inl ⟨.inl (.inl (h.here s H j)), fun l nl => q _ _ _ (.new j nl) rfl (Dt.tup (.inl (.inl (hid_new (W := Z.at s) j nl))) (DtAll.ext (Fr.same (W := Z.at s) (.new j nl)) _ _ dd))⟩⟩
/-! ### while -/
theorem ys_while {B : S → Bool → Prop} (Inv : Nat → S → Env → Prop) (h0 : ∃ m, Inv m s Δ)
    (hs : ∀ m t Δ', Inv m t Δ' → ∃ b, XB K (Z.at t) tt Δ' b ∧ (b = true → YS K Z t Wp X ts Δ' (fun u Δ2 => ∃ m', m' < m ∧ Inv m' u Δ2) Rt N (fun u Δ2 => ∃ m', m' < m ∧ Inv m' u Δ2)) ∧ (b = false → N t Δ')) : YS K Z s Wp X (tWhile tt ts) Δ N Rt Bk Ct := fun σ H j st wx D nx rt bk ct => by
  obtain ⟨m0, i0⟩ := h0
  refine ⟨fun m σ2 H2 => ∃ t Δ2, Fr (Z.at t) H H2 ∧ StOk K Z.M H2 σ2 Δ2 ∧ Inv m t Δ2, ⟨m0, s, Δ, .refl (W := Z.at s) j, st, i0⟩, ?_⟩
  rintro m σ2 H2 ⟨t, Δ2, f2, s2, v2⟩
  obtain ⟨b, hb, h1, h2⟩ := hs m t Δ2 v2
  refine hb σ2 H2 f2.j s2 _ fun b' H3 f3 e => ?_
  subst e
  have f : Fr (Z.at t) H H3 := f2.go f3
  cases b' with
  | true =>
    refine iteT ⟨fun σ4 H4 => ∃ m', m' < m ∧ ∃ u Δ4, Fr (Z.at u) H H4 ∧ StOk K Z.M H4 σ4 Δ4 ∧ Inv m' u Δ4, fun σ4 H4 h => h, ?_⟩
    exact h1 rfl σ2 H3 f.j (s2.fr f3) (fun H' u f' => wx H' u (f.go f')) _ (fun σ4 H4 u Δ4 f4 s4 ⟨m', l, v⟩ => ⟨m', l, u, Δ4, f.go f4, s4, v⟩) (fun v H4 u a f4 => rt v H4 u a (f.go f4)) (fun σ4 H4 u Δ4 f4 s4 n => nx σ4 H4 u Δ4 (f.go f4) s4 n) fun σ4 H4 u Δ4 f4 s4 ⟨m', l, v⟩ => ⟨m', l, u, Δ4, f.go f4, s4, v⟩
  | false => exact iteF (nx σ2 H3 t Δ2 f (s2.fr f3) (h2 rfl))
end
section
variable {γ T : Type} {P : Program} {w : World} {K : PySem.W.Frag} {mg : Str → Option Value} {base : Heap} {k : Nat} {f C : Addr} {fd : FuncData} {ps N : List Str} {fl : T → List (Str × V)} {hv : γ → List V} {hd : γ → List PyData} {pre : γ → T → List A → Prop} {post : γ → T → T → A → Prop} {x qual : Str} {st : Stmt}
theorem spW_len (ar : ∀ g t as, pre g t as → as.length + 1 = ps.length) {vs : List V} {H : Hp} {Q : VK} {E : XK} (p : spW K (oM C fl) hv hd pre post vs H Q E) : vs.length = ps.length := by
  obtain ⟨g, S, Z, s, x, dx, get, set, as, j, ho, pr, i, q⟩ := p
  rw [i.length, List.length_cons]
  exact ar g _ as pr
theorem okW (F : Fun K x qual st f fd) (S : FnScope N ps (defScope st)) (ar : ∀ g t as, pre g t as → as.length + 1 = ps.length)
    (body : ∀ (cdv : Value) (Ar : Around) (outer : List PySem.Env) (s : Shared) (H : Hp) (E : XK), Room k (Ar.deeper (envOfC qual (defScope st) s.heap.objs.size f cdv)) →
      ∃ t, PSs (cxOf CX0 P w K mg base N qual (defScope st) f cdv Ar outer s H E).nox (defBody st) t ∧ BodyW K C fl hv hd N pre post t) : FnOk P w K mg base CX0 (k + 1) f fd ps (spW K (oM C fl) hv hd pre post) :=
  F.ok S (fun vs H Q E p => spW_len ar p) fun cdv Ar outer s H vs Q E hr h => by
    obtain ⟨t, ht, hb⟩ := body cdv Ar outer s H E hr
    exact ⟨t, ht, bodyW_run hb h⟩
end
section
variable {S T : Type} {K : PySem.W.Frag} {Z : SW S} {s : S} {W : Wd} {Δ : Env} {te te1 te2 ta : TE} {ts : TS} {Wp : Hp → Prop} {X : S → Prop} {N : S → Env → Prop} {Rt : S → A → Prop} {Bk Ct : S → Env → Prop}
/-- name = C(e), e a list that the object holds: the rest in the world that has it -/
theorem ys_makeL {C : Addr} {fl : T → List (Str × V)} {t0 : Addr → T} {sp : Sp} {E : XK} {xs : List PyData} {k : Nat} (he : XV K (Z.at s) te Δ (.d (.list xs)))
    (hi : ∀ (x dx : Addr) (H : Hp) (Q : VK) (a : Addr), H x = some (.ins C dx []) → Q .non (upd H x (.ins C dx (fl (t0 a)))) → sp [.ref x, .ref a] H Q E)
    (h : ∀ x dx a, ¬ Z.M x → YS K (Z.obj x (oM C fl dx)) (s, t0 a) Wp (fun u => X u.1) ts (Δ.set k (some (.w (.ref x) [.ref a] [.list xs]))) (fun u => N u.1) (fun u => Rt u.1) (fun u => Bk u.1) (fun u => Ct u.1)) :
    YS K Z s Wp X (tSeq (tAsg (tMake C sp [] E (tCons te tNil)) (gName k)) ts) Δ N Rt Bk Ct := fun σ H j st wx D nx rt bk ct =>
  seq_in (show tCons te tNil σ H (fun vs H1 => ∀ x dx, H1 x = none → H1 dx = none → dx ≠ x → sp (.ref x :: (vs ++ [])) (upd (upd H1 dx (.own x)) x (.ins C dx [])) (fun v H2 => v = .non ∧ ts D (σ.set k (some (.ref x))) H2) E) from
    (xa_cons he xa_nil) σ H j st _ fun vs H1 as f1 e i1 => by
      subst e
      cases i1 with
      | cons i1 i2 =>
        cases i2
        have i0 := i1
        cases i1 with
        | lst h1 d1 =>
          rename_i a us
          intro x dx nx0 ndx ne
          have fa : Fr (Z.at s) H1 (upd H1 dx (.own x)) := .new f1.j ndx
          have nx1 : (upd H1 dx (.own x)) x = none := by rw [upd_ne ne.symm]; exact nx0
          refine hi x dx _ _ a upd_same ⟨rfl, ?_⟩
          have e2 : upd (upd (upd H1 dx (.own x)) x (.ins C dx [])) x (.ins C dx (fl (t0 a))) = upd (upd H1 dx (.own x)) x (.ins C dx (fl (t0 a))) := upd_upd
          rw [e2]
          have m : ¬ Z.M x := Wd.fresh (W := Z.at s) f1.j nx0
          have g1 := Grw.fr (s := s) (f1.trans fa)
          have g2 := Grw.obj (o := oM C fl dx) (t0 := t0 a) fa.j nx1
          have g := g1.trans g2
          have iv : Is K (Z.obj x (oM C fl dx)).M (upd (upd H1 dx (.own x)) x (.ins C dx (fl (t0 a)))) (.ref a) (.d (.list xs)) := (Is.go fa i0).ext g2.sm
          exact ys_in g ((st.ext g.sm).set (a := .w (.ref x) [.ref a] [.list xs]) k ⟨rfl, .cons iv .nil⟩) (h x dx a m) wx nx rt bk ct)
theorem xe_slSto {x : Str} {k : Int} (n : x.length ≤ 100000) (h : XV K W te Δ (.d (.str x))) (hb : XV K W ta Δ (.d (.int k))) : XV K W (tSl rSlS te tNoPart (tPart ta)) Δ (.d (.str (cutS x none (some k)))) := fun σ H j s Q q =>
  h σ H j s _ fun v H1 a f1 e i1 => by
    subst e
    refine hb σ H1 f1.j (s.fr f1) _ fun w H2 b f2 e i2 => ?_
    subst e
    cases i2
    cases i1.fr f2
    exact ⟨k, rfl, _, rfl, by exact Nat.le_trans n (by decide), q _ H2 _ (f1.trans f2) rfl (.str _)⟩
theorem ye_tupS {a : PyData} {R : S → PyData → Prop} (h : ∀ W, XV K W te1 Δ (.d a)) (h2 : YE K Z s te2 Δ fun t x => ∃ d, x = .d d ∧ R t d) : YE K Z s (tTup (tCons te1 (tCons te2 tNil))) Δ fun t x => ∃ d, x = .d (.tuple [a, d]) ∧ R t d := fun σ H j st Q q =>
  (h (Z.at s)) σ H j st _ fun v H1 b f1 e i1 => by
    subst e
    refine h2 σ H1 f1.j (st.go f1) _ fun w H2 t c f2 r i2 => ?_
    obtain ⟨d, e, rd⟩ := r
    subst e
    refine ⟨by show 2 ≤ sizeLine; decide, fun p np => ?_⟩
    have f3 : Fr (Z.at t) H2 (upd H2 p (.tup [v, w])) := .new f2.j np
    refine q _ _ t _ ((f1.go f2).go f3) ⟨d, rfl, rd⟩ (Dt.tup (.inl (.inl (hid_new (W := Z.at t) f2.j np))) (.cons (Is.go f3 (Is.go f2 i1)) (.cons (Is.go f3 i2) .nil)))
theorem cx_intS {x : Str} {n : Int} (h : PySem.intText? x = some n) (l : x.length ≤ 640) : CX1 K W (fun xs H Q => ∃ a n, xs = [.str a] ∧ PySem.intText? a = some n ∧ a.length ≤ 640 ∧ Q (.int n) H) [.d (.str x)] (· = .d (.int n)) := fun vs H j i Q q => by
  cases i with
  | cons h1 t =>
    cases t
    cases h1
    exact ⟨x, n, rfl, h, l, q _ H _ (.refl j) rfl (.int _)⟩
theorem ox_notInT {x z : Str} {b : Bool} (h : (!(!(Builtin.Str.occurrences z x 0 z.length 1).isEmpty)) = b) : OX K W (fun x y H Q => ∃ i j, x = .str i ∧ y = .str j ∧ Q (.bl (!(!(Builtin.Str.occurrences j i 0 j.length 1).isEmpty))) H) (.d (.str x)) (.d (.str z)) (· = .d (.bool b)) := fun v w H j i1 i2 Q q => by
  cases i1
  cases i2
  refine ⟨_, _, rfl, rfl, ?_⟩
  rw [h]
  exact q _ H _ (.refl j) rfl (.bl _)
end
/-- for x in xs, a tuple that stood ahead of one's own list -/
theorem own_tup {K : PySem.W.Frag} {W : Wd} {Δ : Env} {k : Nat} {H0 H : Hp} {σ : L2.St} {ds : List PyData} {D : Ends} {i j : Nat} {tb : TS} {xs : List PyData} {a : Addr} {vs : List V} (o : Own K W k H0 H σ Δ ds) (ne : i ≠ k) (hj : σ[j]? = some (some (.ref a))) (ha : SqT K (hid W.M H0) a vs) (da : DtAll K (hid W.M H0) vs xs)
    (Inv : Nat → Env → List PyData → Prop) (h0 : Inv 0 Δ ds)
    (hs : ∀ (m : Nat) (x : PyData) (v : V) (σ1 : L2.St) (H1 : Hp) (Δ1 : Env) (ds1 : List PyData), xs[m]? = some x → Inv m Δ1 ds1 → Own K W k H0 H1 (σ1.set i (some v)) (Δ1.set i (some (.d x))) ds1 →
      ∀ N : L2.St → Hp → Prop, (∀ σ2 H2 Δ2 ds2, Own K W k H0 H2 σ2 Δ2 ds2 → Inv (m + 1) Δ2 ds2 → N σ2 H2) → tb { D with nx := N, ct := N, bk := D.nx } (σ1.set i (some v)) H1)
    (hd : ∀ (σ1 : L2.St) (H1 : Hp) (Δ1 : Env) (ds1 : List PyData), Own K W k H0 H1 σ1 Δ1 ds1 → Inv xs.length Δ1 ds1 → D.nx σ1 H1) : tFor (iTup K (tVar j)) (gName i) tb D σ H := by
  have ga : ∀ H2, Fr W H0 H2 → SqT K H2 a vs := fun H2 f => sqT_same hid_le (sqT_same f.same ha)
  refine ⟨.ref a, hj, a, rfl, ⟨vs, ga H o.fr⟩, for_tup (xs := vs) (fun m σ2 H2 => ∃ Δ2 ds2, Own K W k H0 H2 σ2 Δ2 ds2 ∧ Inv m Δ2 ds2) ⟨Δ, ds, o, h0⟩ (fun m σ2 H2 _ ⟨Δ2, ds2, o2, _⟩ => ga H2 o2.fr) ?_ ?_⟩
  · rintro m v σ2 H2 hv ⟨Δ2, ds2, o2, v2⟩
    have l : m < xs.length := by
      rw [← da.length]
      exact (List.getElem?_eq_some_iff.mp hv).1
    obtain ⟨v', hv', dv⟩ := da.get (List.getElem?_eq_getElem l)
    rw [hv] at hv'
    cases hv'
    obtain ⟨p, us, n0, mp, hp, dd, hk, s⟩ := o2.it
    have iv : Is K (fun a => W.M a ∨ a = p) H2 v (.d xs[m]) := Dt.ext (same_in (φ := fun _ => True) o2.fr n0) _ _ dv
    refine hs m xs[m] v σ2 H2 Δ2 ds2 (List.getElem?_eq_getElem l) v2 ⟨o2.fr, p, us, n0, mp, hp, dd, by rw [List.getElem?_set_ne ne]; exact hk, s.set i iv⟩ _ fun σ3 H3 Δ3 ds3 o3 v3 => ⟨Δ3, ds3, o3, v3⟩
  · rintro σ2 H2 ⟨Δ2, ds2, o2, v2⟩
    rw [da.length] at v2
    exact hd σ2 H2 Δ2 ds2 o2 v2
end V2

set_option Elab.async false
set_option linter.all false
set_option maxRecDepth 100000
set_option maxHeartbeats 1000000
namespace V2
open PySem PySem.Spec PyProof.Rows L2
/-! ### promises of a new list -/
section
variable {γ : Type}
def spF (K : PySem.W.Frag) (pre : γ → Wd → List A → Prop) (val : γ → List PyData) : Sp := fun us H Q _ => ∃ (g : γ) (W : Wd) (as : List A), W.J H ∧ pre g W as ∧ IsAll K W.M H us as ∧
  ∀ p H' vs, Fr W H H' → H p = none → H' p = some (.lst vs) → DtAll K (hid (fun a => W.M a ∨ a = p) H') vs (val g) → Q (.ref p) H'
variable {K : PySem.W.Frag} {W : Wd} {Δ : Env} {ta : TA} {te : TE} {tt : TT} {ts tu : TS} {E : XK} {pre : γ → Wd → List A → Prop} {val : γ → List PyData} {k : Nat} {H0 H : Hp} {σ : L2.St} {ds : List PyData} {D : Ends} {B : Bool → Prop}
theorem xn_callF (g : γ) {as : List A} (h : XAs K W ta Δ as) (p : pre g W as) : XN K W (tCall (spF K pre val) [] E ta) Δ (· = val g) := fun σ H j s Q q =>
  h σ H j s _ fun vs H1 as' f1 e i1 => by
    subst e
    rw [List.append_nil]
    refine ⟨g, W, as', f1.j, p, i1, fun p' H' us f np hp dd => q p' H' us _ (f1.trans f) ?_ rfl hp dd⟩
    cases z : H p' with
    | none => rfl
    | some o =>
      have m : ¬ W.M p' := W.fresh f1.j np
      rw [f1.keep p' o m z] at np
      cases np
theorem xe_callF (g : γ) {as : List A} (h : XAs K W ta Δ as) (p : pre g W as) : XV K W (tCall (spF K pre val) [] E ta) Δ (.d (.list (val g))) := fun σ H j s Q q =>
  xn_callF (E := E) g h p σ H j s Q fun p' H' vs ds f np e hp dd => by
    subst e
    have m : ¬ W.M p' := W.fresh j np
    exact q _ H' _ f rfl (Dt.lst (by rw [hid_out m]; exact hp) (DtAll.ext hid_or_le _ _ dd))
/-- a test that reads one's own list as data -/
theorem own_ifD (o : Own K W k H0 H σ Δ ds) (ht : XT K W tt (Δ.set k (some (.d (.list ds)))) B) (h1 : ∀ H', B true → Own K W k H0 H' σ Δ ds → ts D σ H') (h2 : ∀ H', B false → Own K W k H0 H' σ Δ ds → tu D σ H') : tIfS tt ts tu D σ H :=
  ht σ H o.fr.j o.st _ fun b H1 f hb => by
    cases b with
    | true => exact iteT (h1 H1 hb (o.later f))
    | false => exact iteF (h2 H1 hb (o.later f))
/-- a list is put behind one's own -/
theorem own_extend (h : Own K W k H0 H σ Δ ds) {P : List PyData → Prop} (small : ∀ es, P es → ds.length + es.length ≤ 100000) (he : ∀ p φ, ¬ W.M p → XE K (W.add p φ) te Δ fun a => ∃ es, a = .d (.list es) ∧ P es)
    (q : ∀ H' es, P es → Own K W k H0 H' σ Δ (ds ++ es) → D.nx σ H') : tDrop (tBM K "list" rExtend (tVar k) (tCons te tNil)) D σ H := by
  obtain ⟨p, vs, n0, m, hp, dd, hk, s⟩ := h.it
  refine ⟨_, hk, .inl ⟨rfl, _, .inl (.inl hp)⟩, ?_⟩
  refine he p (· = .lst vs) m σ H ⟨h.fr.j, _, hp, rfl⟩ s _ fun v H1 a f1 r i1 => ?_
  obtain ⟨es, e, pd⟩ := r
  subst e
  obtain ⟨u, hp1, e⟩ := f1.j.2
  subst e
  cases i1 with
  | lst h1 d1 =>
    rename_i b ws
    have m1 : ¬ (W.M b ∨ b = p) := fun z => by
      have h1' : hid (fun a => W.M a ∨ a = p) H1 b = some (.lst ws) := h1
      rw [hid_in (M := fun a => W.M a ∨ a = p) z] at h1'
      cases h1'
    have hb : H1 b = some (.lst ws) := by
      have h1' : hid (fun a => W.M a ∨ a = p) H1 b = some (.lst ws) := h1
      rw [hid_out (M := fun a => W.M a ∨ a = p) m1] at h1'
      exact h1'
    have len : vs.length + ws.length ≤ sizeLine := by rw [dd.length, d1.length]; exact Nat.le_trans (small es pd) (by decide)
    have sm2 : Same (hid (W.add p (· = .lst vs)).M H) (hid (W.add p (· = .lst vs)).M H1) := f1.same
    refine ⟨p, b, vs, ws, rfl, rfl, hp1, hb, len, q _ es pd ⟨?_, p, vs ++ ws, n0, m, upd_same, ?_, hk, ?_⟩⟩
    · refine ⟨fun a o nm e => ?_, W.loc H1 _ (fun a ma => upd_ne fun z => m (z ▸ ma)) f1.j.1⟩
      have ne : a ≠ p := ne_of_none e n0
      rw [upd_ne ne]
      exact f1.keep a o (fun z => z.elim nm ne) (h.fr.keep a o nm e)
    · rw [hid_upd (.inr rfl)]
      exact DtAll.append (DtAll.ext f1.same _ _ dd) d1
    · have s2 := s.fr f1
      refine s2.ext fun a o e => ?_
      rw [hid_upd (.inr rfl)]
      exact e
/-- a new list of one's own is handed back -/
theorem own_retN (o : Own K W k H0 H σ Δ ds) (q : ∀ p vs, Fr W H0 H → H0 p = none → H p = some (.lst vs) → DtAll K (hid (fun a => W.M a ∨ a = p) H) vs ds → D.rt (.ref p) H) : tRet (tVar k) D σ H := by
  obtain ⟨p, vs, n0, m, hp, dd, hk, s⟩ := o.it
  exact ⟨_, hk, q p vs o.fr n0 hp dd⟩
end
end V2
namespace V2
open PySem PySem.Spec PyProof.Rows L2
theorem xe_lcRg {K : PySem.W.Frag} {W : Wd} {Δ : Env} {te te0 : TE} {k n : Nat} {g : Nat → PyData} (h : XV K W te0 Δ (.d (.int (n : Int)))) (small : n ≤ 100000) (hs : ∀ D φ (i : Nat), ¬ W.M D → XV K (W.add D φ) te ((Δ.set k none).set k (some (.d (.int (i : Int))))) (.d (g i))) :
    XV K W (tLc (iRng1 (tCons te0 tNil)) (gName k) tYes te [k]) Δ (.d (.list ((List.range n).map g))) :=
  XE.mono (xe_lc (Nn := (· = n)) (Y := fun i a => a = .d (.int (i : Int))) (P := fun i d => d = g i) (xi_rng (Nn := (· = n)) (xa_rng (Nn := (· = n)) h (by omega) (by omega) (by omega))) (fun m e => by omega) fun D φ i a mD ea => by
      subst ea
      exact XE.mono (hs D φ i mD) fun a e => ⟨_, e, rfl⟩)
    fun a ⟨ds, hl, hp, e⟩ => by
      subst e
      have z : ds = (List.range n).map g := by
        refine List.ext_getElem? fun i => ?_
        by_cases hi : i < ds.length
        · rw [List.getElem?_eq_getElem hi, hp i ds[i] (List.getElem?_eq_getElem hi), List.getElem?_map, List.getElem?_range (by omega)]
          rfl
        · rw [List.getElem?_eq_none (by omega), List.getElem?_eq_none (by rw [List.length_map, List.length_range]; omega)]
      rw [z]
end V2

set_option Elab.async false
set_option linter.all false
namespace V2
/-! ### borders of beginnings: the greatest one by borders of borders -/
section
variable {α : Type} {p : Nat → α}
/-- the first k are the last k of the first m, and not all of them -/
def Bord (p : Nat → α) (m k : Nat) : Prop := k < m ∧ ∀ j, j < k → p j = p (m - k + j)
def MaxB (p : Nat → α) (m d : Nat) : Prop := Bord p m d ∧ ∀ l, Bord p m l → l ≤ d
theorem bord_zero {m : Nat} (h : 0 < m) : Bord p m 0 := ⟨h, fun j z => by omega⟩
theorem bord_succ {m k : Nat} (h : k < m) : Bord p (m + 1) (k + 1) ↔ Bord p m k ∧ p k = p m := by
  constructor
  · rintro ⟨_, e⟩
    refine ⟨⟨h, fun j hj => ?_⟩, ?_⟩
    · have := e j (by omega)
      rw [show m + 1 - (k + 1) + j = m - k + j by omega] at this
      exact this
    · have := e k (by omega)
      rw [show m + 1 - (k + 1) + k = m by omega] at this
      exact this
  · rintro ⟨⟨_, e⟩, e2⟩
    refine ⟨by omega, fun j hj => ?_⟩
    rw [show m + 1 - (k + 1) + j = m - k + j by omega]
    by_cases c : j < k
    · exact e j c
    · rw [show j = k by omega, show m - k + k = m by omega]
      exact e2
theorem bord_trans {m k l : Nat} (h : Bord p m k) (h' : Bord p k l) : Bord p m l := by
  refine ⟨Nat.lt_trans h'.1 h.1, fun j hj => ?_⟩
  have a := h'.1
  have b := h.1
  rw [h'.2 j hj, h.2 (k - l + j) (by omega), show m - k + (k - l + j) = m - l + j by omega]
theorem bord_in {m k l : Nat} (h : Bord p m k) (h' : Bord p m l) (lt : l < k) : Bord p k l := by
  refine ⟨lt, fun j hj => ?_⟩
  have b := h.1
  rw [h'.2 j hj, h.2 (k - l + j) (by omega), show m - k + (k - l + j) = m - l + j by omega]
/-- what stands while a border is sought that goes on -/
structure Seek (p : Nat → α) (m k : Nat) : Prop where
  bord : Bord p m k
  past : ∀ l, k < l → Bord p m l → p l ≠ p m
theorem seek_first {m d : Nat} (h : MaxB p m d) : Seek p m d := ⟨h.1, fun l hl b => absurd (h.2 l b) (by omega)⟩
theorem seek_next {m k d : Nat} (s : Seek p m k) (ne : p k ≠ p m) (h : MaxB p k d) : Seek p m d := by
  refine ⟨bord_trans s.bord h.1, fun l hl b => ?_⟩
  by_cases c : l < k
  · exact absurd (h.2 l (bord_in s.bord b c)) (by omega)
  · by_cases c2 : l = k
    · rw [c2]
      exact ne
    · exact s.past l (by omega) b
theorem seek_yes {m k : Nat} (s : Seek p m k) (e : p k = p m) : MaxB p (m + 1) (k + 1) := by
  refine ⟨(bord_succ s.bord.1).mpr ⟨s.bord, e⟩, fun l hl => ?_⟩
  cases l with
  | zero => omega
  | succ l =>
    have lt : l < m := by have := hl.1; omega
    obtain ⟨b, e2⟩ := (bord_succ lt).mp hl
    by_cases c : k < l
    · exact absurd e2 (s.past l c b)
    · omega
theorem seek_no {m : Nat} (s : Seek p m 0) (ne : p 0 ≠ p m) : MaxB p (m + 1) 0 := by
  refine ⟨bord_zero (by omega), fun l hl => ?_⟩
  cases l with
  | zero => omega
  | succ l =>
    have lt : l < m := by have := hl.1; omega
    obtain ⟨b, e2⟩ := (bord_succ lt).mp hl
    cases l with
    | zero => exact absurd e2 ne
    | succ l => exact absurd e2 (s.past _ (by omega) b)
theorem max_one : MaxB p 1 0 := ⟨bord_zero (by decide), fun l h => by have := h.1; omega⟩
theorem max_uniq {m d d' : Nat} (h : MaxB p m d) (h' : MaxB p m d') : d = d' := Nat.le_antisymm (h'.2 d h.1) (h.2 d' h'.1)
theorem max_some (m : Nat) (hm : 0 < m) : ∃ d, MaxB p m d := by
  have go : ∀ n, n < m → (∀ l, Bord p m l → l ≤ n) → ∃ d, MaxB p m d := by
    intro n
    induction n with
    | zero => exact fun h a => ⟨0, bord_zero hm, a⟩
    | succ n ih =>
      intro h a
      by_cases c : Bord p m (n + 1)
      · exact ⟨n + 1, c, a⟩
      · refine ih (by omega) fun l hl => ?_
        have := a l hl
        by_cases z : l = n + 1
        · rw [z] at hl
          exact absurd hl c
        · omega
  exact go (m - 1) (by omega) fun l hl => by have := hl.1; omega
end
end V2
namespace V2
open PySem PySem.Spec PyProof.Rows L2
/-! ### an own list that grows while a tuple made behind its start is walked -/
structure OwnP (K : PySem.W.Frag) (W : Wd) (k : Nat) (p : Addr) (Hb H0 H : Hp) (σ : L2.St) (Δ : Env) (ds : List PyData) : Prop where
  own : Own K W k H0 H σ Δ ds
  at_ : σ[k]? = some (some (.ref p))
  keep : ∀ a o, ¬ W.M a → a ≠ p → Hb a = some o → H a = some o
section
variable {K : PySem.W.Frag} {W : Wd} {Δ : Env} {te : TE} {k : Nat} {H0 H Hb : Hp} {σ : L2.St} {ds : List PyData} {D : Ends} {i : Nat} {tb : TS} {xs : List PyData} {p : Addr}
theorem own_tupX (o : Own K W k H0 H σ Δ ds) (ne : i ≠ k) (he : ∀ p φ, ¬ W.M p → XV K (W.add p φ) te Δ (.d (.tuple xs)))
    (Inv : Nat → Env → List PyData → Prop) (h0 : Inv 0 Δ ds)
    (hs : ∀ (p : Addr) (Hb : Hp) (m : Nat) (x : PyData) (v : V) (σ1 : L2.St) (H1 : Hp) (Δ1 : Env) (ds1 : List PyData), xs[m]? = some x → Inv m Δ1 ds1 → OwnP K W k p Hb H0 H1 (σ1.set i (some v)) (Δ1.set i (some (.d x))) ds1 →
      ∀ N : L2.St → Hp → Prop, (∀ σ2 H2 Δ2 ds2, OwnP K W k p Hb H0 H2 σ2 Δ2 ds2 → Inv (m + 1) Δ2 ds2 → N σ2 H2) → tb { D with nx := N, ct := N, bk := D.nx } (σ1.set i (some v)) H1)
    (hd : ∀ (σ1 : L2.St) (H1 : Hp) (Δ1 : Env) (ds1 : List PyData), Own K W k H0 H1 σ1 Δ1 ds1 → Inv xs.length Δ1 ds1 → D.nx σ1 H1) : tFor (iTup K te) (gName i) tb D σ H := by
  obtain ⟨p, vs0, n0, m0, hp, dd, hk, s⟩ := o.it
  refine he p (· = .lst vs0) m0 σ H ⟨o.fr.j, _, hp, rfl⟩ s _ fun v H1 a f1 e i1 => ?_
  subst e
  obtain ⟨u, hp1, e⟩ := f1.j.2
  subst e
  have o1 : Own K W k H0 H1 σ Δ ds := ⟨⟨fun a o' nm e => f1.keep a o' (fun z => z.elim nm (ne_of_none e n0)) (o.fr.keep a o' nm e), f1.j.1⟩, p, vs0, n0, m0, hp1, DtAll.ext f1.same _ _ dd, hk, s.fr f1⟩
  cases i1 with
  | tup h1 d1 =>
    rename_i a vs
    have sm : ∀ H2, (∀ a o, ¬ W.M a → a ≠ p → H1 a = some o → H2 a = some o) → Same (hid (fun a => W.M a ∨ a = p) H1) (hid (fun a => W.M a ∨ a = p) H2) := fun H2 kp b o' e => by
      by_cases z : W.M b ∨ b = p
      · rw [hid_in z] at e; cases e
      · rw [hid_out z] at e ⊢
        exact kp b o' (fun q => z (.inl q)) (fun q => z (.inr q)) e
    have ga : ∀ H2, (∀ a o, ¬ W.M a → a ≠ p → H1 a = some o → H2 a = some o) → SqT K H2 a vs := fun H2 kp => sqT_same hid_le (sqT_same (sm H2 kp) h1)
    refine ⟨a, rfl, ⟨vs, ga H1 fun _ _ _ _ e => e⟩, for_tup (xs := vs) (fun m σ2 H2 => ∃ Δ2 ds2, OwnP K W k p H1 H0 H2 σ2 Δ2 ds2 ∧ Inv m Δ2 ds2) ⟨Δ, ds, ⟨o1, hk, fun _ _ _ _ e => e⟩, h0⟩ (fun m σ2 H2 _ ⟨Δ2, ds2, o2, _⟩ => ga H2 o2.keep) ?_ ?_⟩
    · rintro m v σ2 H2 hv ⟨Δ2, ds2, o2, v2⟩
      have l : m < xs.length := by
        rw [← d1.length]
        exact (List.getElem?_eq_some_iff.mp hv).1
      obtain ⟨v', hv', dv⟩ := d1.get (List.getElem?_eq_getElem l)
      rw [hv] at hv'
      cases hv'
      obtain ⟨p', us, n0', mp, hp', dd', hk', s'⟩ := o2.own.it
      have ep : p' = p := by
        have := o2.at_
        rw [hk'] at this
        injection this with this
        injection this with this
        injection this
      subst ep
      have iv : Is K (fun a => W.M a ∨ a = p') H2 v (.d xs[m]) := Dt.ext (sm H2 o2.keep) _ _ dv
      refine hs p' H1 m xs[m] v σ2 H2 Δ2 ds2 (List.getElem?_eq_getElem l) v2 ⟨⟨o2.own.fr, p', us, n0', mp, hp', dd', by rw [List.getElem?_set_ne ne]; exact hk', s'.set i iv⟩, by rw [List.getElem?_set_ne ne]; exact hk', o2.keep⟩ _ fun σ3 H3 Δ3 ds3 o3 v3 => ⟨Δ3, ds3, o3, v3⟩
    · rintro σ2 H2 ⟨Δ2, ds2, o2, v2⟩
      rw [d1.length] at v2
      exact hd σ2 H2 Δ2 ds2 o2.own v2
theorem own_appendP {P : PyData → Prop} (h : OwnP K W k p Hb H0 H σ Δ ds) (small : ds.length ≤ 100000) (he : XE K W te (Δ.set k (some (.d (.list ds)))) fun a => ∃ d, a = .d d ∧ flat d = true ∧ P d)
    (q : ∀ H' d, P d → OwnP K W k p Hb H0 H' σ Δ (ds ++ [d]) → D.nx σ H') : tDrop (tBM K "list" rAppend (tVar k) (tCons te tNil)) D σ H := by
  have st := h.own.st
  obtain ⟨p', vs, n0, m, hp, dd, hk, s⟩ := h.own.it
  have ep : p' = p := by
    have := h.at_
    rw [hk] at this
    injection this with this
    injection this with this
    injection this
  subst ep
  refine ⟨_, hk, .inl ⟨rfl, _, .inl (.inl hp)⟩, he σ H h.own.fr.j st _ fun v H1 a f1 r i1 => ?_⟩
  obtain ⟨d, e, fl, pd⟩ := r
  subst e
  have hp1 := f1.keep p' _ m hp
  have fA : Same (hid (fun a => W.M a ∨ a = p') H) (hid (fun a => W.M a ∨ a = p') (upd H1 p' (.lst (vs ++ [v])))) := fun a o e => by
    by_cases z : W.M a ∨ a = p'
    · rw [hid_in z] at e; cases e
    · rw [hid_out z] at e ⊢
      rw [upd_ne fun q => z (.inr q)]
      exact f1.keep a o (fun q => z (.inl q)) e
  obtain rfl := Dt.flat i1 fl
  refine ⟨p', vs, _, rfl, rfl, hp1, Nat.lt_of_le_of_lt (by rw [dd.length]; exact small) (by decide), q _ d pd ⟨⟨?_, p', vs ++ [vOf d], n0, m, upd_same, DtAll.append (DtAll.ext fA _ _ dd) (.cons (Dt.ofFlat fl) .nil), hk, s.ext fA⟩, hk, fun a o nm np e => ?_⟩⟩
  · refine ⟨fun a o nm e => ?_, W.loc H1 _ (fun a ma => upd_ne fun z : a = p' => m (by rw [← z]; exact ma)) f1.j⟩
    have ne : a ≠ p' := ne_of_none e n0
    rw [upd_ne ne]
    exact f1.keep a o nm (h.own.fr.keep a o nm e)
  · rw [upd_ne np]
    exact f1.keep a o nm (h.keep a o nm np e)
end
end V2

set_option Elab.async false
set_option linter.all false
set_option maxRecDepth 100000
set_option maxHeartbeats 2000000
namespace V2
open PySem PySem.Spec PyProof.Rows L2
/-! ### own errors over any built-in one, whose making walks an __init__ that lays one field -/
section
open Builtin Builtin.ObjectAttr
variable {prog : Program} {w : World} {Ar : Around} {R : Result → Shared → Prop} {hp : Heap} {gs : Array GenState} {dr : Drawn} {n : Nat} {os : OsState}
/-- the first field of an error, whatever stands above its class: all that is asked of that is that no __setattr__ of it refuses, and that object is among it -/
theorem err_lay {K : PySem.W.Frag} {f : Str} {tk : Tok} {u : Value} {x C : Addr} {vs : Array Value} {cd : ClassData} (kin : K.In hp) (hx : hp.get? x = some { cls := .ref C, data := .fields vs })
    (ec : PySem.W.clsIn K C = some cd) (top : cd.mro.contains (.type "object") = true) (ps : ∀ v, refuseLoop v "__setattr__" cd.mro = pure ()) (has : cd.hasDict = true) (no : PySem.W.findIn K (.ref C) f = some none)
    (k : ∀ h2 t2 dx, (∀ b o, b ≠ x → hp.get? b = some o → h2.get? b = some o) → hp.objs.size ≤ dx → dx ≠ x → h2.get? x = some { cls := .ref C, dict := some dx, data := .fields vs } → h2.Ns1 dx (fun y => if y = f then some u else none) → R (.ok (.ret .none)) ⟨h2, gs, dr, t2, os⟩) :
    codeAny (model prog w) Ar (.call (.builtin "object.__setattr__") ⟨[.ref x, .str f tk, u], []⟩) R ⟨hp, gs, dr, n, os⟩ := by
  have inst : PySem.W.InstAt hp x { cls := .ref C, data := .fields vs } C none := ⟨hx, rfl, rfl, trivial⟩
  have so := PySem.F.store_object
  have full : cd.mro.isEmpty = false := by
    cases z : cd.mro with
    | nil => rw [z] at top; exact absurd top (by decide)
    | cons => rfl
  have nx : x ≠ hp.objs.size := Nat.ne_of_lt (Heap.lt_size hx)
  have isO : PySem.W.Looks (model prog w) hp (isInstance (.ref x) (.type "object")) true := inst.type.andThen (PySem.W.looks_mroIn kin (by unfold PySem.W.mroIn; rw [ec, Option.bind_some, if_neg (by rw [full]; decide), top]))
  refine codeAny_call_builtin so.slot.plain so.entry (@PySem.W.check_slot (model prog w) _ _ ⟨hp, gs, dr, n, os⟩ "object.__setattr__" "object" "__setattr__" (.ref x) [.str f tk, u] [] _ so.kind so.split isO (so.args (.ref x) (.str f tk) u) ?_)
  have lm : PySem.W.Looks (model prog w) hp (mroOf (.ref C)) cd.mro := (PySem.W.looks_clsIn kin ec).andThen .now
  have lt : PySem.W.Looks (model prog w) hp (storeTaker? none) none := .now
  have lc : PySem.W.Looks (model prog w) hp (classData C) cd := PySem.W.looks_clsIn kin ec
  rw [PySem.W.osa_eq, refuse_eq]
  refine wpAny_bind (wpAny_bind (inst.type.at (wpAny_bind (lm.at ?_))))
  rw [ps]
  refine wpAny_pure (wpAny_bind (inst.type.at (wpAny_bind ((PySem.W.looks_findIn kin no).at (wpAny_bind (lt.at ?_))))))
  show wpAny _ _ (storeInOwnDict (.ref x) (.ref C) (.str f tk) f u false) _ _ _
  obtain ⟨c1, c2, c3, c4, c5, c6, c7, c8, c9, c10, c11⟩ := cd
  dsimp only at has
  subst has
  unfold storeInOwnDict ownDictForStores
  repeat (first | with_reducible refine PySem.HandSPX.store_in_new ?_ ?_ | with_reducible refine wpAny_loadPart_at hx ?_ | with_reducible refine lc.at ?_ | wp_step)
  · exact ⟨_, #[], _, (Heap.get?_update_ne _ _ _ _ nx.symm).trans (Heap.get?_push_at rfl rfl), rfl, fun e he => absurd he (by simp), fun _ => rfl⟩
  · intro h2 t2 hn sb
    have hx' : (hp.push { cls := .type "dict", data := .dict #[] }).get? x = some { cls := .ref C, data := .fields vs } := Heap.get?_push_of_some _ hx
    refine k h2 t2 hp.objs.size (fun b o ne ho => ?_) (Nat.le_refl _) nx.symm ((sb.2 x nx).trans (Heap.get?_update_self _ hx' rfl)) hn
    exact (sb.2 b (Nat.ne_of_lt (Heap.lt_size ho))).trans ((Heap.get?_update_ne _ _ _ _ ne).trans (Heap.get?_push_of_some _ ho))
end
/-- what is written of such a class: it stands over B, whose making and __init__ are mk and ini, and above which up stands -/
structure ErrC (K : PySem.W.Frag) (C : Addr) (B mk ini : String) (up : List Value) : Prop where
  low : ExcBaseFacts B mk ini up
  cls : ∃ nm q N bs bm sn sub ab col dd k0 k1 k2 k3 k5, K.lookup C = some (excClassObj nm q C N bs bm true sn sub ab col dd k0 k1 k2 k3 k5 mk) ∧ (∀ Y : String, bm.contains (.type Y) = up.contains (.type Y)) ∧ ∀ v, refuseLoop v "__setattr__" bm = pure ()
  obj : up.contains (.type "object") = true
  sa : PySem.W.findIn K (.ref C) "__setattr__" = some (some (.builtin "object.__setattr__"))
  exC : PySem.W.subIn K (.ref C) (.type "BaseException") = some true
  tyC : PySem.W.typeIn K (.ref C) = some (.type "type")
  kC : PySem.W.keepIn K (.ref C) = true
section
variable {X : Cx} {pins : List (Addr × Obj)} {σ : L2.St} {H : Hp} {s : Shared} {a C : Addr} {f : Str} {y : V} {u : Value} {Q : Unit → Shared → Prop} {E : Value → Shared → Prop} {Ar : Around} {B mk ini : String} {up : List Value}
theorem err_store (T : ErrC X.K C B mk ini up) (I : Inv X pins σ H s) (e : H a = some (exo a C none)) (no : PySem.W.findIn X.K (.ref C) f = some none) (ry : RelV y u)
    (h : ∀ dx s', H dx = none → dx ≠ a → Inv X pins σ (upd (upd H dx (exd dx [(f, y)])) a (exo a C (some dx))) s' → Q () s') : wpAny (model X.prog X.w) Ar (setAttr (.ref a) f u) Q E s := by
  obtain ⟨nm, q, N, bs, bm, sn, sub, ab, col, dd, k0, k1, k2, k3, k5, hC, hT, hps⟩ := T.cls
  have ec : PySem.W.clsIn X.K C = some { name := nm, bases := bs, mro := .ref C :: bm, ns := N, qualname := q, hasDict := true, slotNames := sn, subclasses := sub, abstract := ab, collection := col, hasDel := false } := by unfold PySem.W.clsIn; rw [hC] <;> rfl
  obtain ⟨t1, ho⟩ := exo_at I.hok e
  obtain ⟨hp, gs, dr, n, os⟩ := s
  refine PySem.W.set_plain I.kIn (ox := { cls := .ref C, dict := none, data := .fields #[.ref t1, .none, .none, .none, .bool false, .none] }) (od := none) ⟨ho, rfl, rfl, trivial⟩ T.sa ?_
  refine err_lay I.kIn ho ec (by rw [List.contains_cons, hT, T.obj, Bool.or_true]) (fun v => by rw [refuseLoop_ref]; exact hps v) rfl no fun h2 t2 dx k dn ne hx hn => ?_
  have free : H dx = none := I.hok.fresh dn
  have notA : ∀ {b : Addr}, H b = none → b ≠ a := fun z c => by rw [c, e] at z; cases z
  have notD : ∀ {b : Addr} {o : Obj}, hp.get? b = some o → b ≠ dx := fun z => Nat.ne_of_lt (Nat.lt_of_lt_of_le (Heap.lt_size z) dn)
  have step : Un X.fs [] H (upd (upd H dx (exd dx [(f, y)])) a (exo a C (some dx))) hp h2 := {
    keep := fun b o z m _ _ => k b o (notA m) z
    slot := fun b o z m _ _ => ⟨o.slots, k b o (notA m) z⟩
    free := fun b o z m _ => (upd_ne (notA m)).trans ((upd_ne (notD z)).trans m)
    there := fun b o z _ => (Classical.em (b = a)).elim (fun c => ⟨_, c ▸ hx⟩) fun c => ⟨o, k b o c z⟩
    tups := fun b xs z => (upd_ne (at_ne e z exo_tup)).trans ((upd_ne (ne_of_none z free)).trans z)
    frzs := fun b o v z => (upd_ne (at_ne e z exo_frz)).trans ((upd_ne (ne_of_none z free)).trans z)
    tbls := fun b ps z => ⟨#[], by rw [upd_ne (at_ne e z exo_tbl), upd_ne (ne_of_none z free), z]; simp⟩ }
  refine h dx _ free ne (I.un (t' := t2) step fun b o z => ?_)
  by_cases ba : b = a
  · subst ba
    rw [upd_same] at z
    cases z
    exact exo_ok hx
  by_cases bd : b = dx
  · subst bd
    rw [upd_ne ba, upd_same] at z
    cases z
    exact exd_ok hn (relO_put (fs := []) ry fun _ => trivial)
  · rw [upd_ne ba, upd_ne bd] at z
    refine (I.hok b o z).stay (fun c v hc zz => k c v ?_ zz) (fun c hc => (upd_ne (at_ne e hc exo_own)).trans ((upd_ne (ne_of_none hc free)).trans hc)) fun c xs hc => (upd_ne (at_ne e hc exo_tup)).trans ((upd_ne (ne_of_none hc free)).trans hc)
    exact hc.elim (fun z => z ▸ ba) fun z => at_ne e z exo_own
/-- B.__init__(self, ..): nothing of it is told -/
theorem err_base {us : List Value} {Q : Value → Shared → Prop} (T : ErrC X.K C B mk ini up) (I : Inv X pins σ H s) (e : H a = some (exo a C none)) (few : us.length ≤ sizeLine) (h : ∀ s', Inv X pins σ H s' → Q .none s') :
    wpAny (model X.prog X.w) Ar (call (.builtin ini) (.ref a :: us)) Q E s := by
  obtain ⟨nm, q, N, bs, bm, sn, sub, ab, col, dd, k0, k1, k2, k3, k5, hC, hT, _⟩ := T.cls
  obtain ⟨t1, ho⟩ := exo_at I.hok e
  obtain ⟨hp, gs, dr, n, os⟩ := s
  refine wpAny_call (PySem.HandSPX.init_base T.low hT (I.kIn _ _ hC) ho few fun h2 t2 k hx => ?_)
  have same : upd H a (exo a C none) = H := funext fun b => by
    by_cases c : b = a
    · rw [c, upd_same, e]
    · exact upd_ne c
  exact h _ (same ▸ I.write (t' := n) (x := a) (e := a) (o := exo a C none) (by rw [e]; trivial) (.inl rfl) k ⟨_, hx⟩ (exo_ok hx))
end
end V2

namespace V2
open PySem PySem.Spec PyProof.Rows L2
/-- B.__init__(self, ..) over an error of the class at C that has no field yet -/
def tIni (C : Addr) (ta : TA) : TE := fun σ H Q => ta σ H fun vs H1 => ∃ a ws, vs = .ref a :: ws ∧ ws.length ≤ 1000 ∧ H1 a = some (exo a C none) ∧ Q .non H1
/-- self.f = e, its first field -/
def tLay (C : Addr) (f : Str) (to te : TE) : TS := fun D σ H => te σ H fun y H1 => to σ H1 fun x H2 => ∃ a, x = .ref a ∧ H2 a = some (exo a C none) ∧ ∀ dx, H2 dx = none → dx ≠ a → D.nx σ (upd (upd H2 dx (exd dx [(f, y)])) a (exo a C (some dx)))
/-- what such an __init__ does -/
def spLay (C : Addr) (f : Str) : Sp := fun vs H Q _ => ∃ a y, vs = [.ref a, y] ∧ H a = some (exo a C none) ∧ ∀ dx, H dx = none → dx ≠ a → Q .non (upd (upd H dx (exd dx [(f, y)])) a (exo a C (some dx)))
/-- C(e), of such an error: what is raised -/
def tErr (C : Addr) (f : Str) (te : TE) : L2.St → Hp → XK → Prop := fun σ H Q => te σ H fun y H1 => ∀ d, H1 d = none → Q (.ref C) (some d) (upd H1 d (.xd [(f, y)]))
section
variable {X : Cx} {o e : Expr} {es : List Expr} {to te : TE} {ta : TA} {f b : Str} {p p' p1 p2 pos : Pos} {C : Addr} {B mk ini : String} {up : List Value} {M : Str}
theorem ini_run {pins : List (Addr × Obj)} {s : Shared} {σ : L2.St} {H : Hp} {Q : VK} {E : Value → Shared → Prop} (T : ErrC X.K C B mk ini up) (ha : PA X (e :: es) ta) (I : Inv X pins σ H s) (h : tIni C ta σ H Q)
    (he : starEach (e :: es) X.env = (false, eval e X.env) :: starEach es X.env) (hpl : (backTo pos (starEach es X.env)).any (·.1) = false) (hE : E = X.xe) :
    wpAny (model X.prog X.w) X.A (callWith pos (Value.builtin ini) [] (backTo pos (starEach (e :: es) X.env)) []) (fun u s' => ∃ v H', Inv X pins σ H' s' ∧ RelV v u ∧ Q v H') E s := by
  subst hE
  refine PyProof.Rows.callWith_method1 (thn (ha.run pos pins _ σ H _ I h) fun us s1 ⟨vs, H1, I1, r1, a, ws, ev, hl, ea, q⟩ => ?_) he hpl
  subst ev
  cases r1 with
  | @cons _ u0 _ ur ra rw' =>
    obtain rfl : u0 = Value.ref a := ra
    have few : ur.length ≤ sizeLine := by
      rw [← Paired.length rw', sizeLine_eq]
      omega
    exact err_base T I1 ea few fun s' J => ⟨.non, H1, J, rfl, q⟩
/-- B a built-in class of errors -/
theorem pe_iniB {pl : Sem Bool} (T : ErrC X.K C B mk ini up) (hg : Gl X b) (hm : X.mg b = none) (bt : bootBuiltins b = some (.type B)) (n1 : b ≠ "__name__") (n2 : (b == ("__debug__" : Str)) = false) (ty : typeOf (.type B) = pure (.type "type")) (st : Manifest.isStub B = false)
    (fc : PySem.W.findCls X.K (.type B) (.type "type") "__init__" = some (.val (.builtin ini))) (hh : PySem.W.handedIn (.builtin ini) = true) (ha : PA X (e :: es) ta)
    (hc : eval (.Call (.Attribute (.Name b p1) "__init__" p2) (e :: es) [] pos) X.env = (eval (.Name b p1) X.env >>= fun u => standAt p2.atName >>= fun _ => holding [u] (getMethod u "__init__" pl) >>= fun q => callWith pos q.1 q.2 (backTo pos (starEach (e :: es) X.env)) (backToKw pos (keywordEach [] X.env))) := by rfl)
    (he : starEach (e :: es) X.env = (false, eval e X.env) :: starEach es X.env := by rfl) (hpl : (backTo pos (starEach es X.env)).any (·.1) = false := by rfl) :
    PE X (.Call (.Attribute (.Name b p1) "__init__" p2) (e :: es) [] pos) (tIni C ta) := ⟨fun pins s σ H Q I h => by
  refine PySem.W.methodCall_KW (ld_blt I hg hm bt ?_ n1 n2) hc
  obtain ⟨m, fr⟩ := I.fr
  exact PySem.W.method_type fr I.ok.mod.kin ty st fc hh (ini_run T ha (I.tok _) h he hpl rfl)⟩
/-- M an own class above, which has the __init__ of B -/
theorem pe_iniM {pl : Sem Bool} {CM : Addr} (T : ErrC X.K C B mk ini up) (hg : Gl X M) (hm : X.mg M = some (.ref CM)) (n2 : (M == ("__debug__" : Str)) = false) (hs : PySem.W.specialIn X.K (.ref CM) "__getattribute__" = some (some (.builtin "type.__getattribute__"))) (hr : PySem.W.readsIn X.K CM (.type "type") = true)
    (fc : PySem.W.findCls X.K (.ref CM) (.type "type") "__init__" = some (.val (.builtin ini))) (hh : PySem.W.handedIn (.builtin ini) = true) (ha : PA X (e :: es) ta)
    (hc : eval (.Call (.Attribute (.Name M p1) "__init__" p2) (e :: es) [] pos) X.env = (eval (.Name M p1) X.env >>= fun u => standAt p2.atName >>= fun _ => holding [u] (getMethod u "__init__" pl) >>= fun q => callWith pos q.1 q.2 (backTo pos (starEach (e :: es) X.env)) (backToKw pos (keywordEach [] X.env))) := by rfl)
    (he : starEach (e :: es) X.env = (false, eval e X.env) :: starEach es X.env := by rfl) (hpl : (backTo pos (starEach es X.env)).any (·.1) = false := by rfl) :
    PE X (.Call (.Attribute (.Name M p1) "__init__" p2) (e :: es) [] pos) (tIni C ta) := ⟨fun pins s σ H Q I h => by
  refine PySem.W.methodCall_KW (ld_glob I hg hm ?_ n2) hc
  exact PySem.W.method_cls I.kIn hs (PySem.W.cls_value I.kIn hr fc hh (ini_run T ha (I.tok _) h he hpl rfl))⟩
theorem ps_lay (T : ErrC X.K C B mk ini up) (no : PySem.W.findIn X.K (.ref C) f = some none) (ho : PE X o to) (he : PE X e te) (hs : swapsWith e (some (.Attribute o f p')) pos.line X.env = pure false := by rfl) : PS X (.Assign [.Attribute o f p'] e pos) (tLay C f to te) :=
  ⟨fun pins s σ H D I h => plainObj_wpAny_Assign_Attribute (thn (he.run pins s σ H _ I h) fun v s1 ⟨y, H1, I1, r1, q1⟩ => thn (ho.run pins s1 σ H1 _ I1 q1) fun u s2 ⟨x, H2, I2, r2, a, ex, ea, q⟩ => by
    subst ex
    obtain rfl : u = Value.ref a := r2
    exact err_store T I2 ea no r1 fun dx s' n ne J => ⟨σ, _, J, q dx n ne⟩) hs⟩
/-- .. and the whole of it -/
theorem lay_body {σ : L2.St} {N : List Str} {a : Addr} {y : V} {s : V} {H : Hp} {Q : VK} (e : H a = some (exo a C none)) (h : ∀ dx, H dx = none → dx ≠ a → Q .non (upd (upd H dx (exd dx [(f, y)])) a (exo a C (some dx)))) (h0 : σ[0]? = some (some (.ref a))) (h1 : σ[1]? = some (some y)) :
    tSeq (tDrop (tIni C (tCons (tVar 0) (tCons (tC s) tNil)))) (tLay C f (tVar 0) (tVar 1)) ⟨fun _ H' => Q .non H', Q, fun _ _ => False, fun _ _ => False⟩ σ H :=
  ⟨_, h0, a, [s], rfl, by show 1 ≤ 1000; decide, e, _, h1, _, h0, a, rfl, e, h⟩
end
end V2
namespace V2
open PySem PySem.Spec PyProof.Rows L2
section
variable {X : Cx} {e : Expr} {te : TE} {f : Str} {p pos : Pos} {C : Addr} {B mk ini : String} {up : List Value}
theorem laid_eq {H1 : Hp} {a d : Addr} {u : V} (n : H1 a = none) (nd : H1 d = none) (ne : d ≠ a) : upd (del (upd (upd (upd H1 a (exo a C none)) d (exd d [(f, u)])) a (exo a C (some d))) a) d (.xd [(f, u)]) = upd H1 d (.xd [(f, u)]) := funext fun b => by
  by_cases bd : b = d
  · rw [bd, upd_same, upd_same]
  · rw [upd_ne bd, upd_ne bd]
    by_cases ba : b = a
    · rw [ba, del_same, n]
    · rw [del_ne ba, upd_ne ba, upd_ne bd, upd_ne ba]
/-- C(e) in raise, C's __init__ laying its field -/
theorem pmk_err {CX : CXT} {x : Str} {fI : Addr} {k : Nat} {fd : FuncData} {ps : List Str} (T : ErrC X.K C B mk ini up) (iC : PySem.W.findIn X.K (.ref C) "__init__" = some (some (.ref fI))) (tI : PySem.W.typeIn X.K (.ref fI) = some (.type "function"))
    (F : FnOk X.prog X.w X.K X.mg X.base CX k fI fd ps (spLay C f)) (hr : Room (k + 1) X.A) (hb : Binds X.K fd ps []) (hx : Passes CX X (fun _ _ _ => False)) (hg : Gl X x) (hm : X.mg x = some (.ref C)) (pa : PA X [e] (tCons te tNil)) (n2 : (x == ("__debug__" : Str)) = false := by decide)
    (he : starEach [e] X.env = (false, eval e X.env) :: starEach [] X.env := by rfl) (hpl : (backTo pos (starEach [] X.env)).any (·.1) = false := by rfl) : PMk X (.Call (.Name x p) [e] [] pos) (tErr C f te) := by
  intro pins s σ H Q I h
  obtain ⟨nm, q, N, bs, bm, sn, sub, ab, col, dd, k0, k1, k2, k3, k5, hC, hT, _⟩ := T.cls
  refine wpAny_Call_Name_kw (ld_glob I hg hm ?_ n2)
  refine PySem.W.callWith_K (h₀ := X.base) I.ok.mod.kin T.kC (thn (pa.run pos pins s σ H (fun vs H1 => ∃ y, vs = [y] ∧ ∀ d, H1 d = none → Q (.ref C) (some d) (upd H1 d (.xd [(f, y)]))) I (show te σ H _ from ?_)) fun us s1 ⟨vs, H1, I1, r1, y, ev, q1⟩ => ⟨I1.kIn, ?_⟩) he hpl
  · exact (show (fun y H1 => ∀ d, H1 d = none → Q (.ref C) (some d) (upd H1 d (.xd [(f, y)]))) = (fun y H1 => ∃ z, [y] = [z] ∧ ∀ d, H1 d = none → Q (.ref C) (some d) (upd H1 d (.xd [(f, z)]))) from by
      funext y H1
      exact propext ⟨fun h => ⟨y, rfl, h⟩, fun ⟨z, e, h⟩ => by cases e; exact h⟩) ▸ h
  subst ev
  show wpAny _ _ (call (.ref C) us) _ _ _
  obtain ⟨hp, g, dr, tk, os⟩ := s1
  let m := hp.objs.size + 1
  have free : H1 m = none := I1.hok.fresh (Nat.le_succ _)
  have kk : ∀ b o, hp.get? b = some o → ((hp.push (PySem.W.kdv_tup us)).push (PySem.HandSPX.excO C hp.objs.size)).get? b = some o := fun b o e => Heap.get?_push_of_some _ (Heap.get?_push_of_some _ e)
  have got : ((hp.push (PySem.W.kdv_tup us)).push (PySem.HandSPX.excO C hp.objs.size)).get? (hp.objs.size + 1) = some (PySem.HandSPX.excO C hp.objs.size) := by heap_get
  have I2 : Inv X pins σ (upd H1 m (exo m C none)) ⟨(hp.push (PySem.W.kdv_tup us)).push (PySem.HandSPX.excO C hp.objs.size), g, dr, tk, os⟩ := I1.laid (t' := tk) (a := m) (o := exo m C none) kk (Nat.le_succ _) (exo_ok got)
  have r2 : Vals [V.ref m, y] (Value.ref m :: us ++ []) := by rw [List.append_nil]; exact Paired.cons (show RelV (.ref m) (.ref m) from rfl) r1
  have few : us.length ≤ sizeLine := by
    rw [← Paired.length r1]
    show 1 ≤ sizeLine
    decide
  have sp0 : spLay C f [V.ref m, y] (upd H1 m (exo m C none)) (fun v H2 => v = .non ∧ ∃ d, H1 d = none ∧ d ≠ m ∧ H2 = upd (upd (upd H1 m (exo m C none)) d (exd d [(f, y)])) m (exo m C (some d))) (fun _ _ _ => False) :=
    ⟨m, y, rfl, upd_same, fun dx nd ne => ⟨rfl, dx, by rw [upd_ne ne] at nd; exact nd, ne, rfl⟩⟩
  have len : (Value.ref m :: us ++ []).length = ps.length := r2.length.symm.trans (F.len _ _ _ _ sp0)
  refine wpAny_call (PySem.HandSPX.call_own T.low hT (I1.kIn _ _ hC) (PySem.W.looks_findIn I1.kIn iC) (fun self => PySem.W.bind_fn I1.kIn self tI) few
    (codeAny_mono (F.run _ X.stack _ _ ⟨Value.ref m :: us, []⟩ (Value.ref m :: us ++ []) _ _ (fun _ _ _ => False) (hr.make C us []) (I2.env0.make C us []) (hb _ (Value.ref m :: us) I2.kIn len) r2 sp0) fun r s' hq => ?_))
  cases r with
  | error er => exact hx pins σ _ _ er s' I2 hq
  | ok fl =>
    cases fl with
    | ret u =>
      obtain ⟨v, H2, os2, bare2, un2, hok2, rv, ev, d, nd, ne, e2⟩ := hq
      subst ev e2
      obtain ⟨h2, g2, d2, t2, os'⟩ := s'
      refine ⟨rv, mk_end (raises_own T.exC T.tyC) I1 (Nat.le_succ _) kk un2 hok2 os2 bare2 upd_same (by rw [upd_ne ne, upd_same]) nd ?_⟩
      rw [laid_eq free nd ne]
      exact q1 d nd
    | next => exact False.elim hq
    | brk => exact False.elim hq
    | cont => exact False.elim hq
end
end V2

set_option Elab.async false
set_option linter.all false
set_option maxRecDepth 100000
set_option maxHeartbeats 1000000
namespace V2
open PySem PySem.Spec PyProof.Rows L2
/-! ### promises about data that may raise an error of the class at Ce, with a field f -/
def WpF (K : PySem.W.Frag) (M : Addr → Prop) (E : XK) (C : Addr) (f : Str) (PX : PyData → Prop) : Hp → Prop := fun H => ∀ d v y, H d = none → Dt K (hid M H) v y → PX y → E (.ref C) (some d) (upd H d (.xd [(f, v)]))
def spE {γ : Type} (K : PySem.W.Frag) (Ce : Addr) (f : Str) (pre : γ → Wd → List A → Prop) (post : γ → A → Prop) (postX : γ → PyData → Prop) : Sp := fun us H Q E =>
  ∃ (g : γ) (W : Wd) (as : List A), W.J H ∧ pre g W as ∧ IsAll K W.M H us as ∧ (∀ v H' a, Fr W H H' → post g a → Is K W.M H' v a → Q v H') ∧ ∀ H', Fr W H H' → WpF K W.M E Ce f (postX g) H'
def BodyE {γ : Type} (K : PySem.W.Frag) (Ce : Addr) (f : Str) (N : List Str) (E : XK) (pre : γ → Wd → List A → Prop) (post : γ → A → Prop) (postX : γ → PyData → Prop) (t : TS) : Prop :=
  ∀ (g : γ) (W : Wd) (as : List A), pre g W as → YS K (SW.of W) () (WpF K W.M E Ce f (postX g)) (fun _ => True) t (startE N as) (fun _ _ => post g (.d .none)) (fun _ a => post g a) NoS NoS
section
variable {γ S : Type} {K : PySem.W.Frag} {Ce C : Addr} {f n : Str} {pre : γ → Wd → List A → Prop} {post : γ → A → Prop} {postX : γ → PyData → Prop} {Z : SW S} {s : S} {W : Wd} {Δ : Env} {ta : TA} {te : TE} {E : XK}
variable {Wp : Hp → Prop} {X : S → Prop} {N : S → Env → Prop} {Rt : S → A → Prop} {Bk Ct : S → Env → Prop}
theorem bodyE_run {L : List Str} {t : TS} (h : BodyE K Ce f L E pre post postX t) {us : List V} {H : Hp} {Q : VK} (p : spE K Ce f pre post postX us H Q E) : t ⟨fun _ H' => Q .non H', Q, fun _ _ => False, fun _ _ => False⟩ (L2.start L us) H := by
  obtain ⟨g, W, as, j, pr, i, q, qx⟩ := p
  exact h g W as pr _ H j (stOk_start i) (fun H' u f _ => qx H' f) _ (fun σ' H' u Δ' f _ ps => q _ H' _ f ps .non) (fun v H' u a f ps i' => q v H' a f ps i') (fun _ _ _ _ _ _ z => z.elim) fun _ _ _ _ _ _ z => z.elim
theorem spE_len {ps : List Str} (ar : ∀ g W as, pre g W as → as.length = ps.length) {us : List V} {H : Hp} {Q : VK} (p : spE K Ce f pre post postX us H Q E) : us.length = ps.length := by
  obtain ⟨g, W, as, j, pr, i, _⟩ := p
  rw [i.length]
  exact ar g W as pr
theorem okE {P : Program} {w : World} {mg : Str → Option Value} {base : Heap} {k : Nat} {fa : Addr} {fd : FuncData} {ps L : List Str} {x qual : Str} {st : Stmt} (F : Fun K x qual st fa fd) (S : FnScope L ps (defScope st)) (ar : ∀ g W as, pre g W as → as.length = ps.length)
    (body : ∀ (cdv : Value) (Ar : Around) (outer : List PySem.Env) (s : Shared) (H : Hp) (E : XK), Room k (Ar.deeper (envOfC qual (defScope st) s.heap.objs.size fa cdv)) →
      ∃ t, PSs (cxOf (CX P w) P w K mg base L qual (defScope st) fa cdv Ar outer s H E) (defBody st) t ∧ BodyE K Ce f L E pre post postX t) : FnOk P w K mg base (CX P w) (k + 1) fa fd ps (spE K Ce f pre post postX) :=
  F.okX S (fun us H Q E p => spE_len ar p) fun cdv Ar outer s H us Q E hr h => by
    obtain ⟨t, ht, hb⟩ := body cdv Ar outer s H E hr
    exact ⟨t, ht, bodyE_run hb h⟩
/-- raising such an error in a world that has grown out of one with M -/
theorem ys_raiseF {M : Addr → Prop} {PX : PyData → Prop} {kx : L2.St → Value → Option Addr → Hp → Prop} (hw : ∀ H, Wp H → WpF K M E C f PX H) (hX : X s) (le : ∀ a, M a → Z.M a) (hk : ∀ σ c d H, E c d H → kx σ c d H) (he : XE K (Z.at s) te Δ fun a => ∃ y, a = .d y ∧ PX y) :
    YS K Z s Wp X (fun _ σ H => tErr C f te σ H (kx σ)) Δ N Rt Bk Ct := fun σ H j st wx D _ _ _ _ =>
  he σ H j st _ fun v H1 a f1 ⟨y, e, px⟩ i d nd => by
    subst e
    refine hk _ _ _ _ (hw H1 (wx H1 s f1 hX) d v y nd ?_ px)
    refine Dt.ext (fun b o e => ?_) y v i
    by_cases m : Z.M b
    · have e' : hid Z.M H1 b = some o := e
      rw [hid_in m] at e'
      cases e'
    · have e' : hid Z.M H1 b = some o := e
      rw [hid_out m] at e'
      rw [hid_out fun z => m (le b z)]
      exact e'
/-- a call that does not raise here -/
theorem xe_callE (g : γ) {as : List A} (h : XAs K W ta Δ as) (p : pre g W as) (nx : ∀ y, ¬ postX g y) : XE K W (tCall (spE K Ce f pre post postX) [] E ta) Δ (post g) := fun σ H j st Q q =>
  h σ H j st _ fun us H1 as' f1 e i1 => by
    subst e
    rw [List.append_nil]
    exact ⟨g, W, as', f1.j, p, i1, fun v H' a f r i => q v H' a (f1.trans f) r i, fun H' f d v y _ _ px => absurd px (nx y)⟩
end
/-! ### try: return f(..) except C as e: suite -/
section
variable {γ : Type} {K : PySem.W.Frag} {Ce : Addr} {f n : Str} {pre : γ → Wd → List A → Prop} {post : γ → A → Prop} {postX : γ → PyData → Prop} {W : Wd} {Δ : Env} {ta : TA} {te : TE} {N : Env → Prop} {Rt : A → Prop} {Bk Ct : Env → Prop} {ts : Addr → Value → Option Addr → TS} {Wout : WX}
/-- what holds where an error's field stands at d -/
abbrev Wd.err (W : Wd) (d : Addr) (f : Str) (v : V) : Wd := W.add d (· = .xd [(f, v)])
theorem err_back {H H' : Hp} {d : Addr} {v : V} (n : H d = none) (g : Fr (W.err d f v) (upd H d (.xd [(f, v)])) H') : Fr W H H' :=
  ⟨fun a o nm e => g.keep a o (fun z => z.elim nm (ne_of_none e n)) (by rw [upd_ne (ne_of_none e n)]; exact e), g.j.1⟩
theorem xs_tryretE {i : Nat} (g : γ) {as : List A} (ha : XAs K W ta Δ as) (p : pre g W as) (ex : PySem.W.exmOne K (.ref Ce) (.ref Ce) = some true) (hn : ∀ a, post g a → Rt a)
    (hx : ∀ q d v y, postX g y → ¬ W.M d → XS K (W.err d f v) (ts q (.ref Ce) (some d)) (Δ.set i (some (.w (.ref q) [v] [y]))) (fun Δ' => N (Δ'.set i none)) Rt (fun Δ' => Bk (Δ'.set i none)) (fun Δ' => Ct (Δ'.set i none))) :
    XS K W (fun D σ H => tRet (tCall (spE K Ce f pre post postX) [] (WE (wAs K (.ref Ce) i ts Wout D) σ) ta) D σ H) Δ N Rt Bk Ct := fun σ H j st D nx rt bk ct =>
  ha σ H j st _ fun us H1 as' f1 e i1 => by
    subst e
    rw [List.append_nil]
    refine ⟨g, W, as', f1.j, p, i1, fun v H' a f r i => rt v H' a (f1.trans f) (hn a r) i, fun H2 f2 d v y nd dv px => ?_⟩
    refine ⟨true, ex, fun _ q hq => ?_, fun z => nomatch z⟩
    have f12 := f1.trans f2
    have md : ¬ W.M d := W.fresh f2.j nd
    have jj : (W.err d f v).J (upd H2 d (.xd [(f, v)])) := ⟨W.loc H2 _ (fun a m => upd_ne fun z => md (z ▸ m)) f2.j, _, upd_same, rfl⟩
    have st2 : StOk K (W.err d f v).M (upd H2 d (.xd [(f, v)])) σ Δ := StOk.add f2.j (st.fr f12) nd
    have iv : Is K (W.err d f v).M (upd H2 d (.xd [(f, v)])) (.ref q) (.w (.ref q) [v] [y]) := ⟨rfl, .cons (Is.add (a := .d y) (φ := (· = .xd [(f, v)])) dv nd) .nil⟩
    exact hx q d v y px md _ _ jj (st2.set i iv) _ (fun σ' H' Δ' g s' z => nx _ H' _ (f12.trans (err_back nd g)) ((s'.ext hid_add_le).unset i none) z) (fun v' H' a g r i => rt v' H' a (f12.trans (err_back nd g)) r (i.ext hid_add_le))
      (fun σ' H' Δ' g s' z => bk _ H' _ (f12.trans (err_back nd g)) ((s'.ext hid_add_le).unset i none) z) fun σ' H' Δ' g s' z => ct _ H' _ (f12.trans (err_back nd g)) ((s'.ext hid_add_le).unset i none) z
/-- e.f -/
theorem xe_xf {q d : Addr} {v : V} {y : PyData} (hv : XV K (W.err d f v) te Δ (.w (.ref q) [v] [y])) : XV K (W.err d f v) (tXf q (.ref Ce) (some d) Ce f te) Δ (.d y) := fun σ H j st Q k =>
  hv σ H j st _ fun u H1 a f1 e i1 => by
    subst e
    obtain ⟨e, dd⟩ := i1
    subst e
    obtain ⟨u, hu, eu⟩ := f1.j.2
    subst eu
    cases dd with
    | cons d1 d2 => exact ⟨rfl, rfl, d, _, v, rfl, hu, by simp [List.lookup], k v H1 _ f1 rfl d1⟩
/-- isinstance(e, c) -/
theorem cx_isEw {D q : Addr} {vs : List V} {ds : List PyData} {c : V} {cv : Value} {b : Bool} (hc : ∀ u, RelV c u → u = cv) (hk : PySem.W.kitOne K (.ref D) cv = some b) : CX1 K W (rIsE K D q) [.w (.ref q) vs ds, .v c] (· = .d (.bool b)) := fun us H j i Q k => by
  cases i with
  | cons i1 i2 =>
    cases i2 with
    | cons i2 i3 =>
      cases i3
      obtain ⟨e1, _⟩ := i1
      have e2 : _ = c := i2
      subst e1 e2
      exact ⟨_, cv, b, rfl, hc, hk, k _ H _ (.refl j) rfl (.bl b)⟩
end
end V2

set_option Elab.async false
set_option linter.all false
set_option maxRecDepth 100000
set_option maxHeartbeats 2000000
namespace V2
open PySem PySem.Spec PyProof.Rows L2
/-! ### a list of one's own, and one of lists of one's own, that a loop grows -/
inductive NestD (K : PySem.W.Frag) (M : Addr → Prop) (H : Hp) : List (Addr × List V) → List (List PyData) → Prop
  | nil : NestD K M H [] []
  | cons {x rs e es} : DtAll K (hid M H) x.2 e → NestD K M H rs es → NestD K M H (x :: rs) (e :: es)
section
variable {K : PySem.W.Frag} {M M' : Addr → Prop} {H H' : Hp}
theorem NestD.ext (s : Same (hid M H) (hid M' H')) : ∀ {rs es}, NestD K M H rs es → NestD K M' H' rs es
  | _, _, .nil => .nil
  | _, _, .cons h t => .cons (DtAll.ext s _ _ h) (t.ext s)
theorem NestD.snoc {x : Addr × List V} {e : List PyData} (h : DtAll K (hid M H) x.2 e) : ∀ {rs es}, NestD K M H rs es → NestD K M H (rs ++ [x]) (es ++ [e])
  | _, _, .nil => .cons h .nil
  | _, _, .cons a t => .cons a (t.snoc h)
theorem NestD.last {e : List PyData} : ∀ {es rs}, NestD K M H rs (es ++ [e]) → ∃ rs' x, rs = rs' ++ [x] ∧ NestD K M H rs' es ∧ DtAll K (hid M H) x.2 e
  | [], _, .cons h .nil => ⟨[], _, rfl, .nil, h⟩
  | _ :: es, _, .cons h t => by
    obtain ⟨rs', x, e, n, d⟩ := NestD.last (es := es) t
    exact ⟨_ :: rs', x, by rw [e]; rfl, .cons h n, d⟩
theorem NestD.length : ∀ {rs es}, NestD K M H rs es → rs.length = es.length
  | _, _, .nil => rfl
  | _, _, .cons _ t => congrArg (· + 1) t.length
theorem NestD.lists {H2 : Hp} (s : Same (hid M H) H2) : ∀ {rs es}, (∀ x ∈ rs, H2 x.1 = some (.lst x.2)) → NestD K M H rs es → DtAll K H2 (rs.map fun x => V.ref x.1) (es.map PyData.list)
  | _, _, _, .nil => .nil
  | _, _, h, .cons d t => .cons (.lst (h _ List.mem_cons_self) (DtAll.ext s _ _ d)) (t.lists s fun x m => h x (List.mem_cons_of_mem _ m))
end
/-- what may not change but by the loop's own deeds -/
def nestM (W : Wd) (p q : Addr) (rs : List (Addr × List V)) : Addr → Prop := fun a => W.M a ∨ a = p ∨ a = q ∨ a ∈ rs.map (·.1)
def nestW (W : Wd) (p q : Addr) (vs : List V) (rs : List (Addr × List V)) : Wd where
  M := nestM W p q rs
  J H := W.J H ∧ H p = some (.lst vs) ∧ H q = some (.lst (rs.map fun x => V.ref x.1)) ∧ ∀ x ∈ rs, H x.1 = some (.lst x.2)
  live H a j m := by
    rcases m with m | rfl | rfl | m
    · exact W.live H a j.1 m
    · rw [j.2.1]; nofun
    · rw [j.2.2.1]; nofun
    · obtain ⟨x, hx, rfl⟩ := List.mem_map.mp m
      rw [j.2.2.2 x hx]; nofun
  loc H H' e j := ⟨W.loc H H' (fun a m => e a (.inl m)) j.1, (e p (.inr (.inl rfl))).trans j.2.1, (e q (.inr (.inr (.inl rfl)))).trans j.2.2.1, fun x hx => (e x.1 (.inr (.inr (.inr (List.mem_map.mpr ⟨x, hx, rfl⟩))))).trans (j.2.2.2 x hx)⟩
structure Nest (K : PySem.W.Frag) (W : Wd) (kp kq : Nat) (H0 H : Hp) (σ : L2.St) (Δ : Env) (ds : List PyData) (es : List (List PyData)) : Prop where
  fr : Fr W H0 H
  it : ∃ p q vs rs, H0 p = none ∧ H0 q = none ∧ (∀ x ∈ rs, H0 x.1 = none) ∧ (p :: q :: rs.map (·.1)).Nodup ∧ (nestW W p q vs rs).J H ∧ ¬ W.M p ∧ ¬ W.M q ∧ (∀ x ∈ rs, ¬ W.M x.1) ∧
    DtAll K (hid (nestM W p q rs) H) vs ds ∧ NestD K (nestM W p q rs) H rs es ∧ σ[kp]? = some (some (.ref p)) ∧ σ[kq]? = some (some (.ref q)) ∧ StOk K (nestM W p q rs) H σ Δ
section
variable {K : PySem.W.Frag} {W : Wd} {kp kq : Nat} {H0 H H' : Hp} {σ : L2.St} {Δ : Env} {ds : List PyData} {es : List (List PyData)} {D : Ends} {te : TE} {tt : TT} {ts tu tb : TS}
theorem nest_later {p q : Addr} {vs : List V} {rs : List (Addr × List V)} (fr : Fr W H0 H) (n0 : H0 p = none) (n1 : H0 q = none) (n2 : ∀ x ∈ rs, H0 x.1 = none) (f : Fr (nestW W p q vs rs) H H') : Fr W H0 H' :=
  ⟨fun a o nm e => f.keep a o (fun z => by
    rcases z with z | z | z | z
    · exact nm z
    · rw [z, n0] at e; cases e
    · rw [z, n1] at e; cases e
    · obtain ⟨x, hx, rfl⟩ := List.mem_map.mp z
      rw [n2 x hx] at e; cases e) (fr.keep a o nm e), f.j.1⟩
/-- lead, ends = [], [] -/
theorem nest_start (ne : kp ≠ kq) (f0 : Fr W H0 H) (s : StOk K W.M H σ Δ) (lp : kp < σ.length) (lq : kq < σ.length)
    (q : ∀ u v H', Nest K W kp kq H0 H' ((σ.set kp (some u)).set kq (some v)) ((Δ.set kp none).set kq none) [] [] → D.nx ((σ.set kp (some u)).set kq (some v)) H') : tPar kp kq (tCons (tLst tNil) (tCons (tLst tNil) tNil)) D σ H := by
  refine ⟨by decide, fun p np => ⟨by decide, fun b nb => ⟨_, _, rfl, ?_⟩⟩⟩
  have back : ∀ {a : Addr}, H a = none → H0 a = none := fun {a} n => by
    cases z : H0 a with
    | none => rfl
    | some o =>
      rw [f0.keep a o (W.fresh f0.j n) z] at n
      cases n
  have nbp : b ≠ p := fun z => by rw [z, upd_same] at nb; cases nb
  have nb' : H b = none := by rw [upd_ne nbp] at nb; exact nb
  have fa : Fr W H (upd H p (.lst [])) := .new f0.j np
  have fb : Fr W (upd H p (.lst [])) (upd (upd H p (.lst [])) b (.lst [])) := .new fa.j nb
  have e1 : (upd (upd H p (.lst [])) b (.lst [])) p = some (.lst []) := by rw [upd_ne nbp.symm, upd_same]
  refine q _ _ _ ⟨f0.trans (fa.trans fb), p, b, [], [], back np, back nb', (fun x h => nomatch h), by simp [nbp.symm], ⟨fb.j, e1, upd_same, fun x h => nomatch h⟩, W.fresh f0.j np, W.fresh f0.j nb', (fun x h => nomatch h), .nil, .nil, ?_, ?_, ?_⟩
  · rw [List.getElem?_set_ne ne.symm, List.getElem?_set_self lp]
  · rw [List.getElem?_set_self (by rw [List.length_set]; exact lq)]
  · refine StOk.unset (StOk.unset (s.ext fun a o e => ?_) kp _) kq _
    by_cases m : W.M a
    · rw [hid_in m] at e; cases e
    · rw [hid_out m] at e
      have n1 : a ≠ p := ne_of_none e np
      have n2 : a ≠ b := ne_of_none e nb'
      rw [hid_out (show ¬ nestM W p b [] a from fun z => by rcases z with z | z | z | z <;> first | exact m z | exact n1 z | exact n2 z | exact nomatch z), upd_ne n2, upd_ne n1]
      exact e
/-- a test -/
theorem nest_if {B : Bool → Prop} (h : Nest K W kp kq H0 H σ Δ ds es) (ht : ∀ p q vs rs, XT K (nestW W p q vs rs) tt Δ B) (h1 : ∀ H', B true → Nest K W kp kq H0 H' σ Δ ds es → ts D σ H') (h2 : ∀ H', B false → Nest K W kp kq H0 H' σ Δ ds es → tu D σ H') : tIfS tt ts tu D σ H := by
  obtain ⟨p, q, vs, rs, n0, n1, n2, nd, j, mp, mq, mr, dd, de, sp, sq, st⟩ := h.it
  refine ht p q vs rs σ H j st _ fun b H1 f hb => ?_
  have o : Nest K W kp kq H0 H1 σ Δ ds es := ⟨nest_later h.fr n0 n1 n2 f, p, q, vs, rs, n0, n1, n2, nd, f.j, mp, mq, mr, DtAll.ext f.same _ _ dd, de.ext (M := nestM W p q rs) (M' := nestM W p q rs) f.same, sp, sq, st.ext (M := nestM W p q rs) (M' := nestM W p q rs) f.same⟩
  cases b with
  | true => exact iteT (h1 H1 hb o)
  | false => exact iteF (h2 H1 hb o)
/-- if ends -/
theorem nest_any (h : Nest K W kp kq H0 H σ Δ ds es) (h1 : es ≠ [] → ts D σ H) (h2 : es = [] → tu D σ H) : tIfS (fun σ H Q => tVar kq σ H fun x H' => ∃ k, TruV K x H' k ∧ Q k H') ts tu D σ H := by
  obtain ⟨p, q, vs, rs, n0, n1, n2, nd, j, mp, mq, mr, dd, de, sp, sq, st⟩ := h.it
  refine ⟨_, sq, _, .inl ⟨_, .inl (.inl j.2.2.1), rfl⟩, ?_⟩
  cases de with
  | nil => exact iteF (h2 rfl)
  | cons a b => exact iteT (h1 (by nofun))
/-- lead.append(e) -/
theorem nest_lead {d : PyData} (h : Nest K W kp kq H0 H σ Δ ds es) (small : ds.length ≤ 100000) (he : ∀ p q vs rs, XV K (nestW W p q vs rs) te Δ (.d d)) (q : ∀ H', Nest K W kp kq H0 H' σ Δ (ds ++ [d]) es → D.nx σ H') :
    tDrop (tBM K "list" rAppend (tVar kp) (tCons te tNil)) D σ H := by
  obtain ⟨p, b, vs, rs, n0, n1, n2, nd, j, mp, mq, mr, dd, de, sp, sq, st⟩ := h.it
  refine ⟨_, sp, .inl ⟨rfl, _, .inl (.inl j.2.1)⟩, he p b vs rs σ H j st _ fun v H1 a f e i => ?_⟩
  subst e
  have fr1 := nest_later h.fr n0 n1 n2 f
  have np : p ≠ b ∧ p ∉ rs.map (·.1) := by
    have := List.nodup_cons.mp nd
    exact ⟨fun z => this.1 (by rw [z]; exact List.mem_cons_self), fun z => this.1 (List.mem_cons_of_mem _ z)⟩
  have sm : Same (hid (nestM W p b rs) H1) (hid (nestM W p b rs) (upd H1 p (.lst (vs ++ [v])))) := fun a o e => by
    by_cases m : nestM W p b rs a
    · rw [hid_in m] at e; cases e
    · rw [hid_out m] at e ⊢
      rw [upd_ne fun z => m (.inr (.inl z))]
      exact e
  refine ⟨p, vs, v, rfl, rfl, f.j.2.1, Nat.lt_of_le_of_lt (by rw [dd.length]; exact small) (by decide), q _ ⟨⟨fun a o nm e => ?_, W.loc H1 _ (fun a ma => upd_ne fun z : a = p => mp (z ▸ ma)) f.j.1⟩, p, b, vs ++ [v], rs, n0, n1, n2, nd, ⟨W.loc H1 _ (fun a ma => upd_ne fun z : a = p => mp (z ▸ ma)) f.j.1, upd_same, by rw [upd_ne np.1.symm]; exact f.j.2.2.1, fun x hx => by rw [upd_ne fun z : x.1 = p => np.2 (z ▸ List.mem_map.mpr ⟨x, hx, rfl⟩)]; exact f.j.2.2.2 x hx⟩, mp, mq, mr, ?_, ?_, sp, sq, ?_⟩⟩
  · rw [upd_ne (ne_of_none e n0)]
    exact fr1.keep a o nm e
  · exact DtAll.append (DtAll.ext sm _ _ (DtAll.ext f.same _ _ dd)) (.cons (Dt.ext sm _ _ i) .nil)
  · exact (de.ext (M := nestM W p b rs) (M' := nestM W p b rs) f.same).ext sm
  · exact (st.ext (M := nestM W p b rs) (M' := nestM W p b rs) f.same).ext sm
/-- ends.append([]) -/
theorem nest_new (h : Nest K W kp kq H0 H σ Δ ds es) (small : es.length ≤ 100000) (q : ∀ H', Nest K W kp kq H0 H' σ Δ ds (es ++ [[]]) → D.nx σ H') :
    tDrop (tBM K "list" rAppend (tVar kq) (tCons (tLst tNil) tNil)) D σ H := by
  obtain ⟨p, b, vs, rs, n0, n1, n2, nd, j, mp, mq, mr, dd, de, sp, sq, st⟩ := h.it
  refine ⟨_, sq, .inl ⟨rfl, _, .inl (.inl j.2.2.1)⟩, by decide, fun r nr => ?_⟩
  have nW : ¬ W.M r := W.fresh h.fr.j nr
  have n0r : H0 r = none := by
    cases z : H0 r with
    | none => rfl
    | some o =>
      rw [h.fr.keep r o nW z] at nr
      cases nr
  have rp : p ≠ r := ne_of_none j.2.1 nr
  have rb : b ≠ r := ne_of_none j.2.2.1 nr
  have rr : ∀ x ∈ rs, x.1 ≠ r := fun x hx => ne_of_none (j.2.2.2 x hx) nr
  have nd1 := List.nodup_cons.mp nd
  have nd2 := List.nodup_cons.mp nd1.2
  have pb : p ≠ b := fun z => nd1.1 (by rw [z]; exact List.mem_cons_self)
  have bx : ∀ x ∈ rs, x.1 ≠ b := fun x hx z => nd2.1 (z ▸ List.mem_map.mpr ⟨x, hx, rfl⟩)
  let H2 := upd (upd H r (.lst [])) b (.lst (rs.map (fun x => V.ref x.1) ++ [.ref r]))
  have jW : W.J H2 := W.loc H _ (fun a ma => (upd_ne fun z : a = b => mq (z ▸ ma)).trans (upd_ne fun z : a = r => nW (z ▸ ma))) h.fr.j
  have sm : Same (hid (nestM W p b rs) H) (hid (nestM W p b (rs ++ [(r, [])])) H2) := fun a o e => by
    by_cases m : nestM W p b rs a
    · rw [hid_in m] at e; cases e
    · rw [hid_out m] at e
      have ar : a ≠ r := ne_of_none e nr
      rw [hid_out (show ¬ nestM W p b (rs ++ [(r, [])]) a from fun z => by
        rcases z with z | z | z | z
        · exact m (.inl z)
        · exact m (.inr (.inl z))
        · exact m (.inr (.inr (.inl z)))
        · rw [List.map_append, List.mem_append] at z
          rcases z with z | z
          · exact m (.inr (.inr (.inr z)))
          · exact ar (by simpa using z))]
      show upd (upd H r _) b _ a = _
      rw [upd_ne fun z => m (.inr (.inr (.inl z))), upd_ne ar]
      exact e
  refine ⟨b, _, .ref r, rfl, rfl, (by rw [upd_ne rb]; exact j.2.2.1), Nat.lt_of_le_of_lt (by rw [List.length_map, de.length]; exact small) (by decide), q _ ⟨⟨fun a o nm e => ?_, jW⟩, p, b, vs, rs ++ [(r, [])], n0, n1, ?_, ?_, ⟨jW, ?_, ?_, ?_⟩, mp, mq, ?_, DtAll.ext sm _ _ dd, (de.ext sm).snoc .nil, sp, sq, st.ext sm⟩⟩
  · rw [upd_ne (ne_of_none e n1), upd_ne (ne_of_none e n0r)]
    exact h.fr.keep a o nm e
  · intro x hx
    rcases List.mem_append.mp hx with hx | hx
    · exact n2 x hx
    · obtain rfl : x = (r, []) := by simpa using hx
      exact n0r
  · rw [List.map_append]
    refine List.nodup_cons.mpr ⟨?_, List.nodup_cons.mpr ⟨?_, ?_⟩⟩
    · intro z
      rcases List.mem_cons.mp z with z | z
      · exact pb z
      · rcases List.mem_append.mp z with z | z
        · exact nd1.1 (List.mem_cons_of_mem _ z)
        · exact rp (by simpa using z)
    · intro z
      rcases List.mem_append.mp z with z | z
      · exact nd2.1 z
      · exact rb (by simpa using z)
    · refine List.nodup_append.mpr ⟨nd2.2, by simp, fun a ha c hc => ?_⟩
      obtain ⟨x, hx, rfl⟩ := List.mem_map.mp ha
      have : c = r := by simpa using hc
      rw [this]
      exact rr x hx
  · show upd (upd H r _) b _ p = _
    rw [upd_ne pb, upd_ne rp]
    exact j.2.1
  · show upd (upd H r _) b _ b = _
    rw [upd_same, List.map_append]
    rfl
  · intro x hx
    show upd (upd H r _) b _ x.1 = _
    rcases List.mem_append.mp hx with hx | hx
    · rw [upd_ne (bx x hx), upd_ne (rr x hx)]
      exact j.2.2.2 x hx
    · obtain rfl : x = (r, []) := by simpa using hx
      rw [upd_ne rb.symm, upd_same]
  · intro x hx
    rcases List.mem_append.mp hx with hx | hx
    · exact mr x hx
    · obtain rfl : x = (r, []) := by simpa using hx
      exact nW
/-- ends[-1].append(e) -/
theorem nest_in {e0 : List PyData} {d : PyData} (h : Nest K W kp kq H0 H σ Δ ds (es ++ [e0])) (small : e0.length ≤ 100000) (he : ∀ p q vs rs, XV K (nestW W p q vs rs) te Δ (.d d)) (q : ∀ H', Nest K W kp kq H0 H' σ Δ ds (es ++ [e0 ++ [d]]) → D.nx σ H') :
    tDrop (tBM K "list" rAppend (tOp (rIxL K) (tVar kq) (tUn rNegI (tC (.int 1)))) (tCons te tNil)) D σ H := by
  obtain ⟨p, b, vs, rs0, n0, n1, n2, nd, j, mp, mq, mr, dd, de, sp, sq, st⟩ := h.it
  obtain ⟨rs, x, rfl, de, dx⟩ := de.last
  have hx : x ∈ rs ++ [x] := List.mem_append.mpr (.inr List.mem_cons_self)
  refine ⟨_, sq, 1, rfl, _, _, _, .ref x.1, rfl, rfl, .inl (.inl j.2.2.1), by rw [List.map_append]; exact atI_last _ _, .inl ⟨rfl, _, .inl (.inl (j.2.2.2 x hx))⟩, he p b vs _ σ H j st _ fun v H1 a f e i => ?_⟩
  subst e
  have fr1 := nest_later h.fr n0 n1 n2 f
  have nd1 := List.nodup_cons.mp nd
  have nd2 := List.nodup_cons.mp nd1.2
  have xin : x.1 ∈ (rs ++ [x]).map (·.1) := List.mem_map.mpr ⟨x, hx, rfl⟩
  have xp : p ≠ x.1 := fun z => nd1.1 (List.mem_cons_of_mem _ (z ▸ xin))
  have xb : b ≠ x.1 := fun z => nd2.1 (z ▸ xin)
  have xr : ∀ y ∈ rs, y.1 ≠ x.1 := fun y hy z => by
    have := nd2.2
    rw [List.map_append] at this
    exact (List.nodup_append.mp this).2.2 y.1 (List.mem_map.mpr ⟨y, hy, rfl⟩) x.1 (by simp) z
  have names : (rs ++ [(x.1, x.2 ++ [v])]).map (·.1) = (rs ++ [x]).map (·.1) := by simp
  have refs : (rs ++ [(x.1, x.2 ++ [v])]).map (fun y => V.ref y.1) = (rs ++ [x]).map (fun y => V.ref y.1) := by simp
  have mm : nestM W p b (rs ++ [(x.1, x.2 ++ [v])]) = nestM W p b (rs ++ [x]) := by unfold nestM; rw [names]
  have jW : W.J (upd H1 x.1 (.lst (x.2 ++ [v]))) := W.loc H1 _ (fun a ma => upd_ne fun z : a = x.1 => mr x hx (z ▸ ma)) f.j.1
  have sm : Same (hid (nestM W p b (rs ++ [x])) H1) (hid (nestM W p b (rs ++ [x])) (upd H1 x.1 (.lst (x.2 ++ [v])))) := fun a o e => by
    by_cases m : nestM W p b (rs ++ [x]) a
    · rw [hid_in m] at e; cases e
    · rw [hid_out m] at e ⊢
      rw [upd_ne fun z : a = x.1 => m (.inr (.inr (.inr (by rw [z]; exact xin))))]
      exact e
  have smf : Same (hid (nestM W p b (rs ++ [x])) H) (hid (nestM W p b (rs ++ [x])) H1) := f.same
  refine ⟨x.1, x.2, v, rfl, rfl, f.j.2.2.2 x hx, Nat.lt_of_le_of_lt (by rw [dx.length]; exact small) (by decide), q _ ⟨⟨fun a o nm e => ?_, jW⟩, p, b, vs, rs ++ [(x.1, x.2 ++ [v])], n0, n1, ?_, by rw [names]; exact nd, ⟨jW, ?_, ?_, ?_⟩, mp, mq, ?_, ?_, ?_, sp, sq, ?_⟩⟩
  · rw [upd_ne (ne_of_none e (n2 x hx))]
    exact fr1.keep a o nm e
  · intro y hy
    rcases List.mem_append.mp hy with hy | hy
    · exact n2 y (List.mem_append.mpr (.inl hy))
    · obtain rfl : y = (x.1, x.2 ++ [v]) := by simpa using hy
      exact n2 x hx
  · rw [upd_ne xp]
    exact f.j.2.1
  · rw [upd_ne xb, refs]
    exact f.j.2.2.1
  · intro y hy
    rcases List.mem_append.mp hy with hy | hy
    · rw [upd_ne (xr y hy)]
      exact f.j.2.2.2 y (List.mem_append.mpr (.inl hy))
    · obtain rfl : y = (x.1, x.2 ++ [v]) := by simpa using hy
      exact upd_same
  · intro y hy
    rcases List.mem_append.mp hy with hy | hy
    · exact mr y (List.mem_append.mpr (.inl hy))
    · obtain rfl : y = (x.1, x.2 ++ [v]) := by simpa using hy
      exact mr x hx
  · rw [mm]
    exact DtAll.ext sm _ _ (DtAll.ext smf _ _ dd)
  · rw [mm]
    exact ((de.ext smf).ext sm).snoc (DtAll.append (DtAll.ext sm _ _ (DtAll.ext smf _ _ dx)) (.cons (Dt.ext sm _ _ i) .nil))
  · rw [mm]
    exact (st.ext smf).ext sm
/-- for x in a tuple that stood ahead of them -/
theorem nest_tup {i j : Nat} {xs : List PyData} {a : Addr} {vs : List V} (o : Nest K W kp kq H0 H σ Δ ds es) (ip : i ≠ kp) (iq : i ≠ kq) (hj : σ[j]? = some (some (.ref a))) (ha : SqT K (hid W.M H0) a vs) (da : DtAll K (hid W.M H0) vs xs)
    (Inv : Nat → Env → List PyData → List (List PyData) → Prop) (h0 : Inv 0 Δ ds es)
    (hs : ∀ (m : Nat) (x : PyData) (v : V) (σ1 : L2.St) (H1 : Hp) (Δ1 : Env) (ds1 : List PyData) (es1 : List (List PyData)), xs[m]? = some x → Inv m Δ1 ds1 es1 → Nest K W kp kq H0 H1 (σ1.set i (some v)) (Δ1.set i (some (.d x))) ds1 es1 →
      ∀ N : L2.St → Hp → Prop, (∀ σ2 H2 Δ2 ds2 es2, Nest K W kp kq H0 H2 σ2 Δ2 ds2 es2 → Inv (m + 1) Δ2 ds2 es2 → N σ2 H2) → tb { D with nx := N, ct := N, bk := D.nx } (σ1.set i (some v)) H1)
    (hd : ∀ (σ1 : L2.St) (H1 : Hp) (Δ1 : Env) (ds1 : List PyData) (es1 : List (List PyData)), Nest K W kp kq H0 H1 σ1 Δ1 ds1 es1 → Inv xs.length Δ1 ds1 es1 → D.nx σ1 H1) : tFor (iTup K (tVar j)) (gName i) tb D σ H := by
  have ga : ∀ H2, Fr W H0 H2 → SqT K H2 a vs := fun H2 f => sqT_same hid_le (sqT_same f.same ha)
  refine ⟨.ref a, hj, a, rfl, ⟨vs, ga H o.fr⟩, for_tup (xs := vs) (fun m σ2 H2 => ∃ Δ2 ds2 es2, Nest K W kp kq H0 H2 σ2 Δ2 ds2 es2 ∧ Inv m Δ2 ds2 es2) ⟨Δ, ds, es, o, h0⟩ (fun m σ2 H2 _ ⟨Δ2, ds2, es2, o2, _⟩ => ga H2 o2.fr) ?_ ?_⟩
  · rintro m v σ2 H2 hv ⟨Δ2, ds2, es2, o2, v2⟩
    have l : m < xs.length := by
      rw [← da.length]
      exact (List.getElem?_eq_some_iff.mp hv).1
    obtain ⟨v', hv', dv⟩ := da.get (List.getElem?_eq_getElem l)
    rw [hv] at hv'
    cases hv'
    obtain ⟨p, q, us, rs, n0, n1, n2, nd, jj, mp, mq, mr, dd, de, sp, sq, st⟩ := o2.it
    have sm : Same (hid W.M H0) (hid (nestM W p q rs) H2) := fun b o e => by
      by_cases m : W.M b
      · rw [hid_in m] at e; cases e
      · rw [hid_out m] at e
        rw [hid_out (show ¬ nestM W p q rs b from fun z => by
          rcases z with z | z | z | z
          · exact m z
          · rw [z, n0] at e; cases e
          · rw [z, n1] at e; cases e
          · obtain ⟨x, hx, rfl⟩ := List.mem_map.mp z
            rw [n2 x hx] at e; cases e)]
        exact o2.fr.keep b o m e
    have iv : Is K (nestM W p q rs) H2 v (.d xs[m]) := Dt.ext sm _ _ dv
    exact hs m xs[m] v σ2 H2 Δ2 ds2 es2 (List.getElem?_eq_getElem l) v2 ⟨o2.fr, p, q, us, rs, n0, n1, n2, nd, jj, mp, mq, mr, dd, de, by rw [List.getElem?_set_ne ip]; exact sp, by rw [List.getElem?_set_ne iq]; exact sq, st.set i iv⟩ _ fun σ3 H3 Δ3 ds3 es3 o3 v3 => ⟨Δ3, ds3, es3, o3, v3⟩
  · rintro σ2 H2 ⟨Δ2, ds2, es2, o2, v2⟩
    rw [da.length] at v2
    exact hd σ2 H2 Δ2 ds2 es2 o2 v2
/-- behind the loop both are data -/
theorem Nest.out (ne : kp ≠ kq) (h : Nest K W kp kq H0 H σ Δ ds es) : StOk K W.M H σ ((Δ.set kp (some (.d (.list ds)))).set kq (some (.d (.list (es.map PyData.list))))) := by
  obtain ⟨p, q, us, rs, n0, n1, n2, nd, jj, mp, mq, mr, dd, de, sp, sq, st⟩ := h.it
  have sm : Same (hid (nestM W p q rs) H) (hid W.M H) := fun b o e => by
    by_cases m : nestM W p q rs b
    · rw [hid_in m] at e; cases e
    · rw [hid_out m] at e
      rw [hid_out fun z => m (.inl z)]
      exact e
  have i1 : Is K W.M H (.ref p) (.d (.list ds)) := Dt.lst (by rw [hid_out mp]; exact jj.2.1) (DtAll.ext sm _ _ dd)
  have i2 : Is K W.M H (.ref q) (.d (.list (es.map PyData.list))) := Dt.lst (by rw [hid_out mq]; exact jj.2.2.1) (de.lists sm fun x hx => by rw [hid_out (mr x hx)]; exact jj.2.2.2 x hx)
  have z := ((st.ext sm).set kp i1).set kq i2
  have e1 : σ.set kp (some (.ref p)) = σ := by
    obtain ⟨l, e⟩ := List.getElem?_eq_some_iff.mp sp
    rw [← e]
    exact List.set_getElem_self l
  have e2 : σ.set kq (some (.ref q)) = σ := by
    obtain ⟨l, e⟩ := List.getElem?_eq_some_iff.mp sq
    rw [← e]
    exact List.set_getElem_self l
  rw [e1, e2] at z
  exact z
end
end V2

set_option Elab.async false
set_option linter.all false
set_option maxRecDepth 100000
set_option maxHeartbeats 2000000
namespace V2
open PySem PySem.Spec PyProof.Rows L2
section
variable {K : PySem.W.Frag} {W : Wd} {Δ : Env} {te ta tb : TE} {t : TA} {k : Nat} {H0 H : Hp} {σ : L2.St} {ds xs : List PyData} {D : Ends} {ts tu : TS}
/-- a statement beside one's own list -/
theorem own_xs1 (o : Own K W k H0 H σ Δ ds) (N : Addr → Env → Prop) (h : ∀ p φ, ¬ W.M p → XS K (W.add p φ) ts (Δ.set k (some (.v (.ref p)))) (N p) (fun _ => False) No No) (hk : ∀ p Δ', N p Δ' → Δ'[k]? = some (some (.v (.ref p))))
    (q : ∀ p σ' H' Δ', N p Δ' → Own K W k H0 H' σ' (Δ'.set k none) ds → D.nx σ' H') : ts D σ H := by
  obtain ⟨p, vs, n0, m, hp, dd, hs, s⟩ := o.it
  have es : σ.set k (some (.ref p)) = σ := by
    obtain ⟨l, e⟩ := List.getElem?_eq_some_iff.mp hs
    rw [← e]
    exact List.set_getElem_self l
  have s1 : StOk K (fun a => W.M a ∨ a = p) H σ (Δ.set k (some (.v (.ref p)))) := by
    have z := s.set (a := .v (.ref p)) (v := .ref p) k rfl
    rwa [es] at z
  refine h p (· = .lst vs) m σ H ⟨o.fr.j, _, hp, rfl⟩ s1 _ (fun σ' H' Δ' f s' n => ?_) (fun _ _ _ _ z => z.elim) (fun _ _ _ _ _ z => z.elim) fun _ _ _ _ _ z => z.elim
  obtain ⟨u, hp', e⟩ := f.j.2
  subst e
  obtain ⟨v, hv, iv⟩ := s'.get k _ (hk p Δ' n)
  have iv : v = .ref p := iv
  subst iv
  have es' : σ'.set k (some (.ref p)) = σ' := by
    obtain ⟨l, e⟩ := List.getElem?_eq_some_iff.mp hv
    rw [← e]
    exact List.set_getElem_self l
  have s2 := s'.unset k (some (.ref p))
  rw [es'] at s2
  exact q p σ' H' Δ' n ⟨⟨fun a o' nm e => f.keep a o' (fun z => z.elim nm (ne_of_none e n0)) (o.fr.keep a o' nm e), f.j.1⟩, p, vs, n0, m, hp', DtAll.ext f.same _ _ dd, hv, s2⟩
theorem own_xs (o : Own K W k H0 H σ Δ ds) (N : Addr → Env → Prop) (h : ∀ p φ, ¬ W.M p → XS K (W.add p φ) ts (Δ.set k (some (.v (.ref p)))) (N p) (fun _ => False) No No) (hk : ∀ p Δ', N p Δ' → Δ'[k]? = some (some (.v (.ref p))))
    (q : ∀ p σ' H' Δ', N p Δ' → Own K W k H0 H' σ' (Δ'.set k none) ds → tu D σ' H') : tSeq ts tu D σ H := seq_in (own_xs1 o N h hk q)
theorem cx_maxL {ns : List Int} (h0 : 0 < ns.length) : CX1 K W (rMax K) [.d (.list (ns.map PyData.int))] (IntR fun m => m ∈ ns ∧ ∀ y ∈ ns, y ≤ m) := fun vs H j i Q q => by
  cases i with
  | cons h t =>
    cases t
    cases h with
    | lst h1 d1 =>
      have e : ∀ {vs : List V} {ns : List Int}, DtAll K (hid W.M H) vs (ns.map PyData.int) → vs = ns.map V.int := by
        intro vs ns
        induction ns generalizing vs with
        | nil => intro h; cases h; rfl
        | cons n r ih =>
          intro h
          cases h with
          | cons h t => cases h; rw [ih t]; rfl
      obtain rfl := e d1
      exact ⟨_, ns, rfl, .inl (.inl (hid_le _ _ h1)), h0, fun m hm hy => q _ H _ (.refl j) ⟨m, rfl, hm, hy⟩ (.int _)⟩
theorem xe_slT2 {a b : Int} (h : XV K W te Δ (.d (.tuple xs))) (ha : XV K W ta Δ (.d (.int a))) (hb : XV K W tb Δ (.d (.int b))) (ne : ¬ (HT.sIx xs.length 0 (some a) = 0 ∧ HT.sIx xs.length xs.length (some b) = xs.length)) : XV K W (tSl (rSlT K) te (tPart ta) (tPart tb)) Δ (.d (.tuple (cutD xs (some a) (some b)))) := fun σ H j s Q q =>
  h σ H j s _ fun v H1 c f1 e i1 => by
    subst e
    refine ha σ H1 f1.j (s.fr f1) _ fun w H2 c2 f2 e i2 => ?_
    subst e
    cases i2
    refine ⟨a, rfl, hb σ H2 f2.j (s.fr (f1.trans f2)) _ fun u H3 c3 f3 e i3 => ?_⟩
    subst e
    cases i3
    have f := (f1.trans f2).trans f3
    cases i1.fr (f2.trans f3) with
    | tup h1 d1 =>
      exact ⟨b, rfl, _, _, rfl, sqT_same hid_le h1, by rw [d1.length]; exact ne, fun p np => q _ _ _ (f.trans (.new f.j np)) rfl (Dt.tup (.inl (.inl (hid_new f.j np))) (cut_dts (DtAll.ext (Fr.same (.new f.j np)) _ _ d1)))⟩
/-- one's own list is cleared -/
theorem own_clear (h : Own K W k H0 H σ Δ ds) (q : ∀ H', Own K W k H0 H' σ Δ [] → D.nx σ H') : tDrop (tBM0 K "list" rClear (tVar k)) D σ H := by
  obtain ⟨p, vs, n0, m, hp, dd, hk, s⟩ := h.it
  refine ⟨_, hk, .inl ⟨rfl, _, .inl (.inl hp)⟩, p, vs, rfl, rfl, hp, q _ ⟨⟨fun a o nm e => ?_, W.loc H _ (fun a ma => upd_ne fun z : a = p => m (z ▸ ma)) h.fr.j⟩, p, [], n0, m, upd_same, .nil, hk, s.ext fun a o e => ?_⟩⟩
  · rw [upd_ne (ne_of_none e n0)]
    exact h.fr.keep a o nm e
  · rw [hid_upd (.inr rfl)]
    exact e
theorem OX.mono {r : R2} {a b : A} {T T' : A → Prop} (h : OX K W r a b T) (m : ∀ c, T c → T' c) : OX K W r a b T' := fun v w H j i1 i2 Q q => h v w H j i1 i2 Q fun u H' c f e ic => q u H' c f (m c e) ic
/-- range(n), its numbers as a list's -/
theorem xi_rngL {n : Nat} {te : TE} (h : XV K W te Δ (.d (.int (n : Int)))) (small : n ≤ 100000) : XI K W (iRng1 (tCons te tNil)) Δ (· = ((List.range n).map fun (i : Nat) => PyData.int (i : Int)).length) fun i a => ∃ d, ((List.range n).map fun (i : Nat) => PyData.int (i : Int))[i]? = some d ∧ a = .d d := fun σ H j s R q =>
  xi_rng (Nn := (· = n)) (xa_rng (Nn := (· = n)) h (by omega) (by omega) (by omega)) σ H j s R fun J H1 m f hm w => q J H1 m f (by rw [hm]; simp) fun H2 f2 i => ⟨fun l => ⟨((w H2 f2 i).1 l).1, fun y H3 yl => by
    obtain ⟨e, a, ea, ia⟩ := ((w H2 f2 i).1 l).2 y H3 yl
    refine ⟨e, a, ⟨_, ?_, ea⟩, ia⟩
    rw [List.getElem?_map, List.getElem?_range (by omega)]
    rfl⟩, (w H2 f2 i).2⟩
end
end V2

set_option Elab.async false
set_option linter.all false
set_option maxRecDepth 100000
set_option maxHeartbeats 2000000
namespace V2
open PySem PySem.Spec PyProof.Rows L2
/-! ### several lists of one's own -/
structure OLst where
  slot : Nat
  addr : Addr
  vs : List V
  ds : List PyData
def ownsM (W : Wd) (L : List OLst) : Addr → Prop := fun a => W.M a ∨ ∃ o ∈ L, o.addr = a
def ownsW (W : Wd) (L : List OLst) : Wd where
  M := ownsM W L
  J H := W.J H ∧ ∀ o ∈ L, H o.addr = some (.lst o.vs)
  live H a j m := by
    rcases m with m | ⟨o, ho, rfl⟩
    · exact W.live H a j.1 m
    · rw [j.2 o ho]; nofun
  loc H H' e j := ⟨W.loc H H' (fun a m => e a (.inl m)) j.1, fun o ho => (e o.addr (.inr ⟨o, ho, rfl⟩)).trans (j.2 o ho)⟩
structure OwnsI (K : PySem.W.Frag) (W : Wd) (H0 H : Hp) (σ : L2.St) (Δ : Env) (L : List OLst) : Prop where
  n0 : ∀ o ∈ L, H0 o.addr = none
  nm : ∀ o ∈ L, ¬ W.M o.addr
  nd : (L.map (·.addr)).Nodup
  j : (ownsW W L).J H
  dd : ∀ o ∈ L, DtAll K (hid (ownsM W L) H) o.vs o.ds
  sl : ∀ o ∈ L, σ[o.slot]? = some (some (.ref o.addr))
  st : StOk K (ownsM W L) H σ Δ
abbrev OS := List (Nat × List PyData)
structure Owns (K : PySem.W.Frag) (W : Wd) (H0 H : Hp) (σ : L2.St) (Δ : Env) (S : OS) : Prop where
  fr : Fr W H0 H
  it : ∃ L : List OLst, L.map (fun o => (o.slot, o.ds)) = S ∧ OwnsI K W H0 H σ Δ L
/-- all of them read as data -/
def froz (Δ : Env) (S : OS) : Env := S.foldl (fun Δ p => Δ.set p.1 (some (.d (.list p.2)))) Δ
section
variable {K : PySem.W.Frag} {W : Wd} {H0 H H' : Hp} {σ : L2.St} {Δ : Env} {S : OS} {L : List OLst} {D : Ends} {te tv : TE} {tt : TT} {ts tu : TS} {k i : Nat} {ds : List PyData}
theorem owns_start (f : Fr W H0 H) (s : StOk K W.M H σ Δ) : Owns K W H0 H σ Δ [] :=
  ⟨f, [], rfl, (fun o h => nomatch h), (fun o h => nomatch h), List.nodup_nil, ⟨f.j, fun o h => nomatch h⟩, (fun o h => nomatch h), (fun o h => nomatch h), s.ext fun a o e => by
    by_cases m : W.M a
    · rw [hid_in m] at e; cases e
    · rw [hid_out m] at e
      rw [hid_out fun z => z.elim m fun ⟨o, h, _⟩ => nomatch h]
      exact e⟩
theorem owns_sameM (kp : ∀ a o, ¬ ownsM W L a → H a = some o → H' a = some o) : Same (hid (ownsM W L) H) (hid (ownsM W L) H') := fun a o e => by
  by_cases m : ownsM W L a
  · rw [hid_in m] at e; cases e
  · rw [hid_out m] at e ⊢
    exact kp a o m e
theorem OwnsI.go (h : OwnsI K W H0 H σ Δ L) (f : Fr (ownsW W L) H H') : OwnsI K W H0 H' σ Δ L :=
  ⟨h.n0, h.nm, h.nd, f.j, fun o ho => DtAll.ext f.same _ _ (h.dd o ho), h.sl, h.st.ext (M := ownsM W L) (M' := ownsM W L) f.same⟩
theorem OwnsI.fr (h : OwnsI K W H0 H σ Δ L) (f0 : Fr W H0 H) (f : Fr (ownsW W L) H H') : Fr W H0 H' :=
  ⟨fun a o nm e => f.keep a o (fun z => z.elim nm fun ⟨o', ho, e'⟩ => by rw [← e', h.n0 o' ho] at e; cases e) (f0.keep a o nm e), f.j.1⟩
theorem Owns.later (h : Owns K W H0 H σ Δ S) (f : Fr W H H') : Owns K W H0 H' σ Δ S := by
  obtain ⟨L, e, i⟩ := h.it
  refine ⟨h.fr.trans f, L, e, i.go ⟨fun a o nm e => f.keep a o (fun z => nm (.inl z)) e, f.j, fun o ho => f.keep _ _ (i.nm o ho) (i.j.2 o ho)⟩⟩
theorem ownsM_le : Same (hid (ownsM W L) H) (hid W.M H) := fun a o e => by
  by_cases m : ownsM W L a
  · rw [hid_in m] at e; cases e
  · rw [hid_out m] at e
    rw [hid_out fun z => m (.inl z)]
    exact e
theorem st_again {M : Addr → Prop} {v : V} {a : A} (s : StOk K M H σ Δ) (hk : σ[k]? = some (some v)) (h : Is K M H v a) : StOk K M H σ (Δ.set k (some a)) := by
  have z := s.set k h
  have e : σ.set k (some v) = σ := by
    obtain ⟨l, e⟩ := List.getElem?_eq_some_iff.mp hk
    rw [← e]
    exact List.set_getElem_self l
  rwa [e] at z
theorem Owns.st (h : Owns K W H0 H σ Δ S) : StOk K W.M H σ (froz Δ S) := by
  obtain ⟨L, rfl, i⟩ := h.it
  have go : ∀ (l : List OLst) (Δ : Env), (∀ o ∈ l, o ∈ L) → StOk K W.M H σ Δ → StOk K W.M H σ (froz Δ (l.map fun o => (o.slot, o.ds))) := by
    intro l
    induction l with
    | nil => exact fun Δ _ s => s
    | cons o l ih =>
      intro Δ hm s
      have ho := hm o (.head _)
      exact ih _ (fun x m => hm x (.tail _ m)) (st_again s (i.sl o ho) (Dt.lst (by rw [hid_out (i.nm o ho)]; exact i.j.2 o ho) (DtAll.ext ownsM_le _ _ (i.dd o ho))))
  exact go L Δ (fun o h => h) (i.st.ext ownsM_le)
/-- a test that reads them as data -/
theorem owns_if {B : Bool → Prop} (o : Owns K W H0 H σ Δ S) (ht : XT K W tt (froz Δ S) B) (h1 : ∀ H', B true → Owns K W H0 H' σ Δ S → ts D σ H') (h2 : ∀ H', B false → Owns K W H0 H' σ Δ S → tu D σ H') : tIfS tt ts tu D σ H :=
  ht σ H o.fr.j o.st _ fun b H1 f hb => by
    cases b with
    | true => exact iteT (h1 H1 hb (o.later f))
    | false => exact iteF (h2 H1 hb (o.later f))
/-- the first one set aside as data -/
theorem owns_freeze (o : Owns K W H0 H σ Δ ((k, ds) :: S)) : Owns K W H0 H σ (Δ.set k (some (.d (.list ds)))) S := by
  obtain ⟨L, e, i⟩ := o.it
  cases L with
  | nil => cases e
  | cons x L =>
    obtain ⟨e1, e2⟩ := List.cons.inj e
    have ek : x.slot = k := congrArg Prod.fst e1
    have ed : x.ds = ds := congrArg Prod.snd e1
    subst ek ed
    have nd := List.nodup_cons.mp i.nd
    have nx : ∀ o ∈ L, o.addr ≠ x.addr := fun o ho z => nd.1 (by show x.addr ∈ _; rw [← z]; exact List.mem_map.mpr ⟨o, ho, rfl⟩)
    have sm : Same (hid (ownsM W (x :: L)) H) (hid (ownsM W L) H) := fun a o e => by
      by_cases m : ownsM W (x :: L) a
      · rw [hid_in m] at e; cases e
      · rw [hid_out m] at e
        rw [hid_out fun z => m (z.imp id fun ⟨o, h, q⟩ => ⟨o, .tail _ h, q⟩)]
        exact e
    refine ⟨o.fr, L, e2, fun o h => i.n0 o (.tail _ h), fun o h => i.nm o (.tail _ h), nd.2, ⟨i.j.1, fun o h => i.j.2 o (.tail _ h)⟩, fun o h => DtAll.ext sm _ _ (i.dd o (.tail _ h)), fun o h => i.sl o (.tail _ h), ?_⟩
    refine st_again (i.st.ext sm) (i.sl x (.head _)) (Dt.lst ?_ (DtAll.ext sm _ _ (i.dd x (.head _))))
    rw [hid_out fun z => z.elim (i.nm x (.head _)) fun ⟨o, h, q⟩ => nx o h q]
    exact i.j.2 x (.head _)
theorem owns_swap {a b : Nat × List PyData} (o : Owns K W H0 H σ Δ (a :: b :: S)) : Owns K W H0 H σ Δ (b :: a :: S) := by
  obtain ⟨L, e, i⟩ := o.it
  match L, e with
  | x :: y :: L, e =>
    obtain ⟨e1, e2⟩ := List.cons.inj e
    obtain ⟨e2, e3⟩ := List.cons.inj e2
    have mm : ∀ o, o ∈ y :: x :: L ↔ o ∈ x :: y :: L := fun o => by simp only [List.mem_cons]; exact ⟨fun h => by rcases h with h | h | h <;> simp [h], fun h => by rcases h with h | h | h <;> simp [h]⟩
    have me : ownsM W (y :: x :: L) = ownsM W (x :: y :: L) := by
      funext a
      refine propext ⟨fun h => h.imp id fun ⟨o, ho, q⟩ => ⟨o, (mm o).mp ho, q⟩, fun h => h.imp id fun ⟨o, ho, q⟩ => ⟨o, (mm o).mpr ho, q⟩⟩
    refine ⟨o.fr, y :: x :: L, by show _ :: _ :: _ = _; rw [← e1, ← e2, ← e3], fun o h => i.n0 o ((mm o).mp h), fun o h => i.nm o ((mm o).mp h), ?_, ⟨i.j.1, fun o h => i.j.2 o ((mm o).mp h)⟩, fun o h => by rw [me]; exact i.dd o ((mm o).mp h), fun o h => i.sl o ((mm o).mp h), by rw [me]; exact i.st⟩
    have nd := i.nd
    simp only [List.map_cons, List.nodup_cons, List.mem_cons, not_or] at nd ⊢
    exact ⟨⟨fun z => nd.1.1 z.symm, nd.2.1⟩, nd.1.2, nd.2.2⟩
/-- name = a new list -/
theorem owns_set {R : List PyData → Prop} (o : Owns K W H0 H σ Δ S) (hk : k < σ.length) (nk : ∀ p ∈ S, p.1 ≠ k) (h : ∀ L, XN K (ownsW W L) te Δ R)
    (q : ∀ v H' ds, R ds → Owns K W H0 H' (σ.set k (some v)) (Δ.set k none) ((k, ds) :: S) → D.nx (σ.set k (some v)) H') : tAsg te (gName k) D σ H := by
  obtain ⟨L, rfl, i⟩ := o.it
  refine h L σ H i.j i.st _ fun p H1 vs ds f np r hp dd => ?_
  have f1 := i.fr o.fr f
  have i1 := i.go f
  have nW : ¬ W.M p := fun m => (ownsW W L).live H p i.j (.inl m) np
  have n0 : H0 p = none := by
    cases z : H0 p with
    | none => rfl
    | some u =>
      rw [o.fr.keep p u nW z] at np
      cases np
  have nL : ∀ o ∈ L, o.addr ≠ p := fun o ho z => by
    have := i.j.2 o ho
    rw [z, np] at this
    cases this
  let x : OLst := ⟨k, p, vs, ds⟩
  have me : ownsM W (x :: L) = fun a => ownsM W L a ∨ a = p := by
    funext a
    refine propext ⟨fun h => ?_, fun h => ?_⟩
    · rcases h with h | ⟨o, ho, q⟩
      · exact .inl (.inl h)
      · rcases List.mem_cons.mp ho with e | ho
        · rw [e] at q
          exact .inr q.symm
        · exact .inl (.inr ⟨o, ho, q⟩)
    · rcases h with h | h
      · exact h.imp id fun ⟨o, ho, q⟩ => ⟨o, .tail _ ho, q⟩
      · exact .inr ⟨x, .head _, h.symm⟩
  have sm : Same (hid (ownsM W L) H) (hid (ownsM W (x :: L)) H1) := fun a u e => by
    by_cases m : ownsM W L a
    · rw [hid_in m] at e; cases e
    · rw [hid_out m] at e
      rw [hid_out (show ¬ ownsM W (x :: L) a by rw [me]; exact fun z => z.elim m (ne_of_none e np))]
      exact f.keep a u m e
  refine q _ H1 ds r ⟨f1, x :: L, rfl, ?_, ?_, ?_, ⟨f.j.1, ?_⟩, ?_, ?_, ?_⟩
  · exact fun o h => (List.mem_cons.mp h).elim (fun e => by rw [e]; exact n0) fun h => i.n0 o h
  · exact fun o h => (List.mem_cons.mp h).elim (fun e => by rw [e]; exact nW) fun h => i.nm o h
  · exact List.nodup_cons.mpr ⟨fun z => by obtain ⟨o, ho, e⟩ := List.mem_map.mp z; exact nL o ho e, i.nd⟩
  · exact fun o h => (List.mem_cons.mp h).elim (fun e => by rw [e]; exact hp) fun h => f.j.2 o h
  · intro o h
    rcases List.mem_cons.mp h with e | h
    · rw [e, me]
      exact dd
    · exact DtAll.ext sm _ _ (i.dd o h)
  · intro o h
    rcases List.mem_cons.mp h with e | h
    · rw [e]
      exact List.getElem?_set_self hk
    · rw [List.getElem?_set_ne fun z => nk (o.slot, o.ds) (List.mem_map.mpr ⟨o, h, rfl⟩) z.symm]
      exact i.sl o h
  · exact StOk.unset (i.st.ext sm) k _
/-- another name is set -/
theorem owns_asg {R : A → Prop} (o : Owns K W H0 H σ Δ S) (nk : ∀ p ∈ S, p.1 ≠ i) (h : ∀ L, XE K (ownsW W L) te Δ R) (q : ∀ v H' a, R a → Owns K W H0 H' (σ.set i (some v)) (Δ.set i (some a)) S → D.nx (σ.set i (some v)) H') : tAsg te (gName i) D σ H := by
  obtain ⟨L, rfl, ii⟩ := o.it
  refine h L σ H ii.j ii.st _ fun v H1 a f r iv => ?_
  have i1 := ii.go f
  exact q v H1 a r ⟨ii.fr o.fr f, L, rfl, i1.n0, i1.nm, i1.nd, i1.j, i1.dd, fun o h => by rw [List.getElem?_set_ne fun z => nk (o.slot, o.ds) (List.mem_map.mpr ⟨o, h, rfl⟩) z.symm]; exact i1.sl o h, i1.st.set i iv⟩
/-- the first one changes -/
theorem owns_put {x : OLst} {vs : List V} (i : OwnsI K W H0 H σ Δ (x :: L)) (f0 : Fr W H0 H) (d : DtAll K (hid (ownsM W (x :: L)) H) vs ds) : Fr W H0 (upd H x.addr (.lst vs)) ∧ OwnsI K W H0 (upd H x.addr (.lst vs)) σ Δ (⟨x.slot, x.addr, vs, ds⟩ :: L) ∧ Same (hid (ownsM W (x :: L)) H) (hid (ownsM W (⟨x.slot, x.addr, vs, ds⟩ :: L)) (upd H x.addr (.lst vs))) := by
  let y : OLst := ⟨x.slot, x.addr, vs, ds⟩
  have me : ownsM W (y :: L) = ownsM W (x :: L) := by
    funext a
    refine propext ⟨fun h => h.imp id fun ⟨o, ho, q⟩ => ?_, fun h => h.imp id fun ⟨o, ho, q⟩ => ?_⟩
    · rcases List.mem_cons.mp ho with e | ho
      · rw [e] at q
        exact ⟨x, .head _, q⟩
      · exact ⟨o, .tail _ ho, q⟩
    · rcases List.mem_cons.mp ho with e | ho
      · rw [e] at q
        exact ⟨y, .head _, q⟩
      · exact ⟨o, .tail _ ho, q⟩
  have nd := List.nodup_cons.mp i.nd
  have nx : ∀ o ∈ L, o.addr ≠ x.addr := fun o ho z => nd.1 (by show x.addr ∈ _; rw [← z]; exact List.mem_map.mpr ⟨o, ho, rfl⟩)
  have xm : ¬ W.M x.addr := i.nm x (.head _)
  have jW : W.J (upd H x.addr (.lst vs)) := W.loc H _ (fun a ma => upd_ne fun z => xm (z ▸ ma)) i.j.1
  have sm : Same (hid (ownsM W (x :: L)) H) (hid (ownsM W (y :: L)) (upd H x.addr (.lst vs))) := fun a u e => by
    rw [me]
    by_cases m : ownsM W (x :: L) a
    · rw [hid_in m] at e; cases e
    · rw [hid_out m] at e ⊢
      rw [upd_ne fun z => m (.inr ⟨x, .head _, z.symm⟩)]
      exact e
  refine ⟨⟨fun a u nm e => by rw [upd_ne (ne_of_none e (i.n0 x (.head _)))]; exact f0.keep a u nm e, jW⟩, ⟨?_, ?_, i.nd, ⟨jW, ?_⟩, ?_, ?_, i.st.ext sm⟩, sm⟩
  · exact fun o h => (List.mem_cons.mp h).elim (fun e => by rw [e]; exact i.n0 x (.head _)) fun h => i.n0 o (.tail _ h)
  · exact fun o h => (List.mem_cons.mp h).elim (fun e => by rw [e]; exact xm) fun h => i.nm o (.tail _ h)
  · intro o h
    rcases List.mem_cons.mp h with e | h
    · rw [e]
      exact upd_same
    · rw [upd_ne (nx o h)]
      exact i.j.2 o (.tail _ h)
  · intro o h
    rcases List.mem_cons.mp h with e | h
    · rw [e]
      exact DtAll.ext sm _ _ d
    · exact DtAll.ext sm _ _ (i.dd o (.tail _ h))
  · intro o h
    rcases List.mem_cons.mp h with e | h
    · rw [e]
      exact i.sl x (.head _)
    · exact i.sl o (.tail _ h)
/-- name.append(e) -/
theorem owns_app {P : PyData → Prop} (o : Owns K W H0 H σ Δ ((k, ds) :: S)) (small : ds.length ≤ 100000) (he : ∀ L, XE K (ownsW W L) te Δ fun a => ∃ d, a = .d d ∧ P d) (q : ∀ H' d, P d → Owns K W H0 H' σ Δ ((k, ds ++ [d]) :: S) → D.nx σ H') :
    tDrop (tBM K "list" rAppend (tVar k) (tCons te tNil)) D σ H := by
  obtain ⟨L, e, i⟩ := o.it
  match L, e with
  | x :: L, e =>
    obtain ⟨e1, rfl⟩ := List.cons.inj e
    have ek : x.slot = k := congrArg Prod.fst e1
    have ed : x.ds = ds := congrArg Prod.snd e1
    subst ek ed
    have dx := i.dd x (.head _)
    refine ⟨_, i.sl x (.head _), .inl ⟨rfl, _, .inl (.inl (i.j.2 x (.head _)))⟩, he _ σ H i.j i.st _ fun v H1 a f r iv => ?_⟩
    obtain ⟨d, e, pd⟩ := r
    subst e
    have i1 := i.go f
    refine ⟨x.addr, x.vs, v, rfl, rfl, i1.j.2 x (.head _), Nat.lt_of_le_of_lt (by rw [dx.length]; exact small) (by decide), q _ d pd ?_⟩
    obtain ⟨f2, i2, _⟩ := owns_put i1 (i.fr o.fr f) (DtAll.append (i1.dd x (.head _)) (.cons iv .nil))
    exact ⟨f2, _, rfl, i2⟩
theorem seqIndex0 {n : Nat} (h : 0 < n) : seqIndex? 0 n = some 0 := by
  have e : L2.ixN n 0 = some 0 := by
    unfold L2.ixN
    rw [if_pos (by decide), if_pos (by omega)]
    rfl
  exact (L2.ixN_seq e).1
/-- other = name.pop(0) -/
theorem owns_pop {d : PyData} (o : Owns K W H0 H σ Δ ((k, d :: ds) :: S)) (ni : i ≠ k) (nk : ∀ p ∈ S, p.1 ≠ i) (small : ds.length ≤ 100000) (q : ∀ v H', Owns K W H0 H' (σ.set i (some v)) (Δ.set i (some (.d d))) ((k, ds) :: S) → D.nx (σ.set i (some v)) H') :
    tAsg (tBM K "list" rPopAt (tVar k) (tCons (tC (.int 0)) tNil)) (gName i) D σ H := by
  obtain ⟨L, e, ii⟩ := o.it
  match L, e with
  | x :: L, e =>
    obtain ⟨e1, rfl⟩ := List.cons.inj e
    have ek : x.slot = k := congrArg Prod.fst e1
    have ed : x.ds = d :: ds := congrArg Prod.snd e1
    subst ek
    have dx := ii.dd x (.head _)
    rw [ed] at dx
    cases hv : x.vs with
    | nil => rw [hv] at dx; cases dx
    | cons v vs =>
      rw [hv] at dx
      cases dx with
      | cons d1 d2 =>
        have hx := ii.j.2 x (.head _)
        rw [hv] at hx
        refine ⟨_, ii.sl x (.head _), .inl ⟨rfl, _, .inl (.inl (ii.j.2 x (.head _)))⟩, x.addr, v :: vs, 0, 0, v, rfl, rfl, hx, by decide, by decide, seqIndex0 (by simp), rfl, ?_⟩
        obtain ⟨f2, i2, sm⟩ := owns_put ii o.fr d2
        refine q v _ ⟨f2, _, rfl, i2.n0, i2.nm, i2.nd, i2.j, i2.dd, fun o' h => ?_, i2.st.set i (Dt.ext sm _ _ d1)⟩
        rw [List.getElem?_set_ne ?_]
        · exact i2.sl o' h
        · rcases List.mem_cons.mp h with e | h'
          · rw [e]
            exact ni
          · exact fun z => nk (o'.slot, o'.ds) (List.mem_map.mpr ⟨o', h', rfl⟩) z.symm
/-- name.append(other.pop(0)), other the second one -/
theorem owns_move {k2 : Nat} {d : PyData} {es : List PyData} (o : Owns K W H0 H σ Δ ((k2, d :: es) :: (k, ds) :: S)) (small : ds.length ≤ 100000) (q : ∀ H', Owns K W H0 H' σ Δ ((k, ds ++ [d]) :: (k2, es) :: S) → D.nx σ H') :
    tDrop (tBM K "list" rAppend (tVar k) (tCons (tBM K "list" rPopAt (tVar k2) (tCons (tC (.int 0)) tNil)) tNil)) D σ H := by
  obtain ⟨L0, e, ii⟩ := o.it
  obtain ⟨x, L1, rfl, e1, ee⟩ : ∃ x L1, L0 = x :: L1 ∧ (x.slot, x.ds) = (k2, d :: es) ∧ L1.map (fun o => (o.slot, o.ds)) = (k, ds) :: S := by
    cases L0 with
    | nil => cases e
    | cons x L1 => exact ⟨x, L1, rfl, (List.cons.inj e).1, (List.cons.inj e).2⟩
  obtain ⟨y, L, rfl, e2, e3⟩ : ∃ y L, L1 = y :: L ∧ (y.slot, y.ds) = (k, ds) ∧ L.map (fun o => (o.slot, o.ds)) = S := by
    cases L1 with
    | nil => cases ee
    | cons y L => exact ⟨y, L, rfl, (List.cons.inj ee).1, (List.cons.inj ee).2⟩
  subst e3
  · have ek : x.slot = k2 := congrArg Prod.fst e1
    have ed : x.ds = d :: es := congrArg Prod.snd e1
    have ey : y.slot = k := congrArg Prod.fst e2
    have ez : y.ds = ds := congrArg Prod.snd e2
    subst ek ey ez
    have dx := ii.dd x (.head _)
    rw [ed] at dx
    cases hv : x.vs with
    | nil => rw [hv] at dx; cases dx
    | cons v vs =>
      rw [hv] at dx
      cases dx with
      | cons d1 d2 =>
        have hx := ii.j.2 x (.head _)
        rw [hv] at hx
        have my : y ∈ x :: y :: L := .tail _ (.head _)
        have dy := ii.dd y my
        obtain ⟨f2, i2, sm⟩ := owns_put ii o.fr d2
        refine ⟨_, ii.sl y my, .inl ⟨rfl, _, .inl (.inl (ii.j.2 y my))⟩, _, ii.sl x (.head _), .inl ⟨rfl, _, .inl (.inl hx)⟩, x.addr, v :: vs, 0, 0, v, rfl, rfl, hx, by decide, by decide, seqIndex0 (by simp), rfl, ?_⟩
        have o3 : Owns K W H0 (upd H x.addr (.lst vs)) σ Δ ((y.slot, y.ds) :: (x.slot, es) :: L.map fun o => (o.slot, o.ds)) := owns_swap ⟨f2, _, rfl, i2⟩
        obtain ⟨L3, e3, i3⟩ := o3.it
        refine ⟨y.addr, y.vs, v, rfl, rfl, i2.j.2 y (.tail _ (.head _)), Nat.lt_of_le_of_lt (by rw [dy.length]; exact small) (by decide), q _ ?_⟩
        have mm : ∀ o, o ∈ y :: ⟨x.slot, x.addr, vs, es⟩ :: L ↔ o ∈ (⟨x.slot, x.addr, vs, es⟩ : OLst) :: y :: L := fun o => by simp only [List.mem_cons]; exact ⟨fun h => by rcases h with h | h | h <;> simp [h], fun h => by rcases h with h | h | h <;> simp [h]⟩
        have me : ownsM W (y :: ⟨x.slot, x.addr, vs, es⟩ :: L) = ownsM W (⟨x.slot, x.addr, vs, es⟩ :: y :: L) := funext fun a => propext ⟨fun h => h.imp id fun ⟨o, ho, q⟩ => ⟨o, (mm o).mp ho, q⟩, fun h => h.imp id fun ⟨o, ho, q⟩ => ⟨o, (mm o).mpr ho, q⟩⟩
        have nd := i2.nd
        have i4 : OwnsI K W H0 (upd H x.addr (.lst vs)) σ Δ (y :: ⟨x.slot, x.addr, vs, es⟩ :: L) := ⟨fun o h => i2.n0 o ((mm o).mp h), fun o h => i2.nm o ((mm o).mp h), by
          simp only [List.map_cons, List.nodup_cons, List.mem_cons, not_or] at nd ⊢
          exact ⟨⟨fun z => nd.1.1 z.symm, nd.2.1⟩, nd.1.2, nd.2.2⟩, ⟨i2.j.1, fun o h => i2.j.2 o ((mm o).mp h)⟩, fun o h => by rw [me]; exact i2.dd o ((mm o).mp h), fun o h => i2.sl o ((mm o).mp h), by rw [me]; exact i2.st⟩
        obtain ⟨f5, i5, _⟩ := owns_put i4 f2 (DtAll.append (i4.dd y (.head _)) (.cons (by rw [me]; exact Dt.ext sm _ _ d1) .nil))
        exact ⟨f5, _, rfl, i5⟩
/-- while -/
theorem owns_while (Inv : Nat → Env → OS → Prop) (o : Owns K W H0 H σ Δ S) (h0 : ∃ m, Inv m Δ S)
    (hs : ∀ m σ1 H1 Δ1 S1, Inv m Δ1 S1 → Owns K W H0 H1 σ1 Δ1 S1 → ∃ b, XB K W tt (froz Δ1 S1) b ∧
      (b = true → ∀ H2, Owns K W H0 H2 σ1 Δ1 S1 → ∀ N : L2.St → Hp → Prop, (∀ σ3 H3 Δ3 S3 m', m' < m → Inv m' Δ3 S3 → Owns K W H0 H3 σ3 Δ3 S3 → N σ3 H3) → ts { D with nx := N, ct := N, bk := D.nx } σ1 H2) ∧
      (b = false → ∀ H2, Owns K W H0 H2 σ1 Δ1 S1 → D.nx σ1 H2)) : tWhile tt ts D σ H := by
  obtain ⟨m0, i0⟩ := h0
  refine ⟨fun m σ2 H2 => ∃ Δ2 S2, Owns K W H0 H2 σ2 Δ2 S2 ∧ Inv m Δ2 S2, ⟨m0, Δ, S, o, i0⟩, ?_⟩
  rintro m σ2 H2 ⟨Δ2, S2, o2, v2⟩
  obtain ⟨b, hb, h1, h2⟩ := hs m σ2 H2 Δ2 S2 v2 o2
  refine hb σ2 H2 o2.fr.j o2.st _ fun b' H3 f e => ?_
  subst e
  cases b' with
  | true => exact iteT ⟨fun σ4 H4 => ∃ m', m' < m ∧ ∃ Δ4 S4, Owns K W H0 H4 σ4 Δ4 S4 ∧ Inv m' Δ4 S4, fun σ4 H4 h => h, h1 rfl H3 (o2.later f) _ fun σ3 H3 Δ3 S3 m' l v o3 => ⟨m', l, Δ3, S3, o3, v⟩⟩
  | false => exact iteF (h2 rfl H3 (o2.later f))
end
end V2

set_option Elab.async false
set_option linter.all false
set_option maxRecDepth 100000
set_option maxHeartbeats 2000000
namespace V2
open PySem PySem.Spec PyProof.Rows L2
section
variable {K : PySem.W.Frag} {W : Wd} {Δ : Env} {tl te ta tb : TE} {ts : TS} {N : Env → Prop} {Rt : A → Prop} {Bk Ct : Env → Prop} {xs : List PyData}
/-- for i, x in enumerate(xs) -/
theorem xs_forEn {i1 i2 : Nat} (hl : XV K W tl Δ (.d (.list xs))) (Inv : Nat → Env → Prop) (h0 : Inv 0 Δ)
    (hs : ∀ i x Δ1, xs[i]? = some x → Inv i Δ1 → XS K W ts ((Δ1.set i1 (some (.d (.int (i : Int))))).set i2 (some (.d x))) (Inv (i + 1)) Rt N (Inv (i + 1))) (hd : ∀ Δ1, Inv xs.length Δ1 → N Δ1) :
    XS K W (tFor (iEnum K (tCons tl tNil)) (gTup K 2 (gCons (gName i1) (gCons (gName i2) gNil))) ts) Δ N Rt Bk Ct := by
  intro σ H j s D nx rt bk ct
  unfold tFor iEnum
  refine (xa_cons hl xa_nil) σ H j s _ fun us H1 as f1 e ia => ?_
  subst e
  cases ia with
  | cons ia ib =>
    cases ib
    cases ia with
    | lst h1 d1 =>
      rename_i p vs
      have m : ¬ W.M p := fun m => by rw [hid_in m] at h1; cases h1
      have h1' := h1
      rw [hid_out m] at h1'
      have ga : ∀ H2, Fr W H1 H2 → SqL K H2 p vs := fun H2 f => .inl (.inl (f.keep p _ m h1'))
      refine ⟨p, vs, rfl, ga H1 (.refl f1.j), ?_⟩
      refine ⟨fun i k σ2 H2 => k = xs.length - i ∧ i ≤ xs.length ∧ ∃ Δ2, Fr W H1 H2 ∧ StOk K W.M H2 σ2 Δ2 ∧ Inv i Δ2, ⟨xs.length, (Nat.sub_zero _).symm, Nat.zero_le _, Δ, .refl f1.j, s.fr f1, h0⟩, ?_⟩
      rintro i k σ2 H2 ⟨rfl, hi, Δ2, f2, s2, v2⟩
      have len := d1.length
      by_cases l : i < xs.length
      · obtain ⟨v, hv, dv⟩ := d1.get (List.getElem?_eq_getElem l)
        refine .inr ⟨⟨vs, v, ga H2 f2, hv⟩, fun σ3 H3 => ∃ Δ3, Fr W H1 H3 ∧ StOk K W.M H3 σ3 Δ3 ∧ Inv (i + 1) Δ3, ?_, ?_⟩
        · rintro σ3 H3 ⟨Δ3, f3, s3, v3⟩
          exact ⟨xs.length - (i + 1), by omega, rfl, l, Δ3, f3, s3, v3⟩
        · rintro y H3 ⟨T, x, rfl, nT, rfl, hx⟩
          have ex := hx vs (ga H2 f2)
          rw [hv] at ex
          cases ex
          have f3 : Fr W H2 (upd H2 T (.tup [.int (i : Nat), v])) := .new f2.j nT
          have iT : Is K W.M (upd H2 T (.tup [.int (i : Nat), v])) (.ref T) (.d (.tuple [.int (i : Int), xs[i]])) := Dt.tup (.inl (.inl (hid_new f2.j nT))) (.cons (.int _) (.cons (Dt.ext (f2.trans f3).same _ _ dv) .nil))
          refine gx_tup2 (Δ := Δ2) (.ref T) σ2 _ f3.j (s2.fr f3) iT _ fun σ4 H4 f4 s4 => ?_
          have f := (f2.trans f3).trans f4
          exact hs i xs[i] Δ2 (List.getElem?_eq_getElem l) v2 σ4 H4 f4.j s4 _ (fun σ5 H5 Δ5 f5 s5 n5 => ⟨Δ5, f.trans f5, s5, n5⟩) (fun v H5 a f5 => rt v H5 a (f1.trans (f.trans f5)))
            (fun σ5 H5 Δ5 f5 s5 n5 => nx σ5 H5 Δ5 (f1.trans (f.trans f5)) s5 n5) (fun σ5 H5 Δ5 f5 s5 n5 => ⟨Δ5, f.trans f5, s5, n5⟩)
      · obtain rfl : i = xs.length := by omega
        exact .inl ⟨⟨vs, ga H2 f2, by omega⟩, nx σ2 H2 Δ2 (f1.trans f2) s2 (hd Δ2 v2)⟩
theorem xe_slL2 {a b : Int} (h : XV K W te Δ (.d (.list xs))) (ha : XV K W ta Δ (.d (.int a))) (hb : XV K W tb Δ (.d (.int b))) : XV K W (tSl (rSlL K) te (tPart ta) (tPart tb)) Δ (.d (.list (cutD xs (some a) (some b)))) := fun σ H j s Q q =>
  h σ H j s _ fun v H1 c f1 e i1 => by
    subst e
    refine ha σ H1 f1.j (s.fr f1) _ fun w H2 c2 f2 e i2 => ?_
    subst e
    cases i2
    refine ⟨a, rfl, hb σ H2 f2.j (s.fr (f1.trans f2)) _ fun u H3 c3 f3 e i3 => ?_⟩
    subst e
    cases i3
    have f := (f1.trans f2).trans f3
    cases i1.fr (f2.trans f3) with
    | lst h1 d1 => exact ⟨b, rfl, _, _, rfl, .inl (.inl (hid_le _ _ h1)), fun p np => q _ _ _ (f.trans (.new f.j np)) rfl (Dt.lst (hid_new f.j np) (cut_dts (DtAll.ext (Fr.same (.new f.j np)) _ _ d1)))⟩
end
end V2
namespace V2
open PySem PySem.Spec PyProof.Rows L2
theorem xn_lstT {K : PySem.W.Frag} {W : Wd} {Δ : Env} {te : TE} {xs : List PyData} (h : XV K W te Δ (.d (.tuple xs))) : XN K W (tCB (rLstOf K) (tCons te tNil)) Δ (· = xs) := fun σ H j s Q q =>
  (xa_cons h xa_nil) σ H j s _ fun us H1 as f1 e ia => by
    subst e
    cases ia with
    | cons ia ib =>
      cases ib
      cases ia with
      | tup h1 d1 =>
        refine ⟨_, _, rfl, .inr (sqT_same hid_le h1), fun p np => ?_⟩
        have n0 : H p = none := by
          cases z : H p with
          | none => rfl
          | some o =>
            rw [f1.keep p o (W.fresh f1.j np) z] at np
            cases np
        exact q p _ _ xs (f1.trans (.new f1.j np)) n0 rfl upd_same (DtAll.ext (same_new (H' := H1) f1.j np) _ _ d1)
/-- a constant of flat tuples -/
theorem xe_ktup2 {K : PySem.W.Frag} {W : Wd} {Δ : Env} {t a b : Addr} {x y u v : Str} (h : ∀ H, SqT K H t [.ref a, .ref b]) (ha : ∀ H, SqT K H a [.str x, .str y]) (hb : ∀ H, SqT K H b [.str u, .str v]) : XV K W (tC (.ref t)) Δ (.d (.tuple [.tuple [.str x, .str y], .tuple [.str u, .str v]])) := fun σ H j _ Q q =>
  q _ H _ (.refl j) rfl (Dt.tup (h _) (.cons (Dt.tup (ha _) (.cons (.str _) (.cons (.str _) .nil))) (.cons (Dt.tup (hb _) (.cons (.str _) (.cons (.str _) .nil))) .nil)))
theorem xa_starT {K : PySem.W.Frag} {W : Wd} {Δ : Env} {te : TE} {t : TA} {xs ys : List PyData} (h : XV K W te Δ (.d (.tuple xs))) (r : XAs K W t Δ (dAll ys)) : XAs K W (StX.tStar K te t) Δ (dAll (xs ++ ys)) := fun σ H j s Q q =>
  h σ H j s _ fun v H1 a f1 e i => by
    subst e
    cases i with
    | tup h1 d1 =>
      rename_i p vs
      refine ⟨p, vs, rfl, .inl (sqT_same hid_le h1), r σ H1 f1.j (s.fr f1) _ fun us H2 bs f2 e2 i2 => ?_⟩
      subst e2
      refine q _ H2 _ (f1.trans f2) rfl ?_
      have d2 := DtAll.ext f2.same _ _ d1
      have go : ∀ {vs : List V} {xs : List PyData}, DtAll K (hid W.M H2) vs xs → IsAll K W.M H2 (vs ++ us) (dAll (xs ++ ys)) := by
        intro vs xs
        induction xs generalizing vs with
        | nil => intro d; cases d; exact i2
        | cons x xs ih => intro d; cases d with | cons a b => exact .cons a (ih b)
      exact go d2

section
variable {K : PySem.W.Frag} {W : Wd} {Δ : Env} {te ta tb : TE} {xs : List PyData}
theorem slA_in {lo hi : Option Int} {v : V} {H : Hp} {Q : VK} (j : W.J H) (i : Is K W.M H v (.d (.tuple xs))) (q : ∀ u H' a, Fr W H H' → a = A.d (.tuple (cutD xs lo hi)) → Is K W.M H' u a → Q u H') : rSlA K v lo hi H Q := by
  cases i with
  | tup h1 d1 =>
    rename_i p vs
    refine ⟨p, vs, rfl, sqT_same hid_le h1, fun w => ?_, fun w p2 np => ?_⟩
    · refine q _ H _ (.refl j) rfl (Dt.tup h1 ?_)
      have e : cutD xs lo hi = xs := by
        rw [d1.length] at w
        unfold cutD
        rw [w.1, w.2, List.drop_zero, Nat.sub_zero, List.take_length]
      rw [e]
      exact d1
    · exact q _ _ _ (.new j np) rfl (Dt.tup (.inl (.inl (hid_new j np))) (cut_dts (DtAll.ext (Fr.same (.new j np)) _ _ d1)))
theorem xe_slAto {k : Int} (h : XV K W te Δ (.d (.tuple xs))) (hk : XV K W ta Δ (.d (.int k))) : XV K W (tSl (rSlA K) te tNoPart (tPart ta)) Δ (.d (.tuple (cutD xs none (some k)))) := fun σ H j s Q q =>
  h σ H j s _ fun v H1 a f1 e i1 => by
    subst e
    refine hk σ H1 f1.j (s.fr f1) _ fun w H2 b f2 e i2 => ?_
    subst e
    cases i2
    exact ⟨k, rfl, slA_in f2.j (i1.fr f2) fun u H' a f e i => q u H' a ((f1.trans f2).trans f) e i⟩
theorem xe_slAfrom {k : Int} (h : XV K W te Δ (.d (.tuple xs))) (hk : XV K W ta Δ (.d (.int k))) : XV K W (tSl (rSlA K) te (tPart ta) tNoPart) Δ (.d (.tuple (cutD xs (some k) none))) := fun σ H j s Q q =>
  h σ H j s _ fun v H1 a f1 e i1 => by
    subst e
    refine hk σ H1 f1.j (s.fr f1) _ fun w H2 b f2 e i2 => ?_
    subst e
    cases i2
    exact ⟨k, rfl, slA_in f2.j (i1.fr f2) fun u H' a f e i => q u H' a ((f1.trans f2).trans f) e i⟩
end
end V2

set_option Elab.async false
set_option linter.all false
set_option maxRecDepth 100000
set_option maxHeartbeats 2000000
namespace V2
open PySem PySem.Spec PyProof.Rows L2
/-! ### expressions that may raise, in a world with a state -/
def YX {S : Type} (K : PySem.W.Frag) (Z : SW S) (s : S) (Wp : Hp → Prop) (X : S → Prop) (te : TE) (Δ : Env) (R : S → A → Prop) : Prop := ∀ σ H, Z.J s H → StOk K Z.M H σ Δ → (∀ H' t, Fr (Z.at t) H H' → X t → Wp H') → ∀ Q : VK, (∀ v H' t a, Fr (Z.at t) H H' → R t a → Is K Z.M H' v a → Q v H') → te σ H Q
section
variable {S T γ : Type} {K : PySem.W.Frag} {Z : SW S} {s : S} {Δ : Env} {te ta tb to : TE} {t : TA} {tt : TT} {ts tu : TS} {Wp : Hp → Prop} {X : S → Prop} {N : S → Env → Prop} {Rt : S → A → Prop} {Bk Ct : S → Env → Prop} {R R' : S → A → Prop}
theorem yx_of (h : YE K Z s te Δ R) : YX K Z s Wp X te Δ R := fun σ H j st _ => h σ H j st
theorem yx_mono (h : YX K Z s Wp X te Δ R) (m : ∀ t a, R t a → R' t a) : YX K Z s Wp X te Δ R' := fun σ H j st wx Q q => h σ H j st wx Q fun v H' t a f r i => q v H' t a f (m t a r) i
theorem yx_op {r : R2} {Ra : S → A → Prop} {Rb : S → A → A → Prop} (ha : YX K Z s Wp X ta Δ Ra) (hb : ∀ t a, Ra t a → XE K (Z.at t) tb Δ (Rb t a)) (hr : ∀ t a b, Ra t a → Rb t a b → OX K (Z.at t) r a b (R t)) : YX K Z s Wp X (tOp r ta tb) Δ R := fun σ H j st wx Q q =>
  ha σ H j st wx _ fun v H1 t a f1 ra i1 => hb t a ra σ H1 f1.j (st.go f1) _ fun w H2 b f2 rb i2 => hr t a b ra rb v w H2 f2.j (Is.go f2 i1) i2 Q fun x H3 c f3 rc i3 => q x H3 t c ((f1.go f2).go f3) rc i3
theorem yx_if {b : Bool} (h : XB K (Z.at s) tt Δ b) (h1 : b = true → YX K Z s Wp X ta Δ R) (h2 : b = false → YX K Z s Wp X tb Δ R) : YX K Z s Wp X (tIf tt ta tb) Δ R := fun σ H j st wx Q q => h σ H j st _ fun v H1 f e => by
  subst e
  cases v with
  | true => exact iteT (h1 rfl σ H1 f.j (st.go f) (fun H' u f' => wx H' u (f.go f')) Q fun c H2 u z f2 r i => q c H2 u z (f.go f2) r i)
  | false => exact iteF (h2 rfl σ H1 f.j (st.go f) (fun H' u f' => wx H' u (f.go f')) Q fun c H2 u z f2 r i => q c H2 u z (f.go f2) r i)
theorem ys_setX {i : Nat} (h : YX K Z s Wp X te Δ R) (n : ∀ t a, R t a → N t (Δ.set i (some a))) : YS K Z s Wp X (tAsg te (gName i)) Δ N Rt Bk Ct := fun σ H j st wx D nx _ _ _ =>
  h σ H j st wx _ fun v H1 t a f r i1 => nx _ H1 t _ f ((st.go f).set i i1) (n t a r)
theorem ys_dropX (h : YX K Z s Wp X te Δ R) (n : ∀ t a, R t a → N t Δ) : YS K Z s Wp X (tDrop te) Δ N Rt Bk Ct := fun σ H j st wx D nx _ _ _ =>
  h σ H j st wx _ fun v H1 t a f r i1 => nx _ H1 t _ f (st.go f) (n t a r)
theorem ys_retX (h : YX K Z s Wp X te Δ R) (m : ∀ t a, R t a → Rt t a) : YS K Z s Wp X (tRet te) Δ N Rt Bk Ct := fun σ H j st wx D _ rt _ _ => h σ H j st wx _ fun v H1 t a f r i1 => rt v H1 t a f (m t a r) i1
theorem ys_ifX {B : S → Bool → Prop} (h : YX K Z s Wp X te Δ fun t a => ∃ b, a = .d (.bool b) ∧ B t b) (h1 : ∀ t, B t true → YS K Z t Wp X ts Δ N Rt Bk Ct) (h2 : ∀ t, B t false → YS K Z t Wp X tu Δ N Rt Bk Ct) : YS K Z s Wp X (tIfS (tTest te) ts tu) Δ N Rt Bk Ct := fun σ H j st wx D nx rt bk ct =>
  h σ H j st wx _ fun v H1 t a f ⟨b, e, hb⟩ i => by
    subst e
    cases i
    refine ⟨_, rfl, ?_⟩
    cases b with
    | true => exact iteT (h1 t hb σ H1 f.j (st.go f) (fun H' u f' => wx H' u (f.go f')) D (fun σ2 H2 u Δ2 f2 => nx σ2 H2 u Δ2 (f.go f2)) (fun v H2 u a f2 => rt v H2 u a (f.go f2)) (fun σ2 H2 u Δ2 f2 => bk σ2 H2 u Δ2 (f.go f2)) fun σ2 H2 u Δ2 f2 => ct σ2 H2 u Δ2 (f.go f2))
    | false => exact iteF (h2 t hb σ H1 f.j (st.go f) (fun H' u f' => wx H' u (f.go f')) D (fun σ2 H2 u Δ2 f2 => nx σ2 H2 u Δ2 (f.go f2)) (fun v H2 u a f2 => rt v H2 u a (f.go f2)) (fun σ2 H2 u Δ2 f2 => bk σ2 H2 u Δ2 (f.go f2)) fun σ2 H2 u Δ2 f2 => ct σ2 H2 u Δ2 (f.go f2))
theorem ys_noR (h : YS K Z s Wp X ts Δ N Rt Bk Ct) {N' : S → Env → Prop} (n : ∀ t Δ', N t Δ' → N' t Δ') : YS K Z s Wp X ts Δ N' Rt Bk Ct := fun σ H j st wx D nx rt bk ct => h σ H j st wx D (fun σ' H' t Δ' f s' z => nx σ' H' t Δ' f s' (n t Δ' z)) rt bk ct
theorem yi_tup {tl : TE} {xs : List PyData} (h : XV K (Z.at s) tl Δ (.d (.tuple xs))) : YI K Z s (iTup K tl) Δ (· = xs.length) fun i a => ∃ d, xs[i]? = some d ∧ a = .d d := fun σ H j st R q =>
  h σ H j st _ fun v H1 a f e i => by
    subst e
    cases i with
    | tup h1 d1 =>
      rename_i p vs
      have g : ∀ {t : S} {H2 : Hp}, Fr (Z.at t) H1 H2 → SqT K H2 p vs := fun {t H2} f2 => sqT_same hid_le (sqT_same (f2.same : Same (hid Z.M H1) (hid Z.M H2)) h1)
      refine ⟨p, rfl, ⟨vs, sqT_same hid_le h1⟩, q _ H1 _ f rfl fun t H2 f2 i => ?_⟩
      refine ⟨fun l => ?_, fun l => ⟨vs, g f2, by rw [d1.length]; exact l⟩⟩
      obtain ⟨v, hv, dv⟩ := d1.get (List.getElem?_eq_getElem l)
      refine ⟨⟨vs, v, g f2, hv⟩, fun x H3 y => ⟨y.1, .d xs[i], ⟨_, List.getElem?_eq_getElem l, rfl⟩, ?_⟩⟩
      have e := y.2 vs (g f2)
      rw [hv] at e
      cases e
      exact dv
/-! ### promises about an object that holds values; an error with a field may be raised -/
theorem wpF_le {M M' : Addr → Prop} {PX PX' : PyData → Prop} {C : Addr} {f : Str} {E : XK} {H : Hp} (h : WpF K M E C f PX H) (le : ∀ a, M a → M' a) (px : ∀ y, PX' y → PX y) : WpF K M' E C f PX' H := fun d v y nd dv p =>
  h d v y nd (Dt.ext (fun b o e => by
    by_cases m : M' b
    · rw [hid_in m] at e; cases e
    · rw [hid_out m] at e
      rw [hid_out fun z => m (le b z)]
      exact e) y v dv) (px y p)
def spX (K : PySem.W.Frag) (Ce : Addr) (f : Str) (o : Addr → T → HO) (hv : γ → List V) (hd : γ → List PyData) (pre : γ → T → A → List A → Prop) (post : γ → T → T → A → Prop) (postX : γ → T → PyData → Prop) : Sp := fun us H Q E =>
  ∃ (g : γ) (S : Type) (Z : SW S) (s : S) (x dx : Addr) (get : S → T) (set : S → T → S) (as : List A), Z.J s H ∧ HasObj Z x (o dx) get set ∧ pre g (get s) (.w (.ref x) (hv g) (hd g)) as ∧ IsAll K Z.M H us as ∧
    (∀ v H' t a, Fr (Z.at (set s t)) H H' → post g (get s) t a → Is K Z.M H' v a → Q v H') ∧ ∀ H' t, Fr (Z.at (set s t)) H H' → WpF K Z.M E Ce f (postX g (get s)) H'
def BodyX (K : PySem.W.Frag) (Ce : Addr) (f : Str) (C : Addr) (fl : T → List (Str × V)) (hv : γ → List V) (hd : γ → List PyData) (N : List Str) (E : XK) (pre : γ → T → A → List A → Prop) (post : γ → T → T → A → Prop) (postX : γ → T → PyData → Prop) (t : TS) : Prop :=
  ∀ (g : γ) (S : Type) (Z : SW S) (s : S) (x dx : Addr) (get : S → T) (set : S → T → S) (as : List A), HasObj Z x (oM C fl dx) get set → pre g (get s) (.w (.ref x) (hv g) (hd g)) as →
    YS K Z s (WpF K Z.M E Ce f (postX g (get s))) (fun u => ∃ t, u = set s t) t (startE N as) (fun u _ => ∃ t, u = set s t ∧ post g (get s) t (.d .none)) (fun u a => ∃ t, u = set s t ∧ post g (get s) t a) NoS NoS
end
section
variable {S T γ : Type} {K : PySem.W.Frag} {Ce C : Addr} {f m : Str} {fl : T → List (Str × V)} {o : Addr → T → HO} {hv : γ → List V} {hd : γ → List PyData} {pre : γ → T → A → List A → Prop} {post : γ → T → T → A → Prop} {postX : γ → T → PyData → Prop} {E : XK} {Z : SW S} {s : S} {x dx : Addr} {get : S → T} {set : S → T → S} {Δ : Env} {te : TE} {ta : TA} {Wp : Hp → Prop} {X : S → Prop}
theorem bodyX_run {L : List Str} {t : TS} (h : BodyX K Ce f C fl hv hd L E pre post postX t) {us : List V} {H : Hp} {Q : VK} (p : spX K Ce f (oM C fl) hv hd pre post postX us H Q E) : t ⟨fun _ H' => Q .non H', Q, fun _ _ => False, fun _ _ => False⟩ (L2.start L us) H := by
  obtain ⟨g, S, Z, s, x, dx, get, set, as, j, ho, pr, i, q, qx⟩ := p
  refine h g S Z s x dx get set as ho pr _ H j (stOk_start i) (fun H' u f ⟨t, e⟩ => ?_) _ (fun σ' H' u Δ' f _ ⟨t, e, ps⟩ => ?_) (fun v H' u a f ⟨t, e, ps⟩ i' => ?_) (fun _ _ _ _ _ _ z => z.elim) fun _ _ _ _ _ _ z => z.elim
  · subst e
    exact qx H' t f
  · subst e
    exact q _ H' t _ f ps .non
  · subst e
    exact q v H' t a f ps i'
theorem spX_len {ps : List Str} (ar : ∀ g t ob as, pre g t ob as → as.length = ps.length) {us : List V} {H : Hp} {Q : VK} (p : spX K Ce f o hv hd pre post postX us H Q E) : us.length = ps.length := by
  obtain ⟨g, S, Z, s, x, dx, get, set, as, j, ho, pr, i, q⟩ := p
  rw [i.length]
  exact ar g _ _ as pr
theorem okX' {P : Program} {w : World} {mg : Str → Option Value} {base : Heap} {k : Nat} {fa : Addr} {fd : FuncData} {ps L : List Str} {x qual : Str} {st : Stmt} (F : Fun K x qual st fa fd) (S : FnScope L ps (defScope st)) (ar : ∀ g t ob as, pre g t ob as → as.length = ps.length)
    (body : ∀ (cdv : Value) (Ar : Around) (outer : List PySem.Env) (s : Shared) (H : Hp) (E : XK), Room k (Ar.deeper (envOfC qual (defScope st) s.heap.objs.size fa cdv)) →
      ∃ t, PSs (cxOf (CX P w) P w K mg base L qual (defScope st) fa cdv Ar outer s H E) (defBody st) t ∧ BodyX K Ce f C fl hv hd L E pre post postX t) : FnOk P w K mg base (CX P w) (k + 1) fa fd ps (spX K Ce f (oM C fl) hv hd pre post postX) :=
  F.okX S (fun us H Q E p => spX_len ar p) fun cdv Ar outer s H us Q E hr h => by
    obtain ⟨t, ht, hb⟩ := body cdv Ar outer s H E hr
    exact ⟨t, ht, bodyX_run hb h⟩
/-- o.m() -/
theorem yx_methX (g : γ) {D : Addr} {M : Addr → Prop} {PX : PyData → Prop} (h : HasObj Z x (o dx) get set) (hx : XV K (Z.at s) te Δ (.w (.ref x) (hv g) (hd g))) (ho : ∀ t, ∃ fs, o dx t = .ins D dx fs ∧ fs.lookup m = none) (p : pre g (get s) (.w (.ref x) (hv g) (hd g)) [.w (.ref x) (hv g) (hd g)])
    (hw : ∀ H, Wp H → WpF K M E Ce f PX H) (hX : ∀ t, X (set s t)) (le : ∀ a, M a → Z.M a) (px : ∀ y, postX g (get s) y → PX y) :
    YX K Z s Wp X (tMeth D m (spX K Ce f o hv hd pre post postX) [] E te tNil) Δ fun u a => ∃ t, u = set s t ∧ post g (get s) t a := fun σ H j st wx Q q =>
  hx σ H j st _ fun v H1 a f1 e i1 => by
    subst e
    have i0 := i1
    obtain ⟨e, dd⟩ := i1
    subst e
    obtain ⟨fs, eo, el⟩ := ho (get s)
    exact ⟨x, dx, fs, rfl, by rw [h.here s H1 f1.j, eo], el, g, S, Z, s, x, dx, get, set, _, f1.j, h, p, .cons (a := .w (.ref x) (hv g) (hd g)) i0 .nil, fun v H' t a f r i => q v H' (set s t) a (f1.go f) ⟨t, rfl, r⟩ i, fun H' t f => wpF_le (hw H' (wx H' (set s t) (f1.go f) (hX t))) le px⟩
/-- f(.., o) -/
theorem yx_callX (g : γ) {as : List A} {M : Addr → Prop} {PX : PyData → Prop} (h : HasObj Z x (o dx) get set) (ha : XAs K (Z.at s) ta Δ as) (p : pre g (get s) (.w (.ref x) (hv g) (hd g)) as)
    (hw : ∀ H, Wp H → WpF K M E Ce f PX H) (hX : ∀ t, X (set s t)) (le : ∀ a, M a → Z.M a) (px : ∀ y, postX g (get s) y → PX y) :
    YX K Z s Wp X (tCall (spX K Ce f o hv hd pre post postX) [] E ta) Δ fun u a => ∃ t, u = set s t ∧ post g (get s) t a := fun σ H j st wx Q q =>
  ha σ H j st _ fun us H1 as' f1 e i1 => by
    subst e
    rw [List.append_nil]
    exact ⟨g, S, Z, s, x, dx, get, set, as', f1.j, h, p, i1, fun v H' t a f r i => q v H' (set s t) a (f1.go f) ⟨t, rfl, r⟩ i, fun H' t f => wpF_le (hw H' (wx H' (set s t) (f1.go f) (hX t))) le px⟩
end
/-! ### a list of one's own in a world with a state -/
section
variable {S T γ : Type} {K : PySem.W.Frag} {Z : SW S} {s : S} {Δ : Env} {te ta tb to : TE} {t : TA} {tt : TT} {ts tu : TS} {Wp : Hp → Prop} {X : S → Prop} {N : S → Env → Prop} {Rt : S → A → Prop} {k : Nat} {H0 H : Hp} {σ : L2.St} {ds : List PyData} {D : Ends}
theorem own_ys1 (o : Own K (Z.at s) k H0 H σ Δ ds) (wx : ∀ H' u, Fr (Z.at u) H0 H' → X u → Wp H') (N : Addr → S → Env → Prop) (h : ∀ p φ, ¬ Z.M p → YS K (Z.add p φ) s Wp X ts (Δ.set k (some (.v (.ref p)))) (N p) (fun _ _ => False) NoS NoS) (hk : ∀ p u Δ', N p u Δ' → Δ'[k]? = some (some (.v (.ref p))))
    (q : ∀ p u σ' H' Δ', N p u Δ' → Own K (Z.at u) k H0 H' σ' (Δ'.set k none) ds → D.nx σ' H') : ts D σ H := by
  obtain ⟨p, vs, n0, m, hp, dd, hs, st⟩ := o.it
  have m : ¬ Z.M p := m
  have es : σ.set k (some (.ref p)) = σ := by
    obtain ⟨l, e⟩ := List.getElem?_eq_some_iff.mp hs
    rw [← e]
    exact List.set_getElem_self l
  have s1 : StOk K (fun a => Z.M a ∨ a = p) H σ (Δ.set k (some (.v (.ref p)))) := by
    have z := st.set (a := .v (.ref p)) (v := .ref p) k rfl
    rwa [es] at z
  have back : ∀ {u : S} {H' : Hp}, Fr ((Z.add p (· = .lst vs)).at u) H H' → Fr (Z.at u) H0 H' := fun {u H'} f => ⟨fun a o' nm e => f.keep a o' (fun z => z.elim nm (ne_of_none e n0)) (o.fr.keep a o' nm e), f.j.1⟩
  refine h p (· = .lst vs) m σ H ⟨o.fr.j, _, hp, rfl⟩ s1 (fun H' u f => wx H' u (back f)) _ (fun σ' H' u Δ' f s' n => ?_) (fun _ _ _ _ _ z => z.elim) (fun _ _ _ _ _ _ z => z.elim) fun _ _ _ _ _ _ z => z.elim
  obtain ⟨w, hp', e⟩ := f.j.2
  subst e
  obtain ⟨v, hv, iv⟩ := s'.get k _ (hk p u Δ' n)
  have iv : v = .ref p := iv
  subst iv
  have es' : σ'.set k (some (.ref p)) = σ' := by
    obtain ⟨l, e⟩ := List.getElem?_eq_some_iff.mp hv
    rw [← e]
    exact List.set_getElem_self l
  have s2 := s'.unset k (some (.ref p))
  rw [es'] at s2
  exact q p u σ' H' Δ' n ⟨back f, p, vs, n0, m, hp', DtAll.ext (f.same : Same (hid (fun a => Z.M a ∨ a = p) H) (hid (fun a => Z.M a ∨ a = p) H')) _ _ dd, hv, s2⟩
/-- what ends the call -/
theorem own_end (o : Own K (Z.at s) k H0 H σ Δ ds) (wx : ∀ H' u, Fr (Z.at u) H0 H' → X u → Wp H') (h : YS K Z s Wp X ts (Δ.set k (some (.d (.list ds)))) (fun _ _ => False) Rt NoS NoS) (rt : ∀ v H' u a, Fr (Z.at u) H0 H' → Rt u a → Is K Z.M H' v a → D.rt v H') : ts D σ H :=
  h σ H o.fr.j o.st (fun H' u f => wx H' u (o.fr.go f)) D (fun _ _ _ _ _ _ z => z.elim) (fun v H' u a f => rt v H' u a (o.fr.go f)) (fun _ _ _ _ _ _ z => z.elim) fun _ _ _ _ _ _ z => z.elim
theorem own_whileS (Inv : Nat → S → Env → List PyData → Prop) (o : Own K (Z.at s) k H0 H σ Δ ds) (h0 : ∃ m, Inv m s Δ ds)
    (hs : ∀ m u σ1 H1 Δ1 ds1, Inv m u Δ1 ds1 → Own K (Z.at u) k H0 H1 σ1 Δ1 ds1 → ∃ b, XB K (Z.at u) tt (Δ1.set k (some (.d (.list ds1)))) b ∧
      (b = true → ∀ H2, Own K (Z.at u) k H0 H2 σ1 Δ1 ds1 → ∀ N : L2.St → Hp → Prop, (∀ u' σ3 H3 Δ3 ds3 m', m' < m → Inv m' u' Δ3 ds3 → Own K (Z.at u') k H0 H3 σ3 Δ3 ds3 → N σ3 H3) → ts { D with nx := N, ct := N, bk := D.nx } σ1 H2) ∧
      (b = false → ∀ H2, Own K (Z.at u) k H0 H2 σ1 Δ1 ds1 → D.nx σ1 H2)) : tWhile tt ts D σ H := by
  obtain ⟨m0, i0⟩ := h0
  refine ⟨fun m σ2 H2 => ∃ u Δ2 ds2, Own K (Z.at u) k H0 H2 σ2 Δ2 ds2 ∧ Inv m u Δ2 ds2, ⟨m0, s, Δ, ds, o, i0⟩, ?_⟩
  rintro m σ2 H2 ⟨u, Δ2, ds2, o2, v2⟩
  obtain ⟨b, hb, h1, h2⟩ := hs m u σ2 H2 Δ2 ds2 v2 o2
  refine hb σ2 H2 o2.fr.j o2.st _ fun b' H3 f e => ?_
  subst e
  cases b' with
  | true => exact iteT ⟨fun σ4 H4 => ∃ m', m' < m ∧ ∃ u' Δ4 ds4, Own K (Z.at u') k H0 H4 σ4 Δ4 ds4 ∧ Inv m' u' Δ4 ds4, fun σ4 H4 h => h, h1 rfl H3 (o2.later f) _ fun u' σ3 H3 Δ3 ds3 m' l v o3 => ⟨m', l, u', Δ3, ds3, o3, v⟩⟩
  | false => exact iteF (h2 rfl H3 (o2.later f))
/-- for x in xs, a list that stood ahead of one's own -/
theorem own_lstS {i j : Nat} {xs : List PyData} {a : Addr} {vs : List V} (o : Own K (Z.at s) k H0 H σ Δ ds) (ne : i ≠ k) (hj : σ[j]? = some (some (.ref a))) (ha : hid Z.M H0 a = some (.lst vs)) (da : DtAll K (hid Z.M H0) vs xs)
    (Inv : Nat → S → Env → List PyData → Prop) (h0 : Inv 0 s Δ ds)
    (hs : ∀ (m : Nat) (x : PyData) (v : V) (u : S) (σ1 : L2.St) (H1 : Hp) (Δ1 : Env) (ds1 : List PyData), xs[m]? = some x → Inv m u Δ1 ds1 → Own K (Z.at u) k H0 H1 (σ1.set i (some v)) (Δ1.set i (some (.d x))) ds1 →
      ∀ N : L2.St → Hp → Prop, (∀ u' σ2 H2 Δ2 ds2, Own K (Z.at u') k H0 H2 σ2 Δ2 ds2 → Inv (m + 1) u' Δ2 ds2 → N σ2 H2) → ts { D with nx := N, ct := N, bk := D.nx } (σ1.set i (some v)) H1)
    (hd : ∀ (u : S) (σ1 : L2.St) (H1 : Hp) (Δ1 : Env) (ds1 : List PyData), Own K (Z.at u) k H0 H1 σ1 Δ1 ds1 → Inv xs.length u Δ1 ds1 → D.nx σ1 H1) : tFor (iList K (tVar j)) (gName i) ts D σ H := by
  have ma : ¬ Z.M a := fun m => by rw [hid_in m] at ha; cases ha
  have ga : ∀ u H2, Fr (Z.at u) H0 H2 → SqL K H2 a vs := fun u H2 f => .inl (.inl (f.keep a _ ma (by rw [hid_out ma] at ha; exact ha)))
  refine ⟨.ref a, hj, a, rfl, ⟨vs, ga s H o.fr⟩, for_list (xs := vs) (fun m σ2 H2 => ∃ u Δ2 ds2, Own K (Z.at u) k H0 H2 σ2 Δ2 ds2 ∧ Inv m u Δ2 ds2) ⟨s, Δ, ds, o, h0⟩ (fun m σ2 H2 _ ⟨u, Δ2, ds2, o2, _⟩ => ga u H2 o2.fr) ?_ ?_⟩
  · rintro m v σ2 H2 hv ⟨u, Δ2, ds2, o2, v2⟩
    have l : m < xs.length := by
      rw [← da.length]
      exact (List.getElem?_eq_some_iff.mp hv).1
    obtain ⟨v', hv', dv⟩ := da.get (List.getElem?_eq_getElem l)
    rw [hv] at hv'
    cases hv'
    obtain ⟨p, us, n0, mp, hp, dd, hk, st⟩ := o2.it
    have iv : Is K (fun a => Z.M a ∨ a = p) H2 v (.d xs[m]) := Dt.ext (same_in (W := Z.at u) (φ := fun _ => True) o2.fr n0) _ _ dv
    refine hs m xs[m] v u σ2 H2 Δ2 ds2 (List.getElem?_eq_getElem l) v2 ⟨o2.fr, p, us, n0, mp, hp, dd, by rw [List.getElem?_set_ne ne]; exact hk, st.set i iv⟩ _ fun u' σ3 H3 Δ3 ds3 o3 v3 => ⟨u', Δ3, ds3, o3, v3⟩
  · rintro σ2 H2 ⟨u, Δ2, ds2, o2, v2⟩
    rw [da.length] at v2
    exact hd u σ2 H2 Δ2 ds2 o2 v2
/-- name, other = [], e -/
theorem own_par {W : Wd} {i : Nat} {b : A} (ne : k ≠ i) (f0 : Fr W H0 H) (st : StOk K W.M H σ Δ) (hk : k < σ.length) (he : ∀ W', XV K W' te Δ b)
    (q : ∀ v w H', Own K W k H0 H' ((σ.set k (some v)).set i (some w)) ((Δ.set k none).set i (some b)) [] → D.nx ((σ.set k (some v)).set i (some w)) H') : tPar k i (tCons (tLst tNil) (tCons te tNil)) D σ H := by
  refine ⟨by decide, fun p np => ?_⟩
  have m : ¬ W.M p := W.fresh f0.j np
  have n0 : H0 p = none := by
    cases z : H0 p with
    | none => rfl
    | some o => rw [f0.keep p o m z] at np; cases np
  have fp : Fr W H (upd H p (.lst [])) := .new f0.j np
  have s1 : StOk K (fun a => W.M a ∨ a = p) (upd H p (.lst [])) σ Δ := st.ext (same_in (φ := fun _ => True) fp np)
  refine he (W.add p (· = .lst [])) σ _ ⟨fp.j, _, upd_same, rfl⟩ s1 _ fun y H2 b' f e ib => ?_
  subst e
  obtain ⟨u, hp2, e⟩ := f.j.2
  subst e
  refine ⟨_, _, rfl, q _ _ H2 ⟨⟨fun a o' nm e => f.keep a o' (fun z => z.elim nm (ne_of_none e n0)) (fp.keep a o' nm (f0.keep a o' nm e)), f.j.1⟩, p, [], n0, m, hp2, .nil, ?_, ?_⟩⟩
  · rw [List.getElem?_set_ne ne.symm, List.getElem?_set_self hk]
  · exact ((s1.fr f).unset k (some (.ref p))).set i ib
/-- one's own grows by what an expression that may raise tells -/
theorem own_appX {P : S → PyData → Prop} (h : Own K (Z.at s) k H0 H σ Δ ds) (wx : ∀ H' u, Fr (Z.at u) H0 H' → X u → Wp H') (small : ds.length ≤ 100000) (he : ∀ p φ, ¬ Z.M p → YX K (Z.add p φ) s Wp X te Δ fun u a => ∃ d, a = .d d ∧ P u d)
    (q : ∀ u H' d, P u d → Own K (Z.at u) k H0 H' σ Δ (ds ++ [d]) → D.nx σ H') : tDrop (tBM K "list" rAppend (tVar k) (tCons te tNil)) D σ H := by
  obtain ⟨p, vs, n0, m, hp, dd, hk, st⟩ := h.it
  have m : ¬ Z.M p := m
  refine ⟨_, hk, .inl ⟨rfl, _, .inl (.inl hp)⟩, ?_⟩
  have back : ∀ {u : S} {H' : Hp}, Fr ((Z.add p (· = .lst vs)).at u) H H' → Fr (Z.at u) H0 H' := fun {u H'} f => ⟨fun a o' nm e => f.keep a o' (fun z => z.elim nm (ne_of_none e n0)) (h.fr.keep a o' nm e), f.j.1⟩
  refine he p (· = .lst vs) m σ H ⟨h.fr.j, _, hp, rfl⟩ st (fun H' u f => wx H' u (back f)) _ fun v H1 u a f1 r i1 => ?_
  obtain ⟨d, e, pd⟩ := r
  subst e
  obtain ⟨u', hp1, e⟩ := f1.j.2
  subst e
  have fb := back f1
  refine ⟨p, vs, v, rfl, rfl, hp1, Nat.lt_of_le_of_lt (by rw [dd.length]; exact small) (by decide), q u _ d pd ⟨?_, p, vs ++ [v], n0, m, upd_same, ?_, hk, ?_⟩⟩
  · refine ⟨fun a o nm e => ?_, Z.loc u H1 _ (fun a ma => upd_ne fun z => m (z ▸ ma)) f1.j.1⟩
    rw [upd_ne (ne_of_none e n0)]
    exact fb.keep a o nm e
  · have : DtAll K (hid (fun a => Z.M a ∨ a = p) H1) (vs ++ [v]) (ds ++ [d]) := DtAll.append (DtAll.ext (f1.same : Same (hid (fun a => Z.M a ∨ a = p) H) (hid (fun a => Z.M a ∨ a = p) H1)) _ _ dd) (.cons i1 .nil)
    have e : hid (fun a => Z.M a ∨ a = p) (upd H1 p (.lst (vs ++ [v]))) = hid (fun a => Z.M a ∨ a = p) H1 := hid_upd (.inr rfl)
    exact e ▸ this
  · have s2 : StOk K (fun a => Z.M a ∨ a = p) H1 σ Δ := st.ext (f1.same : Same (hid (fun a => Z.M a ∨ a = p) H) (hid (fun a => Z.M a ∨ a = p) H1))
    refine s2.ext fun a o e => ?_
    rw [show hid (fun a => (Z.at u).M a ∨ a = p) (upd H1 p (.lst (vs ++ [v]))) = hid (fun a => Z.M a ∨ a = p) H1 from hid_upd (.inr rfl)]
    exact e
end
end V2

set_option Elab.async false
set_option linter.all false
set_option maxRecDepth 100000
set_option maxHeartbeats 2000000
namespace V2
open PySem PySem.Spec PyProof.Rows L2
/-! ### a list that is not to be reached: where it stands and its things alone are known -/
def HasRow (W : Wd) (p : Addr × List V) : Prop := W.M p.1 ∧ ∀ H, W.J H → H p.1 = some (.lst p.2)
def HasRowS {S : Type} (Z : SW S) (p : Addr × List V) : Prop := ∀ s, HasRow (Z.at s) p
theorem HasRow.add {W : Wd} {D : Addr} {φ : HO → Prop} {p : Addr × List V} (h : HasRow W p) : HasRow (W.add D φ) p := ⟨.inl h.1, fun H j => h.2 H j.1⟩
theorem HasRowS.add {S : Type} {Z : SW S} {D : Addr} {φ : HO → Prop} {p : Addr × List V} (h : HasRowS Z p) : HasRowS (Z.add D φ) p := fun s => ⟨.inl (h s).1, fun H j => (h s).2 H j.1⟩
theorem HasRowS.obj {S T : Type} {Z : SW S} {x : Addr} {o : T → HO} {p : Addr × List V} (h : HasRowS Z p) : HasRowS (Z.obj x o) p := fun s => ⟨.inl (h s.1).1, fun H j => (h s.1).2 H j.1⟩
theorem HasRow.of {W : Wd} {p : Addr × List V} (h : HasRow W p) : HasRowS (SW.of W) p := fun _ => h
section
variable {S T γ : Type} {K : PySem.W.Frag} {Ce C : Addr} {f m : Str} {fl : T → List (Str × V)} {o : Addr → T → HO} {hr : γ → Addr × List V} {hd : γ → List PyData} {pre : γ → T → A → List A → Prop} {post : γ → T → T → A → Prop} {postX : γ → T → PyData → Prop} {E : XK} {Z : SW S} {s : S} {W : Wd} {x dx ad : Addr} {rv : List V} {xs : List PyData} {get : S → T} {set : S → T → S} {Δ : Env} {te to : TE} {ta : TA} {ts : TS} {Wp : Hp → Prop} {X : S → Prop}
theorem ox_ixH {i : Int} {z : PyData} (hz : HasRow W (ad, rv)) (h0 : 0 ≤ i) (h : xs[i.toNat]? = some z) : OX K W (rIxL K) (.w (.ref ad) rv xs) (.d (.int i)) (· = .d z) := fun v w H j i1 i2 Q q => by
  cases i2
  obtain ⟨e, dd⟩ := i1
  subst e
  obtain ⟨u, hu, du⟩ := dd.get h
  exact ⟨_, _, _, u, rfl, rfl, .inl (.inl (hz.2 H j)), at_of (j := i.toNat) (by omega) hu, q _ H _ (.refl j) rfl du⟩
theorem cx_lenH (hz : HasRow W (ad, rv)) : CX1 K W (rLen K) [.w (.ref ad) rv xs] (· = .d (.int xs.length)) := fun vs H j i Q q => by
  cases i with
  | cons h t =>
    cases t
    obtain ⟨e, dd⟩ := h
    subst e
    exact ⟨_, _, rfl, .inl (.inl (.inl (hz.2 H j))), by rw [dd.length]; exact q _ H _ (.refl j) rfl (.int _)⟩
theorem xe_fldH (h : HasObj Z x (oM C fl dx) get set) (c : Cls K C) (n : NoAttr K C f) (hv : XV K (Z.at s) to Δ (.w (.ref x) rv xs)) (l : (fl (get s)).lookup f = some (.ref ad)) : XV K (Z.at s) (tFld K to f) Δ (.w (.ref ad) rv xs) := fun σ H j st Q q =>
  hv σ H j st _ fun v H1 a f1 e i1 => by
    subst e
    obtain ⟨e, dd⟩ := i1
    subst e
    exact ⟨x, C, dx, _, _, rfl, h.here s H1 f1.j, c, n, l, q _ H1 _ f1 rfl ⟨rfl, dd⟩⟩
def spR (K : PySem.W.Frag) (Ce : Addr) (f : Str) (o : Addr → T → HO) (hr : γ → Addr × List V) (hd : γ → List PyData) (pre : γ → T → A → List A → Prop) (post : γ → T → T → A → Prop) (postX : γ → T → PyData → Prop) : Sp := fun us H Q E =>
  ∃ (g : γ) (S : Type) (Z : SW S) (s : S) (x dx : Addr) (get : S → T) (set : S → T → S) (as : List A), Z.J s H ∧ HasObj Z x (o dx) get set ∧ HasRowS Z (hr g) ∧ pre g (get s) (.w (.ref x) (hr g).2 (hd g)) as ∧ IsAll K Z.M H us as ∧
    (∀ v H' t a, Fr (Z.at (set s t)) H H' → post g (get s) t a → Is K Z.M H' v a → Q v H') ∧ ∀ H' t, Fr (Z.at (set s t)) H H' → WpF K Z.M E Ce f (postX g (get s)) H'
def BodyR (K : PySem.W.Frag) (Ce : Addr) (f : Str) (C : Addr) (fl : T → List (Str × V)) (hr : γ → Addr × List V) (hd : γ → List PyData) (N : List Str) (E : XK) (pre : γ → T → A → List A → Prop) (post : γ → T → T → A → Prop) (postX : γ → T → PyData → Prop) (t : TS) : Prop :=
  ∀ (g : γ) (S : Type) (Z : SW S) (s : S) (x dx : Addr) (get : S → T) (set : S → T → S) (as : List A), HasObj Z x (oM C fl dx) get set → HasRowS Z (hr g) → pre g (get s) (.w (.ref x) (hr g).2 (hd g)) as →
    YS K Z s (WpF K Z.M E Ce f (postX g (get s))) (fun u => ∃ t, u = set s t) t (startE N as) (fun u _ => ∃ t, u = set s t ∧ post g (get s) t (.d .none)) (fun u a => ∃ t, u = set s t ∧ post g (get s) t a) NoS NoS
theorem bodyR_run {L : List Str} {t : TS} (h : BodyR K Ce f C fl hr hd L E pre post postX t) {us : List V} {H : Hp} {Q : VK} (p : spR K Ce f (oM C fl) hr hd pre post postX us H Q E) : t ⟨fun _ H' => Q .non H', Q, fun _ _ => False, fun _ _ => False⟩ (L2.start L us) H := by
  obtain ⟨g, S, Z, s, x, dx, get, set, as, j, ho, hz, pr, i, q, qx⟩ := p
  refine h g S Z s x dx get set as ho hz pr _ H j (stOk_start i) (fun H' u f ⟨t, e⟩ => ?_) _ (fun σ' H' u Δ' f _ ⟨t, e, ps⟩ => ?_) (fun v H' u a f ⟨t, e, ps⟩ i' => ?_) (fun _ _ _ _ _ _ z => z.elim) fun _ _ _ _ _ _ z => z.elim
  · subst e
    exact qx H' t f
  · subst e
    exact q _ H' t _ f ps .non
  · subst e
    exact q v H' t a f ps i'
theorem spR_len {ps : List Str} (ar : ∀ g t ob as, pre g t ob as → as.length = ps.length) {us : List V} {H : Hp} {Q : VK} (p : spR K Ce f o hr hd pre post postX us H Q E) : us.length = ps.length := by
  obtain ⟨g, S, Z, s, x, dx, get, set, as, j, ho, hz, pr, i, q⟩ := p
  rw [i.length]
  exact ar g _ _ as pr
theorem okR {P : Program} {w : World} {mg : Str → Option Value} {base : Heap} {k : Nat} {fa : Addr} {fd : FuncData} {ps L : List Str} {x qual : Str} {st : Stmt} (F : Fun K x qual st fa fd) (S : FnScope L ps (defScope st)) (ar : ∀ g t ob as, pre g t ob as → as.length = ps.length)
    (body : ∀ (cdv : Value) (Ar : Around) (outer : List PySem.Env) (s : Shared) (H : Hp) (E : XK), Room k (Ar.deeper (envOfC qual (defScope st) s.heap.objs.size fa cdv)) →
      ∃ t, PSs (cxOf (CX P w) P w K mg base L qual (defScope st) fa cdv Ar outer s H E) (defBody st) t ∧ BodyR K Ce f C fl hr hd L E pre post postX t) : FnOk P w K mg base (CX P w) (k + 1) fa fd ps (spR K Ce f (oM C fl) hr hd pre post postX) :=
  F.okX S (fun us H Q E p => spR_len ar p) fun cdv Ar outer s H us Q E hr h => by
    obtain ⟨t, ht, hb⟩ := body cdv Ar outer s H E hr
    exact ⟨t, ht, bodyR_run hb h⟩
/-- o.m() -/
theorem yr_meth (g : γ) {D : Addr} {M : Addr → Prop} {PX : PyData → Prop} (h : HasObj Z x (o dx) get set) (hz : HasRowS Z (hr g)) (hx : XV K (Z.at s) te Δ (.w (.ref x) (hr g).2 (hd g))) (ho : ∀ t, ∃ fs, o dx t = .ins D dx fs ∧ fs.lookup m = none) (p : pre g (get s) (.w (.ref x) (hr g).2 (hd g)) [.w (.ref x) (hr g).2 (hd g)])
    (hw : ∀ H, Wp H → WpF K M E Ce f PX H) (hX : ∀ t, X (set s t)) (le : ∀ a, M a → Z.M a) (px : ∀ y, postX g (get s) y → PX y) :
    YX K Z s Wp X (tMeth D m (spR K Ce f o hr hd pre post postX) [] E te tNil) Δ fun u a => ∃ t, u = set s t ∧ post g (get s) t a := fun σ H j st wx Q q =>
  hx σ H j st _ fun v H1 a f1 e i1 => by
    subst e
    have i0 := i1
    obtain ⟨e, dd⟩ := i1
    subst e
    obtain ⟨fs, eo, el⟩ := ho (get s)
    exact ⟨x, dx, fs, rfl, by rw [h.here s H1 f1.j, eo], el, g, S, Z, s, x, dx, get, set, _, f1.j, h, hz, p, .cons (a := .w (.ref x) (hr g).2 (hd g)) i0 .nil, fun v H' t a f r i => q v H' (set s t) a (f1.go f) ⟨t, rfl, r⟩ i, fun H' t f => wpF_le (hw H' (wx H' (set s t) (f1.go f) (hX t))) le px⟩
/-- f(.., o) -/
theorem yr_call (g : γ) {as : List A} {M : Addr → Prop} {PX : PyData → Prop} (h : HasObj Z x (o dx) get set) (hz : HasRowS Z (hr g)) (ha : XAs K (Z.at s) ta Δ as) (p : pre g (get s) (.w (.ref x) (hr g).2 (hd g)) as)
    (hw : ∀ H, Wp H → WpF K M E Ce f PX H) (hX : ∀ t, X (set s t)) (le : ∀ a, M a → Z.M a) (px : ∀ y, postX g (get s) y → PX y) :
    YX K Z s Wp X (tCall (spR K Ce f o hr hd pre post postX) [] E ta) Δ fun u a => ∃ t, u = set s t ∧ post g (get s) t a := fun σ H j st wx Q q =>
  ha σ H j st _ fun us H1 as' f1 e i1 => by
    subst e
    rw [List.append_nil]
    exact ⟨g, S, Z, s, x, dx, get, set, as', f1.j, h, hz, p, i1, fun v H' t a f r i => q v H' (set s t) a (f1.go f) ⟨t, rfl, r⟩ i, fun H' t f => wpF_le (hw H' (wx H' (set s t) (f1.go f) (hX t))) le px⟩
/-- name = C(e), e such a list: the object holds it -/
theorem ys_makeH {N : S → Env → Prop} {Rt : S → A → Prop} {Bk Ct : S → Env → Prop} {t0 : Addr → T} {sp : Sp} {k : Nat} (he : XV K (Z.at s) te Δ (.w (.ref ad) rv xs))
    (hi : ∀ (x dx : Addr) (H : Hp) (Q : VK), H x = some (.ins C dx []) → Q .non (upd H x (.ins C dx (fl (t0 ad)))) → sp [.ref x, .ref ad] H Q E)
    (h : ∀ x dx, ¬ Z.M x → YS K (Z.obj x (oM C fl dx)) (s, t0 ad) Wp (fun u => X u.1) ts (Δ.set k (some (.w (.ref x) rv xs))) (fun u => N u.1) (fun u => Rt u.1) (fun u => Bk u.1) (fun u => Ct u.1)) :
    YS K Z s Wp X (tSeq (tAsg (tMake C sp [] E (tCons te tNil)) (gName k)) ts) Δ N Rt Bk Ct := fun σ H j st wx D nx rt bk ct =>
  seq_in (show tCons te tNil σ H (fun vs H1 => ∀ x dx, H1 x = none → H1 dx = none → dx ≠ x → sp (.ref x :: (vs ++ [])) (upd (upd H1 dx (.own x)) x (.ins C dx [])) (fun v H2 => v = .non ∧ ts D (σ.set k (some (.ref x))) H2) E) from
    (xa_cons he xa_nil) σ H j st _ fun vs H1 as f1 e i1 => by
      subst e
      cases i1 with
      | cons i1 i2 =>
        cases i2
        obtain ⟨e, dd⟩ := i1
        subst e
        intro x dx nx0 ndx ne
        have fa : Fr (Z.at s) H1 (upd H1 dx (.own x)) := .new f1.j ndx
        have nx1 : (upd H1 dx (.own x)) x = none := by rw [upd_ne ne.symm]; exact nx0
        refine hi x dx _ _ upd_same ⟨rfl, ?_⟩
        have e2 : upd (upd (upd H1 dx (.own x)) x (.ins C dx [])) x (.ins C dx (fl (t0 ad))) = upd (upd H1 dx (.own x)) x (.ins C dx (fl (t0 ad))) := upd_upd
        rw [e2]
        have m : ¬ Z.M x := Wd.fresh (W := Z.at s) f1.j nx0
        have g1 := Grw.fr (s := s) (f1.trans fa)
        have g2 := Grw.obj (o := oM C fl dx) (t0 := t0 ad) fa.j nx1
        have g := g1.trans g2
        have iv : Is K (Z.obj x (oM C fl dx)).M (upd (upd H1 dx (.own x)) x (.ins C dx (fl (t0 ad)))) (.ref x) (.w (.ref x) rv xs) := ⟨rfl, DtAll.ext (fun b u e => g2.sm b u (fa.same (W := Z.at s) b u e)) _ _ dd⟩
        exact ys_in g ((st.ext g.sm).set (a := .w (.ref x) rv xs) k iv) (h x dx m) wx nx rt bk ct)
end
end V2
namespace V2
open PySem PySem.Spec PyProof.Rows L2
/-! ### isinstance of an error with fields -/
def rIsD (K : PySem.W.Frag) (a : Addr) (cls : Value) (d : Option Addr) : List V → Hp → VK → Prop := fun xs H Q => ∃ (D dd : Addr) (fs : List (Str × V)) (c : V) (cv : Value) (b : Bool), cls = .ref D ∧ d = some dd ∧ ExcC K D ∧ xs = [.ref a, c] ∧ H dd = some (.xd fs) ∧ (∀ u, RelV c u → u = cv) ∧ PySem.W.kitOne K (.ref D) cv = some b ∧ Q (.bl b) H
theorem call_isD {X : Cx} {a : Addr} {cls : Value} {d : Option Addr} {oe : Obj} {pn : List (Addr × Obj)} (hz : Zc cls d oe) (hf : ∃ vs, oe.data = .fields vs) : CallR (X.suite a ((a, oe) :: pn)) (.builtin "isinstance") (rIsD X.K a cls d) := by
  intro pins s σ H xs us Q I r h
  obtain ⟨D, dd, fs, c, cv, b, ec, ed, C, exs, hH, hcv, e, q⟩ := h
  subst ec ed exs
  cases r with
  | cons rx rr =>
    cases rr with
    | cons rt rr =>
      cases rr
      cases rx
      have eu := hcv _ rt
      subst eu
      obtain ⟨hget, _⟩ := I.pin (a, oe) (List.mem_append_left _ List.mem_cons_self)
      obtain ⟨vs, hv⟩ := hf
      have hx : ObjOk X.prog X.w H s.heap dd (.xd fs) := I.hok dd _ hH
      obtain ⟨mA, hns, _⟩ := hx
      obtain ⟨od, ho, _⟩ := lookIn_ns hns
      have hcl : (PySem.W.clsIn X.K D).isSome = true := by
        obtain ⟨cd, hc, _⟩ := PySem.W.any_some C.hd
        rw [hc]
        rfl
      have J : PySem.W.InstAt s.heap a oe D (some od) := ⟨hget, hz.1, by unfold PySem.W.notCls; rw [hv], by rw [hz.2]; exact ho⟩
      exact PySem.W.kia_one (PySem.W.kitx_exc hcl C.hg C.hk C.hs C.ha C.hn C.ht C.hm) I.kIn J e (fun z => nomatch z) fun tk => ⟨.bl b, H, I.kept (t' := tk) fun _ _ z => z, rfl, q⟩
theorem cx_isD {K : PySem.W.Frag} {W : Wd} {D q d : Addr} {f : Str} {v : V} {vs : List V} {ds : List PyData} {c : V} {cv : Value} {b : Bool} (C : ExcC K D) (hc : ∀ u, RelV c u → u = cv) (hk : PySem.W.kitOne K (.ref D) cv = some b) : CX1 K (W.err d f v) (rIsD K q (.ref D) (some d)) [.w (.ref q) vs ds, .v c] (· = .d (.bool b)) := fun us H j i Q k => by
  cases i with
  | cons i1 i2 =>
    cases i2 with
    | cons i2 i3 =>
      cases i3
      obtain ⟨e1, _⟩ := i1
      have e2 : _ = c := i2
      subst e1 e2
      obtain ⟨u, hu, eu⟩ := j.2
      subst eu
      exact ⟨D, d, _, _, cv, b, rfl, rfl, C, rfl, hu, hc, hk, k _ H _ (.refl j) rfl (.bl b)⟩
/-! ### a call while all lists that stand are hidden -/
/-- as W, and all lists that stand at H are hidden, and stay as they are -/
def Wd.still (W : Wd) (H : Hp) : Wd where
  M a := W.M a ∨ ∃ vs, H a = some (.lst vs)
  J H' := W.J H' ∧ ∀ a vs, ¬ W.M a → H a = some (.lst vs) → H' a = some (.lst vs)
  live H' a j m := by
    by_cases z : W.M a
    · exact W.live H' a j.1 z
    · rcases m with m | ⟨vs, e⟩
      · exact W.live H' a j.1 m
      · rw [j.2 a vs z e]
        nofun
  loc H1 H2 e j := ⟨W.loc H1 H2 (fun a m => e a (.inl m)) j.1, fun a vs n h => by rw [e a (.inr ⟨vs, h⟩)]; exact j.2 a vs n h⟩
theorem still_j {W : Wd} {H : Hp} (j : W.J H) : (W.still H).J H := ⟨j, fun _ _ _ e => e⟩
theorem still_fr {W : Wd} {H H' : Hp} (f : Fr (W.still H) H H') : Fr W H H' := ⟨fun a o n e => by
  by_cases z : ∃ vs, H a = some (.lst vs)
  · obtain ⟨vs, h⟩ := z
    rw [h] at e
    cases e
    exact f.j.2 a vs n h
  · exact f.keep a o (fun m => m.elim n z) e, f.j.1⟩
theorem still_le {W : Wd} {H H' : Hp} : Same (hid (W.still H).M H') (hid W.M H') := fun a o e => by
  by_cases m : W.M a ∨ ∃ vs, H a = some (.lst vs)
  · rw [hid_in (M := (W.still H).M) m] at e; cases e
  · rw [hid_out (M := (W.still H).M) m] at e
    rw [hid_out fun z => m (.inl z)]
    exact e
mutual
def noLs : PyData → Bool
  | .list _ => false
  | .tuple ds => noLsA ds
  | .dict _ => false
  | _ => true
def noLsA : List PyData → Bool
  | [] => true
  | d :: ds => noLs d && noLsA ds
end
theorem noLsA_of : ∀ {ds : List PyData}, (∀ d ∈ ds, noLs d = true) → noLsA ds = true
  | [], _ => by simp [noLsA]
  | d :: ds, h => by simp [noLsA, h d (.head _), noLsA_of fun x hx => h x (.tail _ hx)]
theorem sqT_still {K : PySem.W.Frag} {W : Wd} {H : Hp} {a : Addr} {xs : List V} (h : SqT K (hid W.M H) a xs) : SqT K (hid (W.still H).M H) a xs := by
  have go : ∀ o, (∀ vs, o ≠ HO.lst vs) → hid W.M H a = some o → hid (W.still H).M H a = some o := fun o n e => by
    by_cases m : W.M a
    · rw [hid_in m] at e; cases e
    · rw [hid_out m] at e
      rw [hid_out fun z : (W.still H).M a => z.elim m fun ⟨vs, h⟩ => by rw [h] at e; cases e; exact n vs rfl]
      exact e
  rcases h with (h | ⟨o, h⟩) | h
  · exact .inl (.inl (go _ (fun _ => nofun) h))
  · exact .inl (.inr ⟨o, go _ (fun _ => nofun) h⟩)
  · exact .inr h
mutual
theorem dt_still {K : PySem.W.Frag} {W : Wd} {H : Hp} : ∀ (d : PyData) (v : V), noLs d = true → Dt K (hid W.M H) v d → Dt K (hid (W.still H).M H) v d
  | .none, _, _, .non => .non
  | .bool _, _, _, .bl b => .bl b
  | .int _, _, _, .int i => .int i
  | .str _, _, _, .str x => .str x
  | .tuple ds, _, n, .tup h q => .tup (sqT_still h) (dta_still ds _ (by simpa only [noLs] using n) q)
  | .list ds, _, n, _ => by simp [noLs] at n
  | .dict ds, _, n, _ => by simp [noLs] at n
theorem dta_still {K : PySem.W.Frag} {W : Wd} {H : Hp} : ∀ (ds : List PyData) (vs : List V), noLsA ds = true → DtAll K (hid W.M H) vs ds → DtAll K (hid (W.still H).M H) vs ds
  | [], _, _, .nil => .nil
  | d :: ds, _, n, .cons h q => by
    simp only [noLsA, Bool.and_eq_true] at n
    exact .cons (dt_still d _ n.1 h) (dta_still ds _ n.2 q)
end
/-- a list that is not hidden there is new -/
theorem still_new {W : Wd} {H H' : Hp} {a : Addr} {vs : List V} (f : Fr (W.still H) H H') (h : hid (W.still H).M H' a = some (.lst vs)) : H a = none ∧ ¬ W.M a ∧ H' a = some (.lst vs) := by
  by_cases m : (W.still H).M a
  · rw [hid_in m] at h; cases h
  · have m' := m
    rw [hid_out m] at h
    refine ⟨?_, fun z => m' (.inl z), h⟩
    cases e : H a with
    | none => rfl
    | some o =>
      have := f.keep a o m e
      rw [h] at this
      cases this
      exact absurd (.inr ⟨vs, e⟩) m'
section
variable {K : PySem.W.Frag} {W : Wd} {Δ : Env} {te : TE} {v : V} {x : PyData}
/-- what is known of a value told, as data -/
theorem xe_asD (h : XV K W te Δ (.w v [v] [x])) : XV K W te Δ (.d x) := fun σ H j st Q q =>
  h σ H j st _ fun u H1 a f e i => by
    subst e
    obtain ⟨e, dd⟩ := i
    subst e
    cases dd with
    | cons d1 _ => exact q _ H1 _ f rfl d1
end
end V2
namespace V2
open PySem PySem.Spec PyProof.Rows L2
/-! ### a list that is tracked is no tuple of the ground -/
def Kn (K : PySem.W.Frag) (H : Hp) : Prop := ∀ a vs o, H a = some (.lst vs) → K.lookup a = some o → o.cls = .type "list"
def tKnow (K : PySem.W.Frag) (t : TS) : TS := fun D σ H => Kn K H → t D σ H
theorem ps_know {X : Cx} {st : Stmt} {t : TS} (h : PS X st t) : PS X st (tKnow X.K t) := ⟨fun pins s σ H D I hk => h.run pins s σ H D I (hk fun a vs o ha ho => by
  obtain ⟨_, its, n, _, e⟩ := I.hok a _ ha
  have e2 := I.kIn a o ho
  have e3 := e.symm.trans e2
  cases e3
  rfl)⟩
/-! ### ["taken", (hands, number)] as it was told: new lists, that may be appended to -/
structure News (K : PySem.W.Frag) (W : Wd) (H H' : Hp) (q tq p : Addr) (hv : List V) (k : Int) (B : Nat) : Prop where
  fr : Fr W H H'
  q0 : H q = none
  q1 : H' q = some (.lst [.str "taken", .ref tq])
  t1 : SqT K (hid W.M H') tq [.ref p, .int k]
  p0 : H p = none
  p1 : H' p = some (.lst hv)
  it : ∀ x ∈ hv, ∃ h us, x = .ref h ∧ H h = none ∧ h ≠ q ∧ (h = p → ∃ o, K.lookup p = some o ∧ o.cls = .type "tuple") ∧ H' h = some (.lst us) ∧ us.length ≤ B
section
variable {K : PySem.W.Frag} {W : Wd} {H H' H1 : Hp} {q tq p : Addr} {hv : List V} {k : Int} {B : Nat}
theorem News.fresh (n : News K W H H' q tq p hv k B) (j : W.J H) {a : Addr} (h : H a = none) : ¬ W.M a := W.fresh j h
theorem News.later (n : News K W H H' q tq p hv k B) (j : W.J H) (f : Fr W H' H1) : News K W H H1 q tq p hv k B where
  fr := n.fr.trans f
  q0 := n.q0
  q1 := f.keep _ _ (W.fresh j n.q0) n.q1
  t1 := sqT_same f.same n.t1
  p0 := n.p0
  p1 := f.keep _ _ (W.fresh j n.p0) n.p1
  it := fun x hx => by
    obtain ⟨h, us, e, h0, nq, np, h1, l⟩ := n.it x hx
    exact ⟨h, us, e, h0, nq, np, f.keep _ _ (W.fresh j h0) h1, l⟩
theorem sqT_put {a h : Addr} {xs us vs : List V} (hh : H h = some (.lst us)) (hs : SqT K (hid W.M H) a xs) : SqT K (hid W.M (upd H h (.lst vs))) a xs := by
  have go : ∀ o, (∀ vs, o ≠ HO.lst vs) → hid W.M H a = some o → hid W.M (upd H h (.lst vs)) a = some o := fun o n e => by
    by_cases m : W.M a
    · rw [hid_in m] at e; cases e
    · rw [hid_out m] at e ⊢
      rw [upd_ne fun z => by rw [z, hh] at e; cases e; exact n _ rfl]
      exact e
  rcases hs with (hs | ⟨o, hs⟩) | hs
  · exact .inl (.inl (go _ (fun _ => nofun) hs))
  · exact .inl (.inr ⟨o, go _ (fun _ => nofun) hs⟩)
  · exact .inr hs
theorem fr_put {h : Addr} {vs : List V} (j : W.J H) (f : Fr W H H') (h0 : H h = none) : Fr W H (upd H' h (.lst vs)) := ⟨fun a o m e => by
  rw [upd_ne (ne_of_none e h0)]
  exact f.keep a o m e, W.loc H' _ (fun a m => upd_ne fun z => W.fresh j h0 (z ▸ m)) f.j⟩
/-- one of the hands grows -/
theorem News.put (n : News K W H H' q tq p hv k B) (j : W.J H) {h : Addr} {us : List V} {v : V} (h0 : H h = none) (nq : h ≠ q) (np : h ≠ p) (h1 : H' h = some (.lst us)) (l : us.length ≤ B) : News K W H (upd H' h (.lst (us ++ [v]))) q tq p hv k (B + 1) where
  fr := fr_put j n.fr h0
  q0 := n.q0
  q1 := by rw [upd_ne nq.symm]; exact n.q1
  t1 := sqT_put h1 n.t1
  p0 := n.p0
  p1 := by rw [upd_ne np.symm]; exact n.p1
  it := fun x hx => by
    obtain ⟨g, ws, e, g0, gq, gp, g1, gl⟩ := n.it x hx
    by_cases z : g = h
    · subst z
      exact ⟨g, us ++ [v], e, g0, gq, gp, upd_same, by rw [List.length_append]; show us.length + 1 ≤ B + 1; omega⟩
    · exact ⟨g, ws, e, g0, gq, gp, by rw [upd_ne z]; exact g1, by omega⟩
/-- the parts of what was told, where all lists that stood were hidden -/
theorem news_of {v : V} {hs : List (List PyData)} (f : Fr (W.still H) H H') (d : Dt K (hid (W.still H).M H') v (.list [.str "taken", .tuple [.list (hs.map PyData.list), .int k]])) (tu : ∀ l ∈ hs, ∀ x ∈ l, ∃ ds, x = .tuple ds) (ln : ∀ l ∈ hs, l.length ≤ B) :
    ∃ q tq p hv, v = .ref q ∧ News K W H H' q tq p hv k B ∧ hv.length = hs.length := by
  cases d with
  | lst hq dq =>
    cases dq with
    | cons d1 d2 =>
      cases d1
      cases d2 with
      | cons d2 d3 =>
        cases d3
        cases d2 with
        | tup ht dt =>
          cases dt with
          | cons d4 d5 =>
            cases d5 with
            | cons d5 d6 =>
              cases d5
              cases d6
              cases d4 with
              | lst hp dp =>
                rename_i q tq p hv
                obtain ⟨q0, qm, q1⟩ := still_new f hq
                obtain ⟨p0, pm, p1⟩ := still_new f hp
                refine ⟨q, tq, p, hv, rfl, ⟨still_fr f, q0, q1, sqT_same still_le ht, p0, p1, fun x hx => ?_⟩, by rw [dp.length, List.length_map]⟩
                obtain ⟨i, hi⟩ := List.getElem?_of_mem hx
                have li : i < (hs.map PyData.list).length := by rw [← dp.length]; exact (List.getElem?_eq_some_iff.mp hi).1
                obtain ⟨x', hx', dx⟩ := dp.get (List.getElem?_eq_getElem li)
                rw [hi] at hx'
                cases hx'
                rw [List.length_map] at li
                rw [List.getElem_map] at dx
                have ml : hs[i] ∈ hs := List.getElem_mem li
                cases dx with
                | lst hh dh =>
                  rename_i h us
                  obtain ⟨h0, hm, h1⟩ := still_new f hh
                  have one : ∀ {ys : List V} {j : Nat} {y : V}, us = ys → ys[j]? = some y → ∃ ds, Dt K (hid (W.still H).M H') y (.tuple ds) := fun {ys j y} e hj => by
                    subst e
                    have lj : j < hs[i].length := by rw [← dh.length]; exact (List.getElem?_eq_some_iff.mp hj).1
                    obtain ⟨y', hy', dy⟩ := dh.get (List.getElem?_eq_getElem lj)
                    rw [hj] at hy'
                    cases hy'
                    obtain ⟨ds, e⟩ := tu _ ml _ (List.getElem_mem lj)
                    rw [e] at dy
                    exact ⟨ds, dy⟩
                  refine ⟨h, us, rfl, h0, fun z => ?_, fun z => ?_, h1, by rw [dh.length]; exact ln _ ml⟩
                  · rw [z, q1] at h1
                    obtain ⟨ds, dd⟩ := one (Option.some.inj h1 |> fun e => (HO.lst.inj e).symm) (j := 0) rfl
                    cases dd
                  · subst z
                    rw [p1] at h1
                    obtain ⟨ds, dd⟩ := one (Option.some.inj h1 |> fun e => (HO.lst.inj e).symm) hi
                    cases dd with
                    | tup hs' _ =>
                      rcases hs' with (hs' | ⟨o, hs'⟩) | ⟨o, its, n, hk, hc, _⟩
                      · rw [hs'] at hp; cases hp
                      · rw [hs'] at hp; cases hp
                      · exact ⟨o, hk, hc⟩
theorem te_hands {i : Nat} {σ : L2.St} {Q : VK} (n : News K W H H' q tq p hv k B) (e : σ[i]? = some (some (.ref q))) (h : Q (.ref p) H') : tOp (rIxT K) (tOp (rIxL K) (tVar i) (tC (.int 1))) (tC (.int 0)) σ H' Q :=
  ⟨_, e, q, _, 1, .ref tq, rfl, rfl, .inl (.inl n.q1), rfl, tq, _, 0, .ref p, rfl, rfl, sqT_same hid_le n.t1, rfl, h⟩
/-- for hand in told[1][0]: hand.append(None) -/
theorem news_for {i c : Nat} {σ : L2.St} {Δ : Env} {D : Ends} (ne : c ≠ i) (lc : c < σ.length) (kn : Kn K H') (n : News K W H H' q tq p hv k B) (j : W.J H) (st : StOk K W.M H σ Δ) (nc : Δ.set c none = Δ) (e : σ[i]? = some (some (.ref q))) (small : B + hv.length ≤ 100000)
    (hd : ∀ σ1 H1, News K W H H1 q tq p hv k (B + hv.length) → StOk K W.M H σ1 Δ → σ1[i]? = some (some (.ref q)) → D.nx σ1 H1) :
    tFor (iList K (tOp (rIxT K) (tOp (rIxL K) (tVar i) (tC (.int 1))) (tC (.int 0)))) (gName c) (tDrop (tBM K "list" rAppend (tVar c) (tCons (tC .non) tNil))) D σ H' := by
  refine te_hands n e ⟨p, rfl, ⟨hv, .inl (.inl n.p1)⟩, for_list (xs := hv) (fun m σ1 H1 => News K W H H1 q tq p hv k (B + m) ∧ StOk K W.M H σ1 Δ ∧ σ1[i]? = some (some (.ref q)) ∧ σ1.length = σ.length) ⟨n, st, e, rfl⟩ (fun m σ1 H1 _ ⟨n1, _⟩ => .inl (.inl n1.p1)) ?_ fun σ1 H1 ⟨n1, s1, e1, _⟩ => hd σ1 H1 n1 s1 e1⟩
  rintro m x σ1 H1 hx ⟨n1, s1, e1, l1⟩
  obtain ⟨h, us, ex, h0, nq, np, h1, l⟩ := n1.it x (List.mem_of_getElem? hx)
  subst ex
  obtain ⟨h', us', ex', _, _, np', _, _⟩ := n.it _ (List.mem_of_getElem? hx)
  cases ex'
  have nph : h ≠ p := fun z => by
    obtain ⟨o, hk, hc⟩ := np' z
    have := kn p _ o n.p1 hk
    rw [hc] at this
    exact absurd this (by decide)
  have lm : m < hv.length := (List.getElem?_eq_some_iff.mp hx).1
  refine ⟨.ref h, List.getElem?_set_self (by omega), .inl ⟨rfl, _, .inl (.inl h1)⟩, ?_⟩
  refine ⟨h, us, .non, rfl, rfl, h1, Nat.lt_of_le_of_lt (Nat.le_trans l (Nat.le_trans (by omega) small)) (by decide), n1.put j h0 nq nph h1 l, ?_, ?_, ?_⟩
  · have := s1.unset c (some (.ref h))
    rwa [nc] at this
  · rw [List.getElem?_set_ne ne]; exact e1
  · rw [List.length_set]; exact l1
/-- told[1][0].append(None) -/
theorem news_app {i : Nat} {σ : L2.St} {D : Ends} (n : News K W H H' q tq p hv k B) (j : W.J H) (e : σ[i]? = some (some (.ref q))) (small : hv.length ≤ 100000) (hd : ∀ H1, Fr W H H1 → D.nx σ H1) :
    tDrop (tBM K "list" rAppend (tOp (rIxT K) (tOp (rIxL K) (tVar i) (tC (.int 1))) (tC (.int 0))) (tCons (tC .non) tNil)) D σ H' :=
  te_hands n e ⟨.inl ⟨rfl, _, .inl (.inl n.p1)⟩, p, hv, .non, rfl, rfl, n.p1, Nat.lt_of_le_of_lt small (by decide), hd _ (fr_put j n.fr n.p0)⟩
end
end V2

set_option Elab.async false
set_option linter.all false
set_option maxRecDepth 100000
set_option maxHeartbeats 2000000
namespace V2
open PySem PySem.Spec PyProof.Rows L2
/-! ### list(text) -/
def kLstS (x : V) (H : Hp) (Q : VK) : Prop := ∃ b : Str, x = .str b ∧ b.cps.size ≤ sizeLine ∧ ∀ q, H q = none → Q (.ref q) (upd H q (.lst (b.cps.toList.map fun c => V.str (oneS c))))
section
variable {X : Cx}
theorem rl_listS (hc : X.calm = true) (pins : List (Addr × Obj)) (s : Shared) (σ : L2.St) (H : Hp) (x : V) (v : Value) (Q : VK) (I : Inv X pins σ H s) (r : RelV x v) (h : kLstS x H Q) :
    wpAny (model X.prog X.w) X.A (call (.type "list") [v]) (EP X pins σ Q) X.xe s := by
  obtain ⟨b, rfl, hz, q⟩ := h
  obtain ⟨t, rfl⟩ := r
  refine call_list_str (hn := hz) (I.ok.hd hc) b t fun h' tk acc c' hk e hi => ?_
  refine ⟨.ref s.heap.objs.size, upd H s.heap.objs.size (.lst (b.cps.toList.map fun c => V.str (oneS c))), I.laid hk (Nat.le_refl _) ⟨by rw [List.length_map, Array.length_toList]; exact hz, acc.toList, c', ?_, by rw [Array.toArray_toList]; exact e⟩, rfl, q _ (I.hok.fresh (Nat.le_refl _))⟩
  refine vals_of_idx _ _ (by rw [List.length_map, Array.length_toList, Array.length_toList]; exact hi.1) fun j u hj => ?_
  obtain ⟨c, t', hc, rfl⟩ := hi.2 j u (by rw [← Array.getElem?_toList]; exact hj)
  exact ⟨.str (oneS c), by simp [hc], ⟨_, rfl⟩⟩
theorem pe_listOfS {a : Expr} {ta : TE} {p pos : Pos} (hc : X.calm = true) (hg : Gl X "list") (hm : X.mg "list" = none) (ha : PE X a ta) (na : starEach [a] X.env = (false, eval a X.env) :: starEach [] X.env := by rfl) :
    PE X (.Call (.Name "list" p) [a] [] pos) (tThenZ ta kLstS) := pe_callTy (call_r1 (rl_listS hc)) hg hm (by decide +kernel) (pa_cons ha pa_nil na) (he := na)
end
/-! ### int(text), text in text -/
def inS (a b : Str) : Bool := !(Builtin.Str.occurrences b a 0 b.length 1).isEmpty
def rInStr : R2 := fun x y H Q => ∃ i j, x = .str i ∧ y = .str j ∧ Q (.bl (!(Builtin.Str.occurrences j i 0 j.length 1).isEmpty)) H
theorem op_inStr {X : Cx} : OpR X (compareOp .In) rInStr := op_in_str
section
variable {K : PySem.W.Frag} {W : Wd} {Δ : Env} {te ta tb td ty : TE}
theorem ox_inStr {a b : Str} : OX K W rInStr (.d (.str a)) (.d (.str b)) (· = .d (.bool (inS a b))) := fun v w H j i1 i2 Q q => by
  cases i1; cases i2
  exact ⟨a, b, rfl, rfl, q _ H _ (.refl j) rfl (.bl _)⟩
/-- a display of texts, read at a key that is there -/
theorem xe_dispS {ps : List (Str × Str)} (l : ps.length ≤ 15) : XV K W (tDisp (tStrs ps)) Δ (.d (KD (mergeS [] ps))) := fun σ H j st Q q =>
  disp_strs l fun p np => q _ _ _ (.new j np) rfl (.dct (hid_new j np) (dtkv_of _))
theorem xe_dgetK {kvs : List (Str × Str)} {c z : Str} (h : XV K W td Δ (.d (KD kvs))) (hy : XV K W ty Δ (.d (.str c))) (hz : valV (KV2 kvs) (Sum.inr c) = some (.str z)) : XV K W (tDGet td ty) Δ (.d (.str z)) := fun σ H j s Q q =>
  h σ H j s _ fun v H1 a f1 e i1 => by
    subst e
    cases i1 with
    | dct ha hk =>
      rename_i p es
      obtain rfl := dtkv_is hk
      have m : ¬ W.M p := fun m => by rw [hid_in m] at ha; cases ha
      rw [hid_out m] at ha
      refine hy σ H1 f1.j (s.fr f1) _ fun w H2 b f2 e i2 => ?_
      subst e
      cases i2
      have g := DGet.k (k := Sum.inr c) (f2.keep p _ m ha)
      rw [hz] at g
      exact ⟨p, .str z, rfl, g, q _ H2 _ (f1.trans f2) rfl (.str _)⟩
end
theorem gx_tup4 {K : PySem.W.Frag} {W : Wd} {Δ : Env} {i j k l : Nat} {x y z t : PyData} : GX K W (gTup K 4 (gCons (gName i) (gCons (gName j) (gCons (gName k) (gCons (gName l) gNil))))) (.d (.tuple [x, y, z, t])) Δ ((((Δ.set i (some (.d x))).set j (some (.d y))).set k (some (.d z))).set l (some (.d t))) := fun v σ H jj s ii Q q => by
  cases ii with
  | tup h1 d1 =>
    cases d1 with
    | cons dx d2 =>
      cases d2 with
      | cons dy d3 =>
        cases d3 with
        | cons dz d4 =>
          cases d4 with
          | cons dt d5 =>
            cases d5
            exact ⟨_, _, rfl, sqT_same hid_le h1, rfl, _, _, rfl, _, _, rfl, _, _, rfl, _, _, rfl, rfl, q _ H (.refl jj) ((((s.set (a := .d x) i dx).set (a := .d y) j dy).set (a := .d z) k dz).set (a := .d t) l dt)⟩
/-! ### a walk over a text beside a list of one's own; a walk whose states are told outright -/
section
variable {K : PySem.W.Frag} {W : Wd} {Δ : Env} {k : Nat} {H0 H : Hp} {σ : L2.St} {ds : List PyData} {D : Ends} {i j : Nat} {tb : TS} {x : Str}
theorem for_str {g : TG} (Pv : Nat → L2.St → Hp → Prop) (h0 : Pv 0 σ H) (hs : ∀ m c σ1 H1, x.cps[m]? = some c → Pv m σ1 H1 → g (.str (oneS c)) σ1 H1 fun σ2 H2 => tb { D with nx := Pv (m + 1), ct := Pv (m + 1), bk := D.nx } σ2 H2) (hd : ∀ σ1 H1, Pv x.cps.size σ1 H1 → D.nx σ1 H1) :
    ∃ W : Nat → Nat → L2.St → Hp → Prop, (∃ m, W 0 m σ H) ∧ ∀ i m σ H, W i m σ H →
      ((Its x).stop i H ∧ D.nx σ H) ∨ ((Its x).go i H ∧ ∃ N : L2.St → Hp → Prop, (∀ σ' H', N σ' H' → ∃ m', m' < m ∧ W (i + 1) m' σ' H') ∧ ∀ x' H', (Its x).yld i H x' H' → g x' σ H' fun σ2 H2 => tb { D with nx := N, ct := N, bk := D.nx } σ2 H2) := by
  refine ⟨fun i m σ H => m = x.cps.size - i ∧ i ≤ x.cps.size ∧ Pv i σ H, ⟨x.cps.size, by simp, Nat.zero_le _, h0⟩, ?_⟩
  rintro i m σ H ⟨rfl, hi, p⟩
  by_cases l : i < x.cps.size
  · refine .inr ⟨l, Pv (i + 1), fun σ' H' p' => ⟨x.cps.size - (i + 1), by omega, rfl, l, p'⟩, ?_⟩
    rintro y H' ⟨e, c, hc, ey⟩
    subst e ey
    exact hs i c σ H' hc p
  · obtain rfl : i = x.cps.size := by omega
    exact .inl ⟨Nat.le_refl _, hd σ H p⟩
theorem own_str (o : Own K W k H0 H σ Δ ds) (ne : i ≠ k) (hj : σ[j]? = some (some (.str x))) (Inv : Nat → Env → List PyData → Prop) (h0 : Inv 0 Δ ds)
    (hs : ∀ (m : Nat) (c : Nat) (σ1 : L2.St) (H1 : Hp) (Δ1 : Env) (ds1 : List PyData), x.cps[m]? = some c → Inv m Δ1 ds1 → Own K W k H0 H1 (σ1.set i (some (.str (oneS c)))) (Δ1.set i (some (.d (.str (oneS c))))) ds1 →
      ∀ N : L2.St → Hp → Prop, (∀ σ2 H2 Δ2 ds2, Own K W k H0 H2 σ2 Δ2 ds2 → Inv (m + 1) Δ2 ds2 → N σ2 H2) → tb { D with nx := N, ct := N, bk := D.nx } (σ1.set i (some (.str (oneS c)))) H1)
    (hd : ∀ (σ1 : L2.St) (H1 : Hp) (Δ1 : Env) (ds1 : List PyData), Own K W k H0 H1 σ1 Δ1 ds1 → Inv x.cps.size Δ1 ds1 → D.nx σ1 H1) : tFor (iStr (tVar j)) (gName i) tb D σ H := by
  refine ⟨.str x, hj, x, rfl, for_str (x := x) (fun m σ2 H2 => ∃ Δ2 ds2, Own K W k H0 H2 σ2 Δ2 ds2 ∧ Inv m Δ2 ds2) ⟨Δ, ds, o, h0⟩ ?_ ?_⟩
  · rintro m c σ2 H2 hc ⟨Δ2, ds2, o2, v2⟩
    exact hs m c σ2 H2 Δ2 ds2 hc v2 (own_other o2 ne fun M => Dt.str _) _ fun σ3 H3 Δ3 ds3 o3 v3 => ⟨Δ3, ds3, o3, v3⟩
  · rintro σ2 H2 ⟨Δ2, ds2, o2, v2⟩
    exact hd σ2 H2 Δ2 ds2 o2 v2
end
/-! ### f(..) that may raise, in the body of one that may; try: f(..) except C as e: suite -/
section
variable {γ S : Type} {K : PySem.W.Frag} {Ce : Addr} {f : Str} {pre : γ → Wd → List A → Prop} {post : γ → A → Prop} {postX : γ → PyData → Prop} {Z : SW S} {s : S} {Δ : Env} {ta : TA} {E : XK} {Wp : Hp → Prop} {X : S → Prop}
theorem yx_callE (g : γ) {as : List A} {M : Addr → Prop} {PX : PyData → Prop} (ha : XAs K (Z.at s) ta Δ as) (p : pre g (Z.at s) as) (hw : ∀ H, Wp H → WpF K M E Ce f PX H) (hX : X s) (le : ∀ a, M a → Z.M a) (px : ∀ y, postX g y → PX y) :
    YX K Z s Wp X (tCall (spE K Ce f pre post postX) [] E ta) Δ fun u a => u = s ∧ post g a := fun σ H j st wx Q q =>
  ha σ H j st _ fun us H1 as' f1 e i1 => by
    subst e
    rw [List.append_nil]
    exact ⟨g, Z.at s, as', f1.j, p, i1, fun v H' a f r i => q v H' s a (f1.trans f) ⟨rfl, r⟩ i, fun H' f => wpF_le (hw H' (wx H' s (f1.trans f) hX)) le px⟩
end
section
variable {γ : Type} {K : PySem.W.Frag} {Ce : Addr} {f : Str} {pre : γ → Wd → List A → Prop} {post : γ → A → Prop} {postX : γ → PyData → Prop} {W : Wd} {Δ : Env} {ta : TA} {N : Env → Prop} {Rt : A → Prop} {Bk Ct : Env → Prop} {ts : Addr → Value → Option Addr → TS} {Wout : WX}
theorem xs_trydropE {i : Nat} (g : γ) {as : List A} (ha : XAs K W ta Δ as) (p : pre g W as) (ex : PySem.W.exmOne K (.ref Ce) (.ref Ce) = some true) (hn : ∀ a, post g a → N Δ)
    (hx : ∀ q d v y, postX g y → ¬ W.M d → XS K (W.err d f v) (ts q (.ref Ce) (some d)) (Δ.set i (some (.w (.ref q) [v] [y]))) (fun Δ' => N (Δ'.set i none)) Rt (fun Δ' => Bk (Δ'.set i none)) (fun Δ' => Ct (Δ'.set i none))) :
    XS K W (fun D σ H => tDrop (tCallS (spE K Ce f pre post postX) (WE (wAs K (.ref Ce) i ts Wout D)) ta) D σ H) Δ N Rt Bk Ct := fun σ H j st D nx rt bk ct =>
  ha σ H j st _ fun us H1 as' f1 e i1 => by
    subst e
    refine ⟨g, W, as', f1.j, p, i1, fun v H' a f r i => nx _ H' _ (f1.trans f) (st.fr (f1.trans f)) (hn a r), fun H2 f2 d v y nd dv px => ?_⟩
    refine ⟨true, ex, fun _ q hq => ?_, fun z => nomatch z⟩
    have f12 := f1.trans f2
    have md : ¬ W.M d := W.fresh f2.j nd
    have jj : (W.err d f v).J (upd H2 d (.xd [(f, v)])) := ⟨W.loc H2 _ (fun a m => upd_ne fun z => md (z ▸ m)) f2.j, _, upd_same, rfl⟩
    have st2 : StOk K (W.err d f v).M (upd H2 d (.xd [(f, v)])) σ Δ := StOk.add f2.j (st.fr f12) nd
    have iv : Is K (W.err d f v).M (upd H2 d (.xd [(f, v)])) (.ref q) (.w (.ref q) [v] [y]) := ⟨rfl, .cons (Is.add (a := .d y) (φ := (· = .xd [(f, v)])) dv nd) .nil⟩
    exact hx q d v y px md _ _ jj (st2.set i iv) _ (fun σ' H' Δ' g s' z => nx _ H' _ (f12.trans (err_back nd g)) ((s'.ext hid_add_le).unset i none) z) (fun v' H' a g r i => rt v' H' a (f12.trans (err_back nd g)) r (i.ext hid_add_le))
      (fun σ' H' Δ' g s' z => bk _ H' _ (f12.trans (err_back nd g)) ((s'.ext hid_add_le).unset i none) z) fun σ' H' Δ' g s' z => ct _ H' _ (f12.trans (err_back nd g)) ((s'.ext hid_add_le).unset i none) z
end
end V2

set_option Elab.async false
set_option linter.all false
set_option maxRecDepth 100000
set_option maxHeartbeats 2000000
namespace V2
open PySem PySem.Spec PyProof.Rows L2
/-! ### a dict of one's own that holds two lists and two numbers -/
structure SR where
  ms : List PyData
  bs : List PyData
  h : Int
  n : Int
def stK (m b : Addr) (h n : Int) : List (Key × V) := [(.inr "marks", .ref m), (.inr "body", .ref b), (.inr "hands", .int h), (.inr "deep", .int n)]
theorem stK_m {m b : Addr} {h n : Int} : valV (stK m b h n) (.inr "marks") = some (.ref m) := rfl
theorem stK_b {m b : Addr} {h n : Int} : valV (stK m b h n) (.inr "body") = some (.ref b) := rfl
theorem stK_h {m b : Addr} {h n : Int} : valV (stK m b h n) (.inr "hands") = some (.int h) := rfl
theorem stK_n {m b : Addr} {h n : Int} : valV (stK m b h n) (.inr "deep") = some (.int n) := rfl
theorem stK_ph {m b : Addr} {h n k : Int} : putK (stK m b h n) (.inr "hands") (.int k) = stK m b k n := rfl
theorem stK_pn {m b : Addr} {h n k : Int} : putK (stK m b h n) (.inr "deep") (.int k) = stK m b h k := rfl
def M3 (W : Wd) (d m b : Addr) : Addr → Prop := fun a => ((W.M a ∨ a = d) ∨ a = m) ∨ a = b
abbrev W3 (W : Wd) (d m b : Addr) (s : SR) (vm vb : List V) : Wd := ((W.add d (· = .dK (stK m b s.h s.n))).add m (· = .lst vm)).add b (· = .lst vb)
structure RSt (K : PySem.W.Frag) (W : Wd) (Hs H : Hp) (d m b : Addr) (s : SR) : Prop where
  keep : ∀ a o, ¬ M3 W d m b a → Hs a = some o → H a = some o
  j : W.J H
  dn : ¬ W.M d
  mn : ¬ W.M m
  bn : ¬ W.M b
  dm : d ≠ m
  db : d ≠ b
  mb : m ≠ b
  hd : H d = some (.dK (stK m b s.h s.n))
  hm : ∃ vs, H m = some (.lst vs) ∧ DtAll K (hid (M3 W d m b) H) vs s.ms
  hb : ∃ vs, H b = some (.lst vs) ∧ DtAll K (hid (M3 W d m b) H) vs s.bs
def kR (d : Addr) (vm vb : List V) (s : SR) : A := .w (.ref d) (vm ++ vb) (s.ms ++ s.bs)
section
variable {K : PySem.W.Frag} {W : Wd} {Hs H H' : Hp} {d m b : Addr} {s s' : SR} {vm vb : List V} {Δ : Env} {σ : L2.St} {te : TE} {ts tu : TS} {tt : TT} {i : Nat} {D : Ends}
theorem same_of_keep (h : ∀ a o, ¬ M3 W d m b a → H a = some o → H' a = some o) : Same (hid (M3 W d m b) H) (hid (M3 W d m b) H') := fun a o e => by
  by_cases z : M3 W d m b a
  · rw [hid_in z] at e; cases e
  · rw [hid_out z] at e ⊢
    exact h a o z e
theorem RSt.refl (r : RSt K W Hs H d m b s) : RSt K W H H d m b s := ⟨fun _ _ _ e => e, r.j, r.dn, r.mn, r.bn, r.dm, r.db, r.mb, r.hd, r.hm, r.hb⟩
theorem RSt.trans (r : RSt K W Hs H d m b s) (q : RSt K W H H' d m b s') : RSt K W Hs H' d m b s' := ⟨fun a o n e => q.keep a o n (r.keep a o n e), q.j, q.dn, q.mn, q.bn, q.dm, q.db, q.mb, q.hd, q.hm, q.hb⟩
theorem RSt.same (r : RSt K W Hs H d m b s) : Same (hid (M3 W d m b) Hs) (hid (M3 W d m b) H) := same_of_keep r.keep
theorem RSt.w (r : RSt K W Hs H d m b s) : ∃ vm vb, (W3 W d m b s vm vb).J H ∧ DtAll K (hid (M3 W d m b) H) vm s.ms ∧ DtAll K (hid (M3 W d m b) H) vb s.bs := by
  obtain ⟨vm, h1, d1⟩ := r.hm
  obtain ⟨vb, h2, d2⟩ := r.hb
  exact ⟨vm, vb, ⟨⟨⟨r.j, _, r.hd, rfl⟩, _, h1, rfl⟩, _, h2, rfl⟩, d1, d2⟩
theorem RSt.go (r : RSt K W Hs H d m b s) (d1 : DtAll K (hid (M3 W d m b) H) vm s.ms) (d2 : DtAll K (hid (M3 W d m b) H) vb s.bs) (f : Fr (W3 W d m b s vm vb) H H') : RSt K W Hs H' d m b s := by
  obtain ⟨⟨⟨j, u1, e1, q1⟩, u2, e2, q2⟩, u3, e3, q3⟩ := f.j
  subst q1 q2 q3
  have sm : Same (hid (M3 W d m b) H) (hid (M3 W d m b) H') := f.same
  exact ⟨fun a o nm e => f.keep a o nm (r.keep a o nm e), j, r.dn, r.mn, r.bn, r.dm, r.db, r.mb, e1, ⟨_, e2, DtAll.ext sm _ _ d1⟩, ⟨_, e3, DtAll.ext sm _ _ d2⟩⟩
theorem M3d : M3 W d m b d := .inl (.inl (.inr rfl))
theorem M3m : M3 W d m b m := .inl (.inr rfl)
theorem M3b : M3 W d m b b := .inr rfl
theorem RSt.upd (r : RSt K W Hs H d m b s) {a : Addr} {o : HO} (ha : M3 W d m b a) (na : ¬ W.M a) : (∀ c u, ¬ M3 W d m b c → Hs c = some u → (upd H a o) c = some u) ∧ W.J (L2.upd H a o) :=
  ⟨fun c u nm e => by rw [upd_ne fun z : c = a => nm (by rw [z]; exact ha)]; exact r.keep c u nm e, W.loc H _ (fun c mc => upd_ne fun z : c = a => na (z ▸ mc)) r.j⟩
theorem RSt.putD (r : RSt K W Hs H d m b s) (k n : Int) : RSt K W Hs (L2.upd H d (.dK (stK m b k n))) d m b ⟨s.ms, s.bs, k, n⟩ := by
  obtain ⟨k1, j1⟩ := r.upd (o := .dK (stK m b k n)) M3d r.dn
  obtain ⟨vm, h1, d1⟩ := r.hm
  obtain ⟨vb, h2, d2⟩ := r.hb
  exact ⟨k1, j1, r.dn, r.mn, r.bn, r.dm, r.db, r.mb, upd_same, ⟨vm, by rw [upd_ne r.dm.symm]; exact h1, by rw [hid_upd M3d]; exact d1⟩, ⟨vb, by rw [upd_ne r.db.symm]; exact h2, by rw [hid_upd M3d]; exact d2⟩⟩
theorem RSt.putM (r : RSt K W Hs H d m b s) {v : V} {x : PyData} (h1 : H m = some (.lst vm)) (d1 : DtAll K (hid (M3 W d m b) H) vm s.ms) (hx : Dt K (hid (M3 W d m b) H) v x) : RSt K W Hs (L2.upd H m (.lst (vm ++ [v]))) d m b ⟨s.ms ++ [x], s.bs, s.h, s.n⟩ := by
  obtain ⟨k1, j1⟩ := r.upd (o := .lst (vm ++ [v])) M3m r.mn
  obtain ⟨vb, h2, d2⟩ := r.hb
  exact ⟨k1, j1, r.dn, r.mn, r.bn, r.dm, r.db, r.mb, by rw [upd_ne r.dm]; exact r.hd, ⟨_, upd_same, by rw [hid_upd M3m]; exact DtAll.append d1 (.cons hx .nil)⟩, ⟨vb, by rw [upd_ne r.mb.symm]; exact h2, by rw [hid_upd M3m]; exact d2⟩⟩
theorem RSt.putB (r : RSt K W Hs H d m b s) {v : V} {x : PyData} (h1 : H b = some (.lst vb)) (d1 : DtAll K (hid (M3 W d m b) H) vb s.bs) (hx : Dt K (hid (M3 W d m b) H) v x) : RSt K W Hs (L2.upd H b (.lst (vb ++ [v]))) d m b ⟨s.ms, s.bs ++ [x], s.h, s.n⟩ := by
  obtain ⟨k1, j1⟩ := r.upd (o := .lst (vb ++ [v])) M3b r.bn
  obtain ⟨vm, h2, d2⟩ := r.hm
  exact ⟨k1, j1, r.dn, r.mn, r.bn, r.dm, r.db, r.mb, by rw [upd_ne r.db]; exact r.hd, ⟨vm, by rw [upd_ne r.mb]; exact h2, by rw [hid_upd M3b]; exact d2⟩, ⟨_, upd_same, by rw [hid_upd M3b]; exact DtAll.append d1 (.cons hx .nil)⟩⟩
/-- the i-th name holds the dict -/
structure RS (K : PySem.W.Frag) (W : Wd) (i : Nat) (Hs H : Hp) (σ : L2.St) (Δ : Env) (d m b : Addr) (s : SR) : Prop where
  r : RSt K W Hs H d m b s
  st : StOk K (M3 W d m b) H σ Δ
  sl : σ[i]? = some (some (.ref d))
theorem RS.k (o : RS K W i Hs H σ Δ d m b s) (d1 : DtAll K (hid (M3 W d m b) H) vm s.ms) (d2 : DtAll K (hid (M3 W d m b) H) vb s.bs) : StOk K (W3 W d m b s vm vb).M H σ (Δ.set i (some (kR d vm vb s))) :=
  st_again (M := M3 W d m b) o.st o.sl ⟨rfl, DtAll.append d1 d2⟩
theorem dta_split {H : Hp} {ys : List PyData} : ∀ {vs : List V} {xs : List PyData} {us : List V}, vs.length = xs.length → DtAll K H (vs ++ us) (xs ++ ys) → DtAll K H vs xs ∧ DtAll K H us ys
  | [], [], us, _, h => ⟨.nil, h⟩
  | v :: vs, x :: xs, us, l, h => by
    cases h with
    | cons h1 h2 =>
      obtain ⟨a, c⟩ := dta_split (vs := vs) (xs := xs) (by simpa using l) h2
      exact ⟨.cons h1 a, c⟩
/-! ### what is read of it -/
theorem dget_in {c : Str} {v : V} {a : A} {R : A → Prop} (hv : Δ[i]? = some (some (kR d vm vb s))) (hc : ∀ H, (W3 W d m b s vm vb).J H → valV (stK m b s.h s.n) (.inr c) = some v) {σ : L2.St} {H : Hp} (j : (W3 W d m b s vm vb).J H) (st : StOk K (W3 W d m b s vm vb).M H σ Δ) {Q : VK} (q : Q v H) : tDGet (tVar i) (tC (.str c)) σ H Q := by
  obtain ⟨v0, e0, i0⟩ := st.get i _ hv
  obtain ⟨e, _⟩ := i0
  subst e
  obtain ⟨⟨⟨_, u1, e1, q1⟩, _⟩, _⟩ := j
  subst q1
  have g := DGet.k (k := Sum.inr c) e1
  rw [hc H ⟨⟨⟨‹_›, _, e1, rfl⟩, ‹_›⟩, ‹_›⟩] at g
  exact ⟨_, e0, d, v, rfl, g, q⟩
theorem xe_rh (hv : Δ[i]? = some (some (kR d vm vb s))) : XV K (W3 W d m b s vm vb) (tDGet (tVar i) (tC (.str "hands"))) Δ (.d (.int s.h)) := fun σ H j st Q q => dget_in (a := .d (.int s.h)) (R := fun _ => True) hv (fun _ _ => stK_h) j st (q _ H _ (.refl j) rfl (.int _))
theorem xe_rn (hv : Δ[i]? = some (some (kR d vm vb s))) : XV K (W3 W d m b s vm vb) (tDGet (tVar i) (tC (.str "deep"))) Δ (.d (.int s.n)) := fun σ H j st Q q => dget_in (a := .d (.int s.n)) (R := fun _ => True) hv (fun _ _ => stK_n) j st (q _ H _ (.refl j) rfl (.int _))
theorem xe_rlm (hv : Δ[i]? = some (some (kR d vm vb s))) (l : vm.length = s.ms.length) : XV K (W3 W d m b s vm vb) (tCB (rLen K) (tCons (tDGet (tVar i) (tC (.str "marks"))) tNil)) Δ (.d (.int s.ms.length)) := fun σ H j st Q q => by
  have hm : H m = some (.lst vm) := by
    obtain ⟨⟨_, u2, e2, q2⟩, _⟩ := j
    rw [e2, q2]
  refine dget_in (a := .d (.int s.h)) (R := fun _ => True) hv (fun _ _ => stK_m) j st ⟨m, vm, rfl, .inl (.inl (.inl hm)), ?_⟩
  rw [l]
  exact q _ H _ (.refl j) rfl (.int _)
theorem xe_rtm (hv : Δ[i]? = some (some (kR d vm vb s))) (l : vm.length = s.ms.length) : XV K (W3 W d m b s vm vb) (tCB (rTupOf K) (tCons (tDGet (tVar i) (tC (.str "marks"))) tNil)) Δ (.d (.tuple s.ms)) := fun σ H j st Q q => by
  have hm : H m = some (.lst vm) := by
    obtain ⟨⟨_, u2, e2, q2⟩, _⟩ := j
    rw [e2, q2]
  obtain ⟨v0, e0, i0⟩ := st.get i _ hv
  have dd := (dta_split l i0.2).1
  exact dget_in (a := .d (.int s.h)) (R := fun _ => True) hv (fun _ _ => stK_m) j st ⟨m, vm, rfl, .inl ⟨.inl (.inl hm), fun p np => q _ _ _ (.new j np) rfl (Dt.tup (.inl (.inl (hid_new j np))) (DtAll.ext (Fr.same (.new j np)) _ _ dd))⟩⟩
theorem xe_rtb (hv : Δ[i]? = some (some (kR d vm vb s))) (l : vm.length = s.ms.length) : XV K (W3 W d m b s vm vb) (tCB (rTupOf K) (tCons (tDGet (tVar i) (tC (.str "body"))) tNil)) Δ (.d (.tuple s.bs)) := fun σ H j st Q q => by
  have hm : H b = some (.lst vb) := by
    obtain ⟨_, u2, e2, q2⟩ := j
    rw [e2, q2]
  obtain ⟨v0, e0, i0⟩ := st.get i _ hv
  have dd := (dta_split l i0.2).2
  exact dget_in (a := .d (.int s.h)) (R := fun _ => True) hv (fun _ _ => stK_b) j st ⟨b, vb, rfl, .inl ⟨.inl (.inl hm), fun p np => q _ _ _ (.new j np) rfl (Dt.tup (.inl (.inl (hid_new j np))) (DtAll.ext (Fr.same (.new j np)) _ _ dd))⟩⟩
/-! ### statements -/
theorem RS.in (o : RS K W i Hs H σ Δ d m b s) {R : A → Prop} (he : ∀ vm vb, vm.length = s.ms.length → XE K (W3 W d m b s vm vb) te (Δ.set i (some (kR d vm vb s))) R) {Q : VK} (q : ∀ v H' a, R a → RS K W i Hs H' σ Δ d m b s → Is K (M3 W d m b) H' v a → Q v H') : te σ H Q := by
  obtain ⟨vm, vb, j, d1, d2⟩ := o.r.w
  exact he vm vb d1.length σ H j (o.k d1 d2) Q fun v H' a f r iv => q v H' a r ⟨o.r.go d1 d2 f, o.st.ext (M := M3 W d m b) (M' := M3 W d m b) f.same, o.sl⟩ iv
theorem rs_asg {k : Nat} {R : A → Prop} (o : RS K W i Hs H σ Δ d m b s) (ne : k ≠ i) (he : ∀ vm vb, vm.length = s.ms.length → XE K (W3 W d m b s vm vb) te (Δ.set i (some (kR d vm vb s))) R) (q : ∀ v H' a, R a → RS K W i Hs H' (σ.set k (some v)) (Δ.set k (some a)) d m b s → D.nx (σ.set k (some v)) H') : tAsg te (gName k) D σ H :=
  o.in he fun v H' a r o1 iv => q v H' a r ⟨o1.r, o1.st.set k iv, by rw [List.getElem?_set_ne ne]; exact o1.sl⟩
theorem rs_ret {R : A → Prop} (o : RS K W i Hs H σ Δ d m b s) (he : ∀ vm vb, vm.length = s.ms.length → XE K (W3 W d m b s vm vb) te (Δ.set i (some (kR d vm vb s))) R) (q : ∀ v H' a, R a → RS K W i Hs H' σ Δ d m b s → Is K (M3 W d m b) H' v a → D.rt v H') : tRet te D σ H := o.in he q
theorem rs_if {B : Bool → Prop} (o : RS K W i Hs H σ Δ d m b s) (ht : ∀ vm vb, vm.length = s.ms.length → XT K (W3 W d m b s vm vb) tt (Δ.set i (some (kR d vm vb s))) B) (h1 : ∀ H', B true → RS K W i Hs H' σ Δ d m b s → ts D σ H') (h2 : ∀ H', B false → RS K W i Hs H' σ Δ d m b s → tu D σ H') : tIfS tt ts tu D σ H := by
  obtain ⟨vm, vb, j, d1, d2⟩ := o.r.w
  refine ht vm vb d1.length σ H j (o.k d1 d2) _ fun c H1 f hb => ?_
  have o1 : RS K W i Hs H1 σ Δ d m b s := ⟨o.r.go d1 d2 f, o.st.ext (M := M3 W d m b) (M' := M3 W d m b) f.same, o.sl⟩
  cases c with
  | true => exact iteT (h1 H1 hb o1)
  | false => exact iteF (h2 H1 hb o1)
theorem st_hid {M : Addr → Prop} {a : Addr} {u : HO} (ma : M a) (s : StOk K M H σ Δ) : StOk K M (upd H a u) σ Δ := s.ext fun c o e => by rw [hid_upd ma]; exact e
theorem rs_putH {k : Int} (o : RS K W i Hs H σ Δ d m b s) (he : ∀ vm vb, vm.length = s.ms.length → XV K (W3 W d m b s vm vb) te (Δ.set i (some (kR d vm vb s))) (.d (.int k))) (q : ∀ H', RS K W i Hs H' σ Δ d m b ⟨s.ms, s.bs, k, s.n⟩ → D.nx σ H') : sDPut (tVar i) (tC (.str "hands")) te D σ H :=
  o.in he fun v H1 a e o1 iv => by
    subst e
    cases iv
    exact ⟨_, o1.sl, d, _, rfl, DPut.k (k := Sum.inr "hands") o1.r.hd (by show 4 < sizeLine; decide), q _ ⟨o1.r.putD k s.n, st_hid M3d o1.st, o1.sl⟩⟩
theorem rs_putN {k : Int} (o : RS K W i Hs H σ Δ d m b s) (he : ∀ vm vb, vm.length = s.ms.length → XV K (W3 W d m b s vm vb) te (Δ.set i (some (kR d vm vb s))) (.d (.int k))) (q : ∀ H', RS K W i Hs H' σ Δ d m b ⟨s.ms, s.bs, s.h, k⟩ → D.nx σ H') : sDPut (tVar i) (tC (.str "deep")) te D σ H :=
  o.in he fun v H1 a e o1 iv => by
    subst e
    cases iv
    exact ⟨_, o1.sl, d, _, rfl, DPut.k (k := Sum.inr "deep") o1.r.hd (by show 4 < sizeLine; decide), q _ ⟨o1.r.putD s.h k, st_hid M3d o1.st, o1.sl⟩⟩
theorem rs_appM {x : PyData} (o : RS K W i Hs H σ Δ d m b s) (small : s.ms.length ≤ 100000) (he : ∀ vm vb, vm.length = s.ms.length → XV K (W3 W d m b s vm vb) te (Δ.set i (some (kR d vm vb s))) (.d x)) (q : ∀ H', RS K W i Hs H' σ Δ d m b ⟨s.ms ++ [x], s.bs, s.h, s.n⟩ → D.nx σ H') : tDrop (tBM K "list" rAppend (tDGet (tVar i) (tC (.str "marks"))) (tCons te tNil)) D σ H := by
  have g := DGet.k (k := Sum.inr "marks") o.r.hd
  rw [stK_m] at g
  obtain ⟨vm, h1, d1⟩ := o.r.hm
  refine ⟨_, o.sl, d, .ref m, rfl, g, .inl ⟨rfl, _, .inl (.inl h1)⟩, o.in he fun v H1 a e o1 iv => ?_⟩
  subst e
  obtain ⟨um, h1, d1⟩ := o1.r.hm
  exact ⟨m, um, v, rfl, rfl, h1, Nat.lt_of_le_of_lt (by rw [d1.length]; exact small) (by decide), q _ ⟨o1.r.putM h1 d1 iv, st_hid M3m o1.st, o1.sl⟩⟩
theorem rs_appB {x : PyData} (o : RS K W i Hs H σ Δ d m b s) (small : s.bs.length ≤ 100000) (he : ∀ vm vb, vm.length = s.ms.length → XV K (W3 W d m b s vm vb) te (Δ.set i (some (kR d vm vb s))) (.d x)) (q : ∀ H', RS K W i Hs H' σ Δ d m b ⟨s.ms, s.bs ++ [x], s.h, s.n⟩ → D.nx σ H') : tDrop (tBM K "list" rAppend (tDGet (tVar i) (tC (.str "body"))) (tCons te tNil)) D σ H := by
  have g := DGet.k (k := Sum.inr "body") o.r.hd
  rw [stK_b] at g
  obtain ⟨vm, h1, d1⟩ := o.r.hb
  refine ⟨_, o.sl, d, .ref b, rfl, g, .inl ⟨rfl, _, .inl (.inl h1)⟩, o.in he fun v H1 a e o1 iv => ?_⟩
  subst e
  obtain ⟨um, h1, d1⟩ := o1.r.hb
  exact ⟨b, um, v, rfl, rfl, h1, Nat.lt_of_le_of_lt (by rw [d1.length]; exact small) (by decide), q _ ⟨o1.r.putB h1 d1 iv, st_hid M3b o1.st, o1.sl⟩⟩
end
/-! ### a function that is handed the dict and a thing -/
def spRd (K : PySem.W.Frag) (pre : SR → PyData → Prop) (go : SR → PyData → SR × PyData) : Sp := fun us H Q _ => ∃ (W : Wd) (d m b : Addr) (s : SR) (x : PyData) (v : V), us = [.ref d, v] ∧ RSt K W H H d m b s ∧ Dt K (hid (M3 W d m b) H) v x ∧ pre s x ∧
  ∀ u H', RSt K W H H' d m b (go s x).1 → Is K (M3 W d m b) H' u (.d (go s x).2) → Q u H'
section
variable {K : PySem.W.Frag} {W : Wd} {Hs H H' : Hp} {d m b : Addr} {s s' : SR} {vm vb : List V} {Δ : Env} {σ : L2.St} {te : TE} {ts tu : TS} {tt : TT} {i : Nat} {D : Ends} {pre : SR → PyData → Prop} {go : SR → PyData → SR × PyData} {E : XK}
theorem rs_start {N : List Str} {us : List V} {Q : VK} (h : spRd K pre go us H Q E) (n : 2 ≤ N.length) : ∃ (W : Wd) (d m b : Addr) (s : SR) (x : PyData), pre s x ∧ RS K W 0 H H (L2.start N us) (startE N [.v (.ref d), .d x]) d m b s ∧ ∀ u H', RSt K W H H' d m b (go s x).1 → Is K (M3 W d m b) H' u (.d (go s x).2) → Q u H' := by
  obtain ⟨W, d, m, b, s, x, v, rfl, r, dx, p, q⟩ := h
  exact ⟨W, d, m, b, s, x, p, ⟨r, stOk_start (.cons rfl (.cons dx .nil)), rfl⟩, q⟩
theorem rs_call {k c : Nat} {x : PyData} (o : RS K W i Hs H σ Δ d m b s) (ne : k ≠ i) (hc : Δ[c]? = some (some (.d x))) (p : pre s x) (q : ∀ v H', RS K W i Hs H' (σ.set k (some v)) (Δ.set k (some (.d (go s x).2))) d m b (go s x).1 → D.nx (σ.set k (some v)) H') :
    tAsg (tCall (spRd K pre go) [] E (tCons (tVar i) (tCons (tVar c) tNil))) (gName k) D σ H := by
  obtain ⟨v, hv, iv⟩ := o.st.get c _ hc
  refine ⟨_, o.sl, _, hv, W, d, m, b, s, x, v, rfl, o.r.refl, iv, p, fun u H' r2 iu => ?_⟩
  exact q u H' ⟨o.r.trans r2, (o.st.ext (M := M3 W d m b) (M' := M3 W d m b) r2.same).set k iu, by rw [List.getElem?_set_ne ne]; exact o.sl⟩
theorem rs_seq {N : Env → SR → Prop} (h : ∀ N' : L2.St → Hp → Prop, (∀ σ' H' Δ' s', N Δ' s' → RS K W i Hs H' σ' Δ' d m b s' → N' σ' H') → ts { D with nx := N' } σ H) (q : ∀ σ' H' Δ' s', N Δ' s' → RS K W i Hs H' σ' Δ' d m b s' → tu D σ' H') : tSeq ts tu D σ H := h (tu D) q
theorem RS.refl (o : RS K W i Hs H σ Δ d m b s) : RS K W i H H σ Δ d m b s := ⟨o.r.refl, o.st, o.sl⟩
/-- for i, x in enumerate(xs) beside it -/
theorem rs_forEn {jr i1 i2 : Nat} {xs : List PyData} (o : RS K W i H H σ Δ d m b s) (n1 : i1 ≠ i) (n2 : i2 ≠ i) (hj : Δ[jr]? = some (some (.d (.list xs)))) (Inv : Nat → Env → SR → Prop) (hI : ∀ j Δ s, Inv j Δ s → Δ[i]? = some (some (.v (.ref d)))) (h0 : Inv 0 Δ s)
    (hs : ∀ j x σ1 H1 Δ1 s1, xs[j]? = some x → Inv j Δ1 s1 → RS K W i H H1 σ1 ((Δ1.set i1 (some (.d (.int (j : Int))))).set i2 (some (.d x))) d m b s1 → ∀ N : L2.St → Hp → Prop, (∀ σ2 H2 Δ2 s2, RS K W i H H2 σ2 Δ2 d m b s2 → Inv (j + 1) Δ2 s2 → N σ2 H2) → ts { D with nx := N, ct := N, bk := D.nx } σ1 H1)
    (hd : ∀ σ1 H1 Δ1 s1, RS K W i H H1 σ1 Δ1 d m b s1 → Inv xs.length Δ1 s1 → D.nx σ1 H1) : tFor (iEnum K (tCons (tVar jr) tNil)) (gTup K 2 (gCons (gName i1) (gCons (gName i2) gNil))) ts D σ H := by
  obtain ⟨v, hv, iv⟩ := o.st.get jr _ hj
  cases iv with
  | lst h1 d1 =>
    rename_i p vs
    have mp : ¬ M3 W d m b p := fun z => by rw [hid_in z] at h1; cases h1
    rw [hid_out mp] at h1
    have ga : ∀ {H2 s2}, RSt K W H H2 d m b s2 → SqL K H2 p vs := fun r => .inl (.inl (r.keep p _ mp h1))
    refine ⟨.ref p, hv, p, vs, rfl, ga o.r, ?_⟩
    refine ⟨fun j k σ2 H2 => k = xs.length - j ∧ j ≤ xs.length ∧ ∃ Δ2 s2, RS K W i H H2 σ2 Δ2 d m b s2 ∧ Inv j Δ2 s2, ⟨xs.length, (Nat.sub_zero _).symm, Nat.zero_le _, Δ, s, o, h0⟩, ?_⟩
    rintro j k σ2 H2 ⟨rfl, hj, Δ2, s2, o2, v2⟩
    have len := d1.length
    by_cases l : j < xs.length
    · obtain ⟨v, hv, dv⟩ := d1.get (List.getElem?_eq_getElem l)
      refine .inr ⟨⟨vs, v, ga o2.r, hv⟩, fun σ3 H3 => ∃ Δ3 s3, RS K W i H H3 σ3 Δ3 d m b s3 ∧ Inv (j + 1) Δ3 s3, ?_, ?_⟩
      · rintro σ3 H3 ⟨Δ3, s3, o3, v3⟩
        exact ⟨xs.length - (j + 1), by omega, rfl, l, Δ3, s3, o3, v3⟩
      · rintro y H3 ⟨T, x, rfl, nT, rfl, hx⟩
        have ex := hx vs (ga o2.r)
        rw [hv] at ex
        cases ex
        obtain ⟨vm, vb, jw, e1, e2⟩ := o2.r.w
        have f3 : Fr (W3 W d m b s2 vm vb) H2 (upd H2 T (.tup [.int (j : Nat), v])) := .new jw nT
        have sm2 : Same (hid (M3 W d m b) H2) (hid (M3 W d m b) (upd H2 T (.tup [.int (j : Nat), v]))) := f3.same
        have iT : Is K (W3 W d m b s2 vm vb).M (upd H2 T (.tup [.int (j : Nat), v])) (.ref T) (.d (.tuple [.int (j : Int), xs[j]])) := Dt.tup (.inl (.inl (hid_new jw nT))) (.cons (.int _) (.cons (Dt.ext (fun a o e => sm2 a o (o2.r.same a o e)) _ _ dv) .nil))
        refine gx_tup2 (Δ := Δ2) (.ref T) σ2 _ f3.j (o2.st.ext (M := M3 W d m b) (M' := M3 W d m b) f3.same) iT _ fun σ4 H4 f4 s4 => ?_
        have f := f3.trans f4
        have s4' : StOk K (M3 W d m b) H4 σ4 ((Δ2.set i1 (some (.d (.int (j : Int))))).set i2 (some (.d xs[j]))) := s4
        obtain ⟨w, hw, iw⟩ := s4'.get i (.v (.ref d)) (by rw [List.getElem?_set_ne n2, List.getElem?_set_ne n1]; exact hI j Δ2 s2 v2)
        have iw : w = .ref d := iw
        subst iw
        exact hs j xs[j] σ4 H4 Δ2 s2 (List.getElem?_eq_getElem l) v2 ⟨o2.r.go e1 e2 f, s4', hw⟩ _ fun σ5 H5 Δ5 s5 o5 v5 => ⟨Δ5, s5, o5, v5⟩
    · obtain rfl : j = xs.length := by omega
      exact .inl ⟨⟨vs, ga o2.r, by omega⟩, hd σ2 H2 Δ2 s2 o2 v2⟩
/-- name = {"marks": [], "body": [], "hands": 0, "deep": 0} -/
theorem rs_new (j : W.J H) (st : StOk K W.M H σ Δ) (hi : i < σ.length) (q : ∀ d m b H', Fr W H H' → H d = none → H m = none → H b = none → RS K W i H' H' (σ.set i (some (.ref d))) (Δ.set i (some (.v (.ref d)))) d m b ⟨[], [], 0, 0⟩ → tu D (σ.set i (some (.ref d))) H') :
    tSeq (tAsg (tDisp [(tC (.str "marks"), tLst tNil), (tC (.str "body"), tLst tNil), (tC (.str "hands"), tC (.int 0)), (tC (.str "deep"), tC (.int 0))]) (gName i)) tu D σ H := by
  refine seq_in (show tDisp _ σ H _ from fun d nd => ?_)
  refine (show ([] : List V).length ≤ sizeLine ∧ ∀ m, (upd H d (.dK [])) m = none → _ from ⟨by decide, fun m nm => ?_⟩)
  refine (show ([] : List V).length ≤ sizeLine ∧ ∀ b, (upd (upd H d (.dK [])) m (.lst [])) b = none → _ from ⟨by decide, fun b nb => ?_⟩)
  have dm : m ≠ d := fun e => by rw [e, upd_same] at nm; cases nm
  have bm : b ≠ m := fun e => by rw [e, upd_same] at nb; cases nb
  rw [upd_ne dm] at nm
  rw [upd_ne bm] at nb
  have bd : b ≠ d := fun e => by rw [e, upd_same] at nb; cases nb
  rw [upd_ne bd] at nb
  have wd : ¬ W.M d := W.fresh j nd
  have wm : ¬ W.M m := W.fresh j nm
  have wb : ¬ W.M b := W.fresh j nb
  have hd1 : (upd (upd (upd H d (.dK [])) m (.lst [])) b (.lst [])) d = some (.dK []) := by rw [upd_ne bd.symm, upd_ne dm.symm, upd_same]
  refine ⟨hd1, [(.inr "marks", .ref m), (.inr "body", .ref b), (.inr "hands", .int 0), (.inr "deep", .int 0)], rfl, by show 4 ≤ 15; decide, ?_⟩
  let H3 : Hp := upd (upd (upd (upd H d (.dK [])) m (.lst [])) b (.lst [])) d (.dK (stK m b 0 0))
  have h3 : ∀ a, a ≠ d → a ≠ m → a ≠ b → H3 a = H a := fun a h1 h2 h3 => by
    show (upd (upd (upd (upd H d (.dK [])) m (.lst [])) b (.lst [])) d (.dK (stK m b 0 0))) a = H a
    rw [upd_ne h1, upd_ne h3, upd_ne h2, upd_ne h1]
  have j3 : W.J H3 := W.loc H _ (fun a ma => h3 a (fun z => wd (z ▸ ma)) (fun z => wm (z ▸ ma)) fun z => wb (z ▸ ma)) j
  have f3 : Fr W H H3 := ⟨fun a o _ e => by rw [h3 a (ne_of_none e nd) (ne_of_none e nm) (ne_of_none e nb)]; exact e, j3⟩
  have sm : Same (hid W.M H) (hid (M3 W d m b) H3) := fun a o e => by
    by_cases z : W.M a
    · rw [hid_in z] at e; cases e
    · rw [hid_out z] at e
      have z3 : ¬ M3 W d m b a := fun q => q.elim (fun q => q.elim (fun q => q.elim z (ne_of_none e nd)) (ne_of_none e nm)) (ne_of_none e nb)
      rw [hid_out z3, h3 a (ne_of_none e nd) (ne_of_none e nm) (ne_of_none e nb)]
      exact e
  refine q d m b H3 f3 nd nm nb ⟨⟨fun _ _ _ e => e, j3, wd, wm, wb, dm.symm, bd.symm, bm.symm, upd_same, ⟨[], ?_, .nil⟩, ⟨[], ?_, .nil⟩⟩, (st.ext sm).set i rfl, List.getElem?_set_self hi⟩
  · show (upd (upd (upd (upd H d (.dK [])) m (.lst [])) b (.lst [])) d (.dK (stK m b 0 0))) m = _
    rw [upd_ne dm, upd_ne bm.symm, upd_same]
  · show (upd (upd (upd (upd H d (.dK [])) m (.lst [])) b (.lst [])) d (.dK (stK m b 0 0))) b = _
    rw [upd_ne bd, upd_same]
/-- what stood ahead of it stands behind it -/
theorem rs_back (r : RSt K W Hs H d m b s) (f : Fr W H' Hs) (nd : H' d = none) (nm : H' m = none) (nb : H' b = none) : Fr W H' H := ⟨fun a o na e => r.keep a o (fun q => q.elim (fun q => q.elim (fun q => q.elim na (ne_of_none e nd)) (ne_of_none e nm)) (ne_of_none e nb)) (f.keep a o na e), r.j⟩
theorem m3_le : Same (hid (M3 W d m b) H) (hid W.M H) := fun a o e => by
  by_cases z : M3 W d m b a
  · rw [hid_in z] at e; cases e
  · rw [hid_out z] at e
    rw [hid_out fun q => z (.inl (.inl (.inl q)))]
    exact e
end
end V2

set_option Elab.async false
set_option linter.all false
set_option maxRecDepth 100000
set_option maxHeartbeats 2000000
namespace V2
open PySem PySem.Spec PyProof.Rows L2
/-! ### a fragment of one's own: addresses and what stands there -/
abbrev Frg := List (Addr × HO)
def Wd.fix (W : Wd) (S : Frg) : Wd where
  M a := W.M a ∨ ∃ p ∈ S, p.1 = a
  J H := W.J H ∧ ∀ p ∈ S, H p.1 = some p.2
  live H a j m := m.elim (W.live H a j.1) fun ⟨p, hp, e⟩ => by rw [← e, j.2 p hp]; nofun
  loc H H' e j := ⟨W.loc H H' (fun a m => e a (.inl m)) j.1, fun p hp => by rw [e p.1 (.inr ⟨p, hp, rfl⟩)]; exact j.2 p hp⟩
def Frg.put (S : Frg) (a : Addr) (o : HO) : Frg := S.map fun p => if p.1 = a then (a, o) else p
theorem put_dom (S : Frg) (a : Addr) (o : HO) : (S.put a o).map (·.1) = S.map (·.1) := by
  unfold Frg.put
  rw [List.map_map]
  refine List.map_congr_left fun p _ => ?_
  show (if p.1 = a then (a, o) else p).1 = p.1
  split
  · rename_i h; exact h.symm
  · rfl
theorem fix_M {W : Wd} {S S' : Frg} (h : S'.map (·.1) = S.map (·.1)) : (W.fix S').M = (W.fix S).M := by
  have g : ∀ {A B : Frg}, A.map (·.1) = B.map (·.1) → ∀ a, (∃ p ∈ A, p.1 = a) → ∃ p ∈ B, p.1 = a := fun {A B} h a ⟨p, hp, e⟩ => by
    have : a ∈ B.map (·.1) := by rw [← h]; exact List.mem_map.mpr ⟨p, hp, e⟩
    obtain ⟨q, hq, e⟩ := List.mem_map.mp this
    exact ⟨q, hq, e⟩
  funext a
  exact propext ⟨fun z => z.imp id (g h a), fun z => z.imp id (g h.symm a)⟩
theorem hid_none {M : Addr → Prop} {H : Hp} {a : Addr} (h : H a = none) : hid M H a = none := by
  by_cases m : M a
  · exact hid_in m
  · rw [hid_out m]; exact h
structure FX (W : Wd) (H0 H : Hp) (S : Frg) : Prop where
  keep : ∀ a o, ¬ (W.fix S).M a → H0 a = some o → H a = some o
  j : (W.fix S).J H
  new : ∀ p ∈ S, H0 p.1 = none ∧ ¬ W.M p.1
  nd : (S.map (·.1)).Nodup
section
variable {K : PySem.W.Frag} {W : Wd} {H0 H H' : Hp} {S S' : Frg} {a p x : Addr} {o o' : HO} {σ : L2.St} {Δ : Env}
theorem FX.nil (j : W.J H) : FX W H H [] := ⟨fun _ _ _ e => e, ⟨j, fun _ h => nomatch h⟩, fun _ h => (nomatch h), List.nodup_nil⟩
theorem FX.fr (f : FX W H0 H S) : Fr W H0 H := ⟨fun a o n e => f.keep a o (fun z => z.elim n fun ⟨p, hp, q⟩ => by
  have := (f.new p hp).1
  rw [q, e] at this
  cases this) e, f.j.1⟩
theorem FX.go (f : FX W H0 H S) (g : Fr (W.fix S) H H') : FX W H0 H' S := ⟨fun a o n e => g.keep a o n (f.keep a o n e), g.j, f.new, f.nd⟩
theorem FX.none0 (f : FX W H0 H S) (np : H p = none) : H0 p = none ∧ ¬ (W.fix S).M p := by
  have nm : ¬ (W.fix S).M p := fun m => (W.fix S).live H p f.j m np
  refine ⟨?_, nm⟩
  cases e : H0 p with
  | none => rfl
  | some u => rw [f.keep p u nm e] at np; cases np
theorem FX.cons (f : FX W H0 H S) (np : H p = none) : FX W H0 (upd H p o) ((p, o) :: S) := by
  obtain ⟨n0, nm⟩ := f.none0 np
  refine ⟨fun a u n e => ?_, ⟨W.loc H _ (fun a m => upd_ne fun z => nm (.inl (z ▸ m))) f.j.1, fun q hq => ?_⟩, fun q hq => ?_, ?_⟩
  · rw [upd_ne fun z : a = p => n (.inr ⟨_, .head _, z.symm⟩)]
    exact f.keep a u (fun z => n (z.imp id fun ⟨q, hq, e⟩ => ⟨q, .tail _ hq, e⟩)) e
  · rcases List.mem_cons.mp hq with rfl | hq
    · exact upd_same
    · rw [upd_ne fun z : q.1 = p => nm (.inr ⟨q, hq, z⟩)]
      exact f.j.2 q hq
  · rcases List.mem_cons.mp hq with rfl | hq
    · exact ⟨n0, fun z => nm (.inl z)⟩
    · exact f.new q hq
  · rw [List.map_cons, List.nodup_cons]
    exact ⟨fun z => by obtain ⟨q, hq, e⟩ := List.mem_map.mp z; exact nm (.inr ⟨q, hq, e⟩), f.nd⟩
theorem FX.put (f : FX W H0 H S) (h : (a, o) ∈ S) : FX W H0 (upd H a o') (S.put a o') := by
  have hM : (W.fix (S.put a o')).M = (W.fix S).M := fix_M (put_dom S a o')
  have na := (f.new _ h).2
  refine ⟨fun c u n e => ?_, ⟨W.loc H _ (fun c m => upd_ne fun z => na (z ▸ m)) f.j.1, fun q hq => ?_⟩, fun q hq => ?_, by rw [put_dom]; exact f.nd⟩
  · rw [hM] at n
    rw [upd_ne fun z : c = a => n (.inr ⟨_, h, z.symm⟩)]
    exact f.keep c u n e
  · obtain ⟨r, hr, e⟩ := List.mem_map.mp hq
    by_cases z : r.1 = a
    · rw [if_pos z] at e
      subst e
      exact upd_same
    · rw [if_neg z] at e
      subst e
      rw [upd_ne z]
      exact f.j.2 r hr
  · obtain ⟨r, hr, e⟩ := List.mem_map.mp hq
    by_cases z : r.1 = a
    · rw [if_pos z] at e
      subst e
      exact (show H0 a = none ∧ ¬ W.M a from f.new (a, o) h)
    · rw [if_neg z] at e
      subst e
      exact f.new r hr
/-- something new that stands already -/
theorem FX.more (f : FX W H0 H S) (g : FX W H0 H' S) (np : H p = none) (hp : H' p = some o) : FX W H0 H' ((p, o) :: S) := by
  obtain ⟨n0, nm⟩ := f.none0 np
  refine ⟨fun a u n e => g.keep a u (fun z => n (z.imp id fun ⟨q, hq, e⟩ => ⟨q, .tail _ hq, e⟩)) e, ⟨g.j.1, fun q hq => ?_⟩, fun q hq => ?_, ?_⟩
  · rcases List.mem_cons.mp hq with rfl | hq
    · exact hp
    · exact g.j.2 q hq
  · rcases List.mem_cons.mp hq with rfl | hq
    · exact ⟨n0, fun z => nm (.inl z)⟩
    · exact g.new q hq
  · rw [List.map_cons, List.nodup_cons]
    exact ⟨fun z => by obtain ⟨q, hq, e⟩ := List.mem_map.mp z; exact nm (.inr ⟨q, hq, e⟩), g.nd⟩
/-- the same content in another order -/
theorem FX.as (f : FX W H0 H S) (h : ∀ p ∈ S', p ∈ S) (h' : ∀ p ∈ S, p ∈ S') (nd : (S'.map (·.1)).Nodup) : FX W H0 H S' :=
  ⟨fun a o n e => f.keep a o (fun z => n (z.imp id fun ⟨q, hq, e⟩ => ⟨q, h' q hq, e⟩)) e, ⟨f.j.1, fun q hq => f.j.2 q (h q hq)⟩, fun q hq => f.new q (h q hq), nd⟩
theorem perm_M (h : ∀ p ∈ S', p ∈ S) (h' : ∀ p ∈ S, p ∈ S') : (W.fix S').M = (W.fix S).M := by
  funext a
  exact propext ⟨fun z => z.imp id fun ⟨q, hq, e⟩ => ⟨q, h q hq, e⟩, fun z => z.imp id fun ⟨q, hq, e⟩ => ⟨q, h' q hq, e⟩⟩
/-- the fragment, and the names -/
structure FS (K : PySem.W.Frag) (W : Wd) (H0 H : Hp) (σ : L2.St) (Δ : Env) (S : Frg) : Prop where
  f : FX W H0 H S
  st : StOk K (W.fix S).M H σ Δ
/-- what is seen beside the fragment stays -/
abbrev Gr (W : Wd) (H : Hp) (S : Frg) (H' : Hp) (S' : Frg) : Prop := Same (hid (W.fix S).M H) (hid (W.fix S').M H')
theorem gr_fr (g : Fr (W.fix S) H H') : Gr W H S H' S := g.same
theorem gr_put (h : (a, o) ∈ S) : Gr W H S (upd H a o') (S.put a o') := by
  show Same (hid (W.fix S).M H) (hid (W.fix (S.put a o')).M (upd H a o'))
  rw [fix_M (put_dom S a o'), hid_upd (M := (W.fix S).M) (.inr ⟨_, h, rfl⟩)]
  exact fun _ _ e => e
theorem gr_cons (np : H p = none) : Gr W H S (upd H p o) ((p, o) :: S) := fun c u e => by
  by_cases m : (W.fix S).M c
  · rw [hid_in m] at e; cases e
  · rw [hid_out m] at e
    have ne : c ≠ p := ne_of_none e np
    rw [hid_out (M := (W.fix ((p, o) :: S)).M) fun z => m (z.imp id fun ⟨q, hq, e⟩ => by
      rcases List.mem_cons.mp hq with rfl | hq
      · exact absurd e.symm ne
      · exact ⟨q, hq, e⟩), upd_ne ne]
    exact e
theorem gr_more (np : H p = none) (g : Gr W H S H' S) : Gr W H S H' ((p, o) :: S) := fun c u e => by
  have ne : c ≠ p := ne_of_none e (hid_none np)
  have e' := g c u e
  by_cases m : (W.fix S).M c
  · rw [hid_in m] at e'; cases e'
  · rw [hid_out m] at e'
    rw [hid_out (M := (W.fix ((p, o) :: S)).M) fun z => m (z.imp id fun ⟨q, hq, e⟩ => by
      rcases List.mem_cons.mp hq with rfl | hq
      · exact absurd e.symm ne
      · exact ⟨q, hq, e⟩)]
    exact e'
theorem gr_trans {H1 : Hp} {S1 : Frg} (a : Gr W H S H1 S1) (b : Gr W H1 S1 H' S') : Gr W H S H' S' := fun c u e => b c u (a c u e)
theorem gr_as (h : ∀ p ∈ S', p ∈ S) (h' : ∀ p ∈ S, p ∈ S') : Gr W H S H S' := by
  show Same (hid (W.fix S).M H) (hid (W.fix S').M H)
  rw [perm_M h h']
  exact fun _ _ e => e
theorem FS.go (s : FS K W H0 H σ Δ S) (g : Fr (W.fix S) H H') : FS K W H0 H' σ Δ S := ⟨s.f.go g, s.st.ext (M := (W.fix S).M) (M' := (W.fix S).M) g.same⟩
theorem FS.to (s : FS K W H0 H σ Δ S) (f : FX W H0 H' S') (g : Gr W H S H' S') : FS K W H0 H' σ Δ S' := ⟨f, s.st.ext (M := (W.fix S).M) (M' := (W.fix S').M) g⟩
end
theorem put_map {α : Type} {key : α → Addr} {val : α → HO} {ms : List α} {i : Nat} {m m' : α} (h : ms[i]? = some m) (hk : key m' = key m) (nd : (ms.map key).Nodup) : Frg.put (ms.map fun a => (key a, val a)) (key m) (val m') = (ms.set i m').map fun a => (key a, val a) := by
  obtain ⟨lt, e⟩ := List.getElem?_eq_some_iff.mp h
  refine List.ext_getElem? fun j => ?_
  unfold Frg.put
  rw [List.getElem?_map, List.getElem?_map, List.getElem?_map, List.getElem?_set]
  by_cases z : i = j
  · subst z
    rw [if_pos rfl, if_pos lt, h]
    show some (if key m = key m then (key m, val m') else _) = some (key m', val m')
    rw [if_pos rfl, hk]
  · rw [if_neg z]
    cases q : ms[j]? with
    | none => rfl
    | some c =>
      obtain ⟨lj, ej⟩ := List.getElem?_eq_some_iff.mp q
      show some (if key c = key m then _ else (key c, val c)) = _
      have : key c ≠ key m := fun w => z (by
        have h1 : (ms.map key)[i]'(by rw [List.length_map]; exact lt) = (ms.map key)[j]'(by rw [List.length_map]; exact lj) := by rw [List.getElem_map, List.getElem_map, e, ej, w]
        exact (List.getElem_inj nd).mp h1)
      rw [if_neg this]
      rfl
theorem put_map_none {α : Type} {key : α → Addr} {val : α → HO} {ms : List α} {c : Addr} {o : HO} (h : ∀ a ∈ ms, key a ≠ c) : Frg.put (ms.map fun a => (key a, val a)) c o = ms.map fun a => (key a, val a) := by
  unfold Frg.put
  rw [List.map_map]
  exact List.map_congr_left fun a ha => if_neg (h a ha)
theorem set_map {α β : Type} {f : α → β} {ms : List α} {i : Nat} {m m' : α} (h : ms[i]? = some m) (e : f m' = f m) : (ms.set i m').map f = ms.map f := by
  refine List.ext_getElem? fun j => ?_
  rw [List.getElem?_map, List.getElem?_map, List.getElem?_set]
  by_cases z : i = j
  · subst z
    obtain ⟨lt, _⟩ := List.getElem?_eq_some_iff.mp h
    rw [if_pos rfl, if_pos lt, h]
    exact congrArg some e
  · rw [if_neg z]
/-! ### one object in a world set free -/
def SW.free {T : Type} (W : Wd) (x : Addr) (o : T → HO) (t0 : T) (hx : W.M x) : SW T where
  M := W.M
  J t H := H x = some (o t) ∧ W.J (upd H x (o t0))
  live t H a j m := by
    by_cases z : a = x
    · rw [z, j.1]; nofun
    · have := W.live _ a j.2 m
      rwa [upd_ne z] at this
  loc t H H' e j := ⟨by rw [e x hx]; exact j.1, W.loc _ _ (fun a m => by
    by_cases z : a = x
    · rw [z, upd_same, upd_same]
    · rw [upd_ne z, upd_ne z]; exact e a m) j.2⟩
section
variable {γ T : Type} {K : PySem.W.Frag} {W : Wd} {H0 H H' : Hp} {S S' : Frg} {a p x : Addr} {σ : L2.St} {Δ : Env} {oo : T → HO} {t0 t : T}
theorem upd_self {H : Hp} {u : HO} (e : H x = some u) : upd H x u = H := by
  funext c
  by_cases z : c = x
  · rw [z, upd_same, e]
  · rw [upd_ne z]
theorem hasObj_free (hx : W.M x) : HasObj (SW.free W x oo t0 hx) x oo (fun t => t) (fun _ t => t) where
  mem := hx
  here s H j := j.1
  put s t H j := ⟨upd_same, by rw [upd_upd]; exact j.2⟩
  same s := rfl
  got s t := rfl
  twice s t u := rfl
theorem free_j (hx : W.M x) (j : W.J H) (e : H x = some (oo t0)) : (SW.free W x oo t0 hx).J t0 H := ⟨e, by rw [upd_self e]; exact j⟩
theorem free_back (hx : W.M x) (g : Fr ((SW.free W x oo t0 hx).at t0) H H') : Fr W H H' := ⟨g.keep, by have := g.j.2; rwa [upd_self g.j.1] at this⟩
theorem FX.obj (f : FX W H0 H S) (h : (x, oo t0) ∈ S) (hx : (W.fix S).M x) (g : Fr ((SW.free (W.fix S) x oo t0 hx).at t) H H') : FX W H0 H' (S.put x (oo t)) := by
  have hM : (W.fix (S.put x (oo t))).M = (W.fix S).M := fix_M (put_dom S x (oo t))
  have na := (f.new _ h).2
  obtain ⟨j1, j2, j3⟩ := g.j
  refine ⟨fun c u n e => ?_, ⟨W.loc _ H' (fun c m => (upd_ne fun z : c = x => na (show W.M x from z ▸ m)).symm) j2, fun q hq => ?_⟩, fun q hq => ?_, by rw [put_dom]; exact f.nd⟩
  · rw [hM] at n
    exact g.keep c u n (f.keep c u n e)
  · obtain ⟨r, hr, e⟩ := List.mem_map.mp hq
    by_cases z : r.1 = x
    · rw [if_pos z] at e
      subst e
      exact j1
    · rw [if_neg z] at e
      subst e
      have := j3 r hr
      rwa [upd_ne z] at this
  · obtain ⟨r, hr, e⟩ := List.mem_map.mp hq
    by_cases z : r.1 = x
    · rw [if_pos z] at e
      subst e
      exact (show H0 x = none ∧ ¬ W.M x from f.new (x, oo t0) h)
    · rw [if_neg z] at e
      subst e
      exact f.new r hr
theorem gr_obj (hx : (W.fix S).M x) (g : Fr ((SW.free (W.fix S) x oo t0 hx).at t) H H') : Gr W H S H' (S.put x (oo t)) := by
  show Same (hid (W.fix S).M H) (hid (W.fix (S.put x (oo t))).M H')
  rw [fix_M (put_dom S x (oo t))]
  exact g.same
end
/-! ### what is read in a world with fixed lists -/
section
variable {K : PySem.W.Frag} {W : Wd} {H0 H H' : Hp} {S S' : Frg} {ad x : Addr} {σ : L2.St} {Δ : Env} {rv : List V} {te tl to ti : TE} {v : V} {d : PyData}
theorem hasRow_fix (h : (ad, HO.lst rv) ∈ S) : HasRow (W.fix S) (ad, rv) := ⟨.inr ⟨_, h, rfl⟩, fun H j => j.2 _ h⟩
theorem ox_ixF {i : Nat} (hz : HasRow W (ad, rv)) (h : rv[i]? = some v) : OX K W (rIxL K) (.v (.ref ad)) (.d (.int (i : Int))) (· = .v v) := fun u w H j i1 i2 Q q => by
  have e1 : u = .ref ad := i1
  subst e1
  cases i2
  have lt := (List.getElem?_eq_some_iff.mp h).1
  exact ⟨_, _, _, _, rfl, rfl, .inl (.inl (hz.2 H j)), atI_nat h, q v H _ (.refl j) rfl rfl⟩
theorem cx_lenO (hz : HasRow W (ad, rv)) : CX1 K W (rLen K) [.v (.ref ad)] (· = .d (.int rv.length)) := fun vs H j i Q q => by
  cases i with
  | cons h t =>
    cases t
    have e : _ = V.ref ad := h
    subst e
    exact ⟨ad, rv, rfl, .inl (.inl (.inl (hz.2 H j))), q _ H _ (.refl j) rfl (.int _)⟩
theorem xe_vd (h : XV K W te Δ (.v (vOf d))) (f : flat d = true) : XV K W te Δ (.d d) := fun σ H j st Q q => h σ H j st Q fun u H1 a f1 e i => by
  subst e
  have e : u = vOf d := i
  subst e
  exact q _ H1 _ f1 rfl (Dt.ofFlat f)
theorem xi_listO (hz : HasRow W (ad, rv)) (h : XV K W tl Δ (.v (.ref ad))) : XI K W (iList K tl) Δ (· = rv.length) fun i a => ∃ v, rv[i]? = some v ∧ a = .v v := fun σ H j s R q =>
  h σ H j s _ fun v H1 a f e i => by
    subst e
    have e : v = .ref ad := i
    subst e
    refine ⟨ad, rfl, ⟨rv, .inl (.inl (hz.2 H1 f.j))⟩, q _ H1 _ f rfl fun H2 f2 i => ?_⟩
    have g : SqL K H2 ad rv := .inl (.inl (hz.2 H2 f2.j))
    refine ⟨fun l => ?_, fun l => ⟨rv, g, l⟩⟩
    refine ⟨⟨rv, rv[i], g, List.getElem?_eq_getElem l⟩, fun y H3 yl => ⟨yl.1, .v rv[i], ⟨_, List.getElem?_eq_getElem l, rfl⟩, ?_⟩⟩
    have e := yl.2 rv g
    rw [List.getElem?_eq_getElem l] at e
    cases e
    rfl
end
/-! ### a method that leaves its object, in a world that fixes it -/
section
variable {γ T : Type} {K : PySem.W.Frag} {C : Addr} {o : Addr → T → HO} {pre : γ → T → List A → Prop} {post : γ → T → T → A → Prop} {postX : γ → T → T → Prop} {W : Wd} {x dx : Addr} {Δ : Env} {ta : TA} {te : TE} {E : XK} {t0 : T}
theorem xe_methC (g : γ) {D : Addr} {m : Str} {as : List A} (hx : W.M x) (hh : ∀ H, W.J H → H x = some (o dx t0)) (hv : XV K W te Δ (.v (.ref x))) (ho : ∀ t, ∃ fs, o dx t = .ins D dx fs ∧ fs.lookup m = none) (ha : XAs K W ta Δ as) (p : pre g t0 as) (nx : ∀ t, ¬ postX g t0 t) (sm : ∀ t a, post g t0 t a → t = t0) :
    XE K W (tMeth D m (spO K C o pre post postX) [] E te ta) Δ (post g t0 t0) := fun σ H j st Q q =>
  hv σ H j st _ fun v H1 a f1 e i1 => by
    subst e
    have e : v = .ref x := i1
    subst e
    obtain ⟨fs, eo, el⟩ := ho t0
    refine ⟨x, dx, fs, rfl, by rw [hh H1 f1.j, eo], el, ha σ H1 f1.j (st.fr f1) _ fun vs H2 as' f2 e i2 => ?_⟩
    subst e
    rw [List.append_nil]
    refine ⟨g, T, SW.free W x (o dx) t0 hx, t0, x, dx, fun t => t, fun _ t => t, as', free_j hx f2.j (hh H2 f2.j), hasObj_free hx, p, .cons rfl i2, fun v H' t a f r i => ?_, fun H' t f z => absurd z (nx t)⟩
    have e := sm t a r
    subst e
    exact q v H' a ((f1.trans f2).trans (free_back hx f)) r i
end
theorem ixN_nat {n i : Nat} (l : i < n) : L2.ixN n ((i : Nat) : Int) = some i := by
  unfold L2.ixN
  rw [if_pos (Int.natCast_nonneg i), if_pos (by omega)]
  rfl
/-! ### statements beside a fragment -/
section
variable {γ T : Type} {K : PySem.W.Frag} {W : Wd} {H0 H H' : Hp} {S S' : Frg} {ad x dx : Addr} {σ : L2.St} {Δ : Env} {rv : List V} {te to ti : TE} {ta : TA} {ts tu : TS} {tt : TT} {D : Ends} {R : A → Prop}
theorem FS.in (s : FS K W H0 H σ Δ S) (he : XE K (W.fix S) te Δ R) {Q : VK} (q : ∀ v H' a, R a → FS K W H0 H' σ Δ S → Gr W H S H' S → Is K (W.fix S).M H' v a → Q v H') : te σ H Q :=
  he σ H s.f.j s.st Q fun v H' a f r i => q v H' a r (s.go f) f.same i
theorem FS.put (s : FS K W H0 H σ Δ S) {i : Nat} {v : V} {a : A} (h : Is K (W.fix S).M H v a) : FS K W H0 H (σ.set i (some v)) (Δ.set i (some a)) S := ⟨s.f, s.st.set i h⟩
theorem fs_asg {k : Nat} (s : FS K W H0 H σ Δ S) (he : XE K (W.fix S) te Δ R) (q : ∀ v H' a, R a → FS K W H0 H' (σ.set k (some v)) (Δ.set k (some a)) S → Gr W H S H' S → D.nx (σ.set k (some v)) H') : tAsg te (gName k) D σ H :=
  s.in he fun v H' a r s1 g i => q v H' a r (s1.put i) g
theorem fs_if {B : Bool → Prop} (s : FS K W H0 H σ Δ S) (ht : XT K (W.fix S) tt Δ B) (h1 : ∀ H', B true → FS K W H0 H' σ Δ S → Gr W H S H' S → ts D σ H') (h2 : ∀ H', B false → FS K W H0 H' σ Δ S → Gr W H S H' S → tu D σ H') : tIfS tt ts tu D σ H :=
  ht σ H s.f.j s.st _ fun b H1 f hb => by
    cases b with
    | true => exact iteT (h1 H1 hb (s.go f) f.same)
    | false => exact iteF (h2 H1 hb (s.go f) f.same)
theorem fs_ret (s : FS K W H0 H σ Δ S) (he : XE K (W.fix S) te Δ R) (q : ∀ v H' a, R a → FS K W H0 H' σ Δ S → Gr W H S H' S → Is K (W.fix S).M H' v a → D.rt v H') : tRet te D σ H := s.in he q
/-- xs[i] = e, xs of the fragment, e flat -/
theorem fs_setL {i : Nat} {d : PyData} (s : FS K W H0 H σ Δ S) (h : (ad, HO.lst rv) ∈ S) (he : XV K (W.fix S) te Δ (.d d)) (fd : flat d = true) (ho : XV K (W.fix S) to Δ (.v (.ref ad))) (hi : XV K (W.fix S) ti Δ (.d (.int (i : Int)))) (l : i < rv.length)
    (q : ∀ H', FS K W H0 H' σ Δ (S.put ad (.lst (rv.set i (vOf d)))) → Gr W H S H' (S.put ad (.lst (rv.set i (vOf d)))) → D.nx σ H') : tAsg te (gSub to ti rSetL) D σ H :=
  s.in he fun v H1 a e s1 g1 iv => by
    subst e
    have ev : v = vOf d := Dt.flat iv fd
    subst ev
    refine s1.in ho fun u H2 a e s2 g2 iu => ?_
    subst e
    have eu : u = .ref ad := iu
    subst eu
    refine s2.in hi fun w H3 a e s3 g3 iw => ?_
    subst e
    cases iw
    exact ⟨ad, rv, _, i, rfl, rfl, s3.f.j.2 _ h, ixN_nat l, q _ (s3.to (s3.f.put h) (gr_put h)) (gr_trans (gr_trans (gr_trans g1 g2) g3) (gr_put h))⟩
/-- xs.append(e), xs of the fragment -/
theorem fs_app {v : V} (s : FS K W H0 H σ Δ S) (h : (ad, HO.lst rv) ∈ S) (l : rv.length < sizeLine) (q : FS K W H0 (upd H ad (.lst (rv ++ [v]))) σ Δ (S.put ad (.lst (rv ++ [v]))) → Gr W H S (upd H ad (.lst (rv ++ [v]))) (S.put ad (.lst (rv ++ [v]))) → D.nx σ (upd H ad (.lst (rv ++ [v])))) : rAppend (.ref ad) [v] H (fun _ H1 => D.nx σ H1) :=
  ⟨ad, rv, v, rfl, rfl, s.f.j.2 _ h, l, q (s.to (s.f.put h) (gr_put h)) (gr_put h)⟩
/-- o.m(..), o of the fragment, which it changes -/
theorem fs_meth {C : Addr} {oo : Addr → T → HO} {pre : γ → T → List A → Prop} {post : γ → T → T → A → Prop} {postX : γ → T → T → Prop} {E : XK} {t0 : T} (g : γ) {Cl : Addr} {m : Str} {as : List A} (s : FS K W H0 H σ Δ S) (h : (x, oo dx t0) ∈ S) (hv : XV K (W.fix S) te Δ (.v (.ref x))) (ho : ∀ t, ∃ fs, oo dx t = .ins Cl dx fs ∧ fs.lookup m = none) (ha : XAs K (W.fix S) ta Δ as) (p : pre g t0 as) (nx : ∀ t, ¬ postX g t0 t) {Q : VK}
    (q : ∀ v H' t a, post g t0 t a → FS K W H0 H' σ Δ (S.put x (oo dx t)) → Gr W H S H' (S.put x (oo dx t)) → Is K (W.fix (S.put x (oo dx t))).M H' v a → Q v H') : tMeth Cl m (spO K C oo pre post postX) [] E te ta σ H Q :=
  s.in hv fun v H1 a e s1 g1 i1 => by
    subst e
    have e : v = .ref x := i1
    subst e
    obtain ⟨fs, eo, el⟩ := ho t0
    refine ⟨x, dx, fs, rfl, by rw [s1.f.j.2 _ h, eo], el, ?_⟩
    refine ha σ H1 s1.f.j s1.st _ fun vs H2 as' f2 e i2 => ?_
    subst e
    rw [List.append_nil]
    have hx : (W.fix S).M x := .inr ⟨_, h, rfl⟩
    have s2 := s1.go f2
    refine ⟨g, T, SW.free (W.fix S) x (oo dx) t0 hx, t0, x, dx, fun t => t, fun _ t => t, as', free_j hx s2.f.j (s2.f.j.2 _ h), hasObj_free hx, p, .cons rfl i2, fun v H' t a f r i => ?_, fun H' t f z => absurd z (nx t)⟩
    exact q v H' t a r (s2.to (s2.f.obj h hx f) (gr_obj hx f)) (gr_trans (gr_trans g1 f2.same) (gr_obj hx f)) (by rw [fix_M (put_dom S x (oo dx t))]; exact i)
/-- f(o, ..) likewise -/
theorem fs_callo {C : Addr} {oo : Addr → T → HO} {pre : γ → T → List A → Prop} {post : γ → T → T → A → Prop} {postX : γ → T → T → Prop} {E : XK} {t0 : T} (g : γ) {as : List A} (s : FS K W H0 H σ Δ S) (h : (x, oo dx t0) ∈ S) (ha : XAs K (W.fix S) ta Δ (.v (.ref x) :: as)) (p : pre g t0 as) (nx : ∀ t, ¬ postX g t0 t) {Q : VK}
    (q : ∀ v H' t a, post g t0 t a → FS K W H0 H' σ Δ (S.put x (oo dx t)) → Gr W H S H' (S.put x (oo dx t)) → Is K (W.fix (S.put x (oo dx t))).M H' v a → Q v H') : tCall (spO K C oo pre post postX) [] E ta σ H Q :=
  ha σ H s.f.j s.st _ fun vs H2 as' f2 e i2 => by
    subst e
    rw [List.append_nil]
    have hx : (W.fix S).M x := .inr ⟨_, h, rfl⟩
    have s2 := s.go f2
    refine ⟨g, T, SW.free (W.fix S) x (oo dx) t0 hx, t0, x, dx, fun t => t, fun _ t => t, as, free_j hx s2.f.j (s2.f.j.2 _ h), hasObj_free hx, p, i2, fun v H' t a f r i => ?_, fun H' t f z => absurd z (nx t)⟩
    exact q v H' t a r (s2.to (s2.f.obj h hx f) (gr_obj hx f)) (gr_trans f2.same (gr_obj hx f)) (by rw [fix_M (put_dom S x (oo dx t))]; exact i)
theorem HasPool.fix {pa : Addr} (h : HasPool W pa) (n : ∀ p ∈ S, ¬ W.M p.1) : HasPool (W.fix S) pa where
  mem := .inl h.mem
  get H j := h.get H j.1
  put H n' s j h0 h1 := ⟨h.put H n' s j.1 h0 h1, fun p hp => by rw [upd_ne fun e : p.1 = pa => n p hp (e ▸ h.mem)]; exact j.2 p hp⟩
/-- name, xs[i] = a pair; xs of the fragment -/
theorem fs_tup2 {k i : Nat} {P d : PyData} (s : FS K W H0 H σ Δ S) (h : (ad, HO.lst rv) ∈ S) (he : XV K (W.fix S) te Δ (.d (.tuple [P, d]))) (fd : flat d = true) (ho : XV K (W.fix S) to (Δ.set k (some (.d P))) (.v (.ref ad))) (hi : XV K (W.fix S) ti (Δ.set k (some (.d P))) (.d (.int (i : Int)))) (l : i < rv.length)
    (q : ∀ v H', FS K W H0 H' (σ.set k (some v)) (Δ.set k (some (.d P))) (S.put ad (.lst (rv.set i (vOf d)))) → Gr W H S H' (S.put ad (.lst (rv.set i (vOf d)))) → D.nx (σ.set k (some v)) H') : tAsg te (gTup K 2 (gCons (gName k) (gCons (gSub to ti rSetL) gNil))) D σ H :=
  s.in he fun v H1 a e s1 g1 iv => by
    subst e
    cases iv with
    | tup h1 d1 =>
      cases d1 with
      | cons dx d2 =>
        cases d2 with
        | cons dy d3 =>
          cases d3
          refine ⟨_, _, rfl, sqT_same hid_le h1, rfl, _, _, rfl, _, _, rfl, ?_⟩
          have ev := Dt.flat dy fd
          subst ev
          have s2 : FS K W H0 H1 (σ.set k (some _)) (Δ.set k (some (.d P))) S := s1.put (a := .d P) dx
          refine s2.in ho fun u H2 a e s3 g2 iu => ?_
          subst e
          have eu : u = .ref ad := iu
          subst eu
          refine s3.in hi fun w H3 a e s4 g3 iw => ?_
          subst e
          cases iw
          exact ⟨ad, rv, _, i, rfl, rfl, s4.f.j.2 _ h, ixN_nat l, rfl, q _ _ (s4.to (s4.f.put h) (gr_put h)) (gr_trans (gr_trans (gr_trans g1 g2) g3) (gr_put h))⟩
end
/-! ### a part of the fragment seen alone -/
section
variable {K : PySem.W.Frag} {W : Wd} {H0 H H' : Hp} {S S1 : Frg} {σ : L2.St} {Δ : Env}
theorem FX.sub (f : FX W H0 H S) (h1 : ∀ p ∈ S1, p ∈ S) (g : Fr (W.fix S1) H H') : FX W H0 H' S :=
  ⟨fun a o n e => g.keep a o (fun z => n (z.imp id fun ⟨q, hq, e⟩ => ⟨q, h1 q hq, e⟩)) (f.keep a o n e), ⟨g.j.1, fun q hq => by
    by_cases z : (W.fix S1).M q.1
    · rcases z with z | ⟨r, hr, e⟩
      · exact absurd z (f.new q hq).2
      · have a1 := g.j.2 r hr
        have a2 := f.j.2 r (h1 r hr)
        have a3 := f.j.2 q hq
        rw [e] at a1 a2
        rw [a2] at a3
        rw [a1, a3]
    · exact g.keep _ _ z (f.j.2 q hq)⟩, f.new, f.nd⟩
theorem gr_sub (h1 : ∀ p ∈ S1, p ∈ S) (g : Fr (W.fix S1) H H') : Gr W H S H' S := fun c u e => by
  by_cases m : (W.fix S).M c
  · rw [hid_in m] at e; cases e
  · rw [hid_out m] at e ⊢
    exact g.keep c u (fun z => m (z.imp id fun ⟨q, hq, e⟩ => ⟨q, h1 q hq, e⟩)) e
theorem same_sub (h1 : ∀ p ∈ S1, p ∈ S) : Same (hid (W.fix S).M H) (hid (W.fix S1).M H) := fun c u e => by
  by_cases m : (W.fix S).M c
  · rw [hid_in m] at e; cases e
  · rw [hid_out m] at e
    rw [hid_out fun z => m (z.imp id fun ⟨q, hq, e⟩ => ⟨q, h1 q hq, e⟩)]
    exact e
theorem same_out : Same (hid (W.fix S).M H) (hid W.M H) := fun c u e => by
  by_cases m : (W.fix S).M c
  · rw [hid_in m] at e; cases e
  · rw [hid_out m] at e
    rw [hid_out fun z => m (.inl z)]
    exact e
theorem same_nil : Same (hid W.M H) (hid (W.fix []).M H) := fun c u e => by
  by_cases m : W.M c
  · rw [hid_in m] at e; cases e
  · rw [hid_out m] at e
    rw [hid_out fun z => z.elim m fun ⟨_, hq, _⟩ => nomatch hq]
    exact e
theorem FS.out (s : FS K W H0 H σ Δ S) : StOk K W.M H σ Δ := s.st.ext same_out
theorem FS.nil (j : W.J H) (st : StOk K W.M H σ Δ) : FS K W H H σ Δ [] := ⟨FX.nil j, st.ext same_nil⟩
/-- an expression over a part, the rest of the fragment read as data -/
theorem FS.part {te : TE} {Δ' : Env} {R : A → Prop} {Q : VK} (s : FS K W H0 H σ Δ S) (h1 : ∀ p ∈ S1, p ∈ S) (st' : StOk K (W.fix S1).M H σ Δ') (he : XE K (W.fix S1) te Δ' R) (q : ∀ v H' a, R a → FS K W H0 H' σ Δ S → Gr W H S H' S → Is K (W.fix S1).M H' v a → Q v H') : te σ H Q :=
  he σ H ⟨s.f.j.1, fun p hp => s.f.j.2 p (h1 p hp)⟩ st' Q fun v H' a f r i => q v H' a r (s.to (s.f.sub h1 f) (gr_sub h1 f)) (gr_sub h1 f) i
theorem StOk.setSelf {M : Addr → Prop} {k : Nat} {v : V} {a : A} (st : StOk K M H σ Δ) (e : σ[k]? = some (some v)) (i : Is K M H v a) : StOk K M H σ (Δ.set k (some a)) := by
  have h := st.set k i
  have e2 : σ.set k (some v) = σ := by
    refine List.ext_getElem? fun j => ?_
    rw [List.getElem?_set]
    by_cases z : k = j
    · subst z
      obtain ⟨lt, _⟩ := List.getElem?_eq_some_iff.mp e
      rw [if_pos rfl, if_pos lt, e]
    · rw [if_neg z]
  rwa [e2] at h
end
/-! ### the same place laid again; promises at an object with what is known of the arguments -/
section
variable {γ T : Type} {K : PySem.W.Frag} {W : Wd} {H0 H H' : Hp} {S S' : Frg} {a b c x dx : Addr} {o o' u : HO} {σ : L2.St} {Δ : Env} {te : TE} {tt : TT} {ts : TS} {D : Ends}
theorem mem_put {S : Frg} {a c : Addr} {o u : HO} (h : (c, u) ∈ S) (n : c ≠ a) : (c, u) ∈ S.put a o := List.mem_map.mpr ⟨(c, u), h, if_neg n⟩
theorem mem_putS (h : (a, o) ∈ S) : (a, o') ∈ S.put a o' := List.mem_map.mpr ⟨(a, o), h, if_pos rfl⟩
theorem put_put : (S.put a o).put a o' = S.put a o' := by
  unfold Frg.put
  rw [List.map_map]
  refine List.map_congr_left fun p _ => ?_
  show (if (if p.1 = a then (a, o) else p).1 = a then (a, o') else (if p.1 = a then (a, o) else p)) = _
  by_cases z : p.1 = a
  · rw [if_pos z, if_pos rfl, if_pos z]
  · rw [if_neg z, if_neg z]
theorem put_comm (n : a ≠ b) : (S.put a o).put b u = (S.put b u).put a o := by
  unfold Frg.put
  rw [List.map_map, List.map_map]
  refine List.map_congr_left fun p _ => ?_
  show (if (if p.1 = a then (a, o) else p).1 = b then (b, u) else (if p.1 = a then (a, o) else p)) = (if (if p.1 = b then (b, u) else p).1 = a then (a, o) else (if p.1 = b then (b, u) else p))
  by_cases z : p.1 = a
  · rw [if_pos z, if_neg (fun q : a = b => n q), if_neg (fun q : p.1 = b => n (z.symm.trans q)), if_pos z]
  · rw [if_neg z]
    by_cases y : p.1 = b
    · rw [if_pos y, if_neg (fun q : b = a => n q.symm)]
    · rw [if_neg y, if_neg z]
theorem put_self (nd : (S.map (·.1)).Nodup) (h : (a, o) ∈ S) : S.put a o = S := by
  unfold Frg.put
  refine (List.map_congr_left (g := fun p => p) fun p hp => ?_).trans (List.map_id' S)
  by_cases z : p.1 = a
  · rw [if_pos z]
    have k : ∀ {S : Frg}, (S.map (·.1)).Nodup → (a, o) ∈ S → p ∈ S → (a, o) = p := fun {S} => by
      induction S with
      | nil => exact fun _ h => nomatch h
      | cons q S ih =>
        intro nd h1 h2
        rw [List.map_cons, List.nodup_cons] at nd
        rcases List.mem_cons.mp h1 with e1 | h1 <;> rcases List.mem_cons.mp h2 with e2 | h2
        · rw [e1, e2]
        · exact absurd (List.mem_map.mpr ⟨p, h2, z.trans (congrArg Prod.fst e1)⟩) nd.1
        · exact absurd (List.mem_map.mpr ⟨_, h1, z.symm.trans (congrArg Prod.fst e2)⟩) nd.1
        · exact ih nd.2 h1 h2
    exact k nd h hp
  · rw [if_neg z]
theorem FS.ne (s : FX W H0 H S) (h : (a, o) ∈ S) (h' : (b, u) ∈ S) (d : o ≠ u) : a ≠ b := ne_of (s.j.2 _ h) (s.j.2 _ h') d
/-- f(o, ..), the arguments as they have come -/
theorem fs_sp {C : Addr} {oo : Addr → T → HO} {pre : γ → T → List A → Prop} {post : γ → T → T → A → Prop} {postX : γ → T → T → Prop} {E : XK} {t0 : T} {vs : List V} {as : List A} (g : γ) (s : FS K W H0 H σ Δ S) (h : (x, oo dx t0) ∈ S) (ia : IsAll K (W.fix S).M H vs as) (p : pre g t0 as) (nx : ∀ t, ¬ postX g t0 t) {Q : VK}
    (q : ∀ v H' t a, post g t0 t a → FS K W H0 H' σ Δ (S.put x (oo dx t)) → Gr W H S H' (S.put x (oo dx t)) → Is K (W.fix (S.put x (oo dx t))).M H' v a → Q v H') : spO K C oo pre post postX (.ref x :: vs) H Q E := by
  have hx : (W.fix S).M x := .inr ⟨_, h, rfl⟩
  exact ⟨g, T, SW.free (W.fix S) x (oo dx) t0 hx, t0, x, dx, fun t => t, fun _ t => t, as, free_j hx s.f.j (s.f.j.2 _ h), hasObj_free hx, p, .cons rfl ia, fun v H' t a f r i => q v H' t a r (s.to (s.f.obj h hx f) (gr_obj hx f)) (gr_obj hx f) (by rw [fix_M (put_dom S x (oo dx t))]; exact i), fun H' t f z => absurd z (nx t)⟩
/-- a test over a part, the rest of the fragment read as data -/
theorem FS.partT {S1 : Frg} {Δ' : Env} {B : Bool → Prop} {Q : Bool → Hp → Prop} (s : FS K W H0 H σ Δ S) (h1 : ∀ p ∈ S1, p ∈ S) (st' : StOk K (W.fix S1).M H σ Δ') (he : XT K (W.fix S1) tt Δ' B) (q : ∀ b H', B b → FS K W H0 H' σ Δ S → Gr W H S H' S → Q b H') : tt σ H Q :=
  he σ H ⟨s.f.j.1, fun p hp => s.f.j.2 p (h1 p hp)⟩ st' Q fun b H' f r => q b H' r (s.to (s.f.sub h1 f) (gr_sub h1 f)) (gr_sub h1 f)
theorem via_asg {k : Nat} (h : te σ H fun v H1 => D.nx (σ.set k (some v)) H1) : tAsg te (gName k) D σ H := h
theorem via_drop (h : te σ H fun _ H1 => D.nx σ H1) : tDrop te D σ H := h
theorem via_popA {to : TE} {z : V} {rr : V → List V → Hp → VK → Prop} {Q : List V → Hp → Prop} (h : to σ H fun y H1 => tyV K "list" y H1 ∧ rr y [z] H1 fun w H2 => Q [w] H2) : tCons (tBM K "list" rr to (tCons (tC z) tNil)) tNil σ H Q := h
theorem via_while {I : Nat → L2.St → Hp → Prop} (h0 : ∃ m, I m σ H) (h : ∀ m σ1 H1, I m σ1 H1 → ∀ Q : Bool → Hp → Prop, (∀ H2, (∀ N : L2.St → Hp → Prop, (∀ σ3 H3 m', m' < m → I m' σ3 H3 → N σ3 H3) → ts { D with nx := N, ct := N, bk := D.nx } σ1 H2) → Q true H2) → (∀ H2, D.nx σ1 H2 → Q false H2) → tt σ1 H1 Q) : tWhile tt ts D σ H := by
  refine ⟨I, h0, fun m σ1 H1 i => h m σ1 H1 i _ (fun H2 hb => iteT ⟨fun σ3 H3 => ∃ m', m' < m ∧ I m' σ3 H3, fun σ3 H3 z => z, hb _ fun σ3 H3 m' l z => ⟨m', l, z⟩⟩) fun H2 hn => iteF hn⟩
end
section
variable {K : PySem.W.Frag} {W : Wd} {Δ : Env} {t : TA} {te : TE}
/-- [e for i, j in zip(xs, ys)], each item by its number -/
theorem xe_lcZi {i j : Nat} {xs ys : List PyData} {P : Nat → PyData → Prop} (ij : i ≠ j) (ha : XAs K W t Δ [.d (.list xs), .d (.list ys)]) (small : xs.length ≤ 100000)
    (hs : ∀ D φ (m : Nat) x y, ¬ W.M D → xs[m]? = some x → ys[m]? = some y → XE K (W.add D φ) te ((((Δ.set j none).set i none).set i (some (.d x))).set j (some (.d y))) fun b => ∃ d, b = .d d ∧ P m d) :
    XE K W (tLc (iZip K t) (gTup K 2 (gCons (gName i) (gCons (gName j) gNil))) tYes te [i, j]) Δ fun b => ∃ ds : List PyData, ds.length = min xs.length ys.length ∧ (∀ m d, ds[m]? = some d → P m d) ∧ b = .d (.list ds) := fun σ H jw s Q q =>
  ha σ H jw s _ fun vs H1 as f1 e ia => by
    subst e
    cases ia with
    | cons ia ib =>
      cases ib with
      | cons ib ic =>
        cases ic
        cases ia with
        | lst h1 d1 =>
          cases ib with
          | lst h2 d2 =>
            rename_i p1 us1 p2 us2
            have m1 : ¬ W.M p1 := fun m => by rw [hid_in m] at h1; cases h1
            have m2 : ¬ W.M p2 := fun m => by rw [hid_in m] at h2; cases h2
            rw [hid_out m1] at h1
            rw [hid_out m2] at h2
            have g1 : ∀ H2, Fr W H1 H2 → SqL K H2 p1 us1 := fun H2 f => .inl (.inl (f.keep p1 _ m1 h1))
            have g2 : ∀ H2, Fr W H1 H2 → SqL K H2 p2 us2 := fun H2 f => .inl (.inl (f.keep p2 _ m2 h2))
            refine ⟨p1, p2, us1, us2, rfl, g1 H1 (.refl f1.j), g2 H1 (.refl f1.j), ?_⟩
            intro D nD
            have mD : ¬ W.M D := W.fresh f1.j nD
            have s1 := s.fr f1
            let n := min xs.length ys.length
            refine ⟨fun i m H2 => m = n - i ∧ i ≤ n ∧ ∃ ds vs, Fr W H1 H2 ∧ H2 D = some (.lst vs) ∧ DtAll K (hid (fun a => W.M a ∨ a = D) H2) vs ds ∧ ds.length = i ∧ ∀ m' d, ds[m']? = some d → P m' d,
              ⟨n, (Nat.sub_zero n).symm, Nat.zero_le n, [], [], .new f1.j nD, upd_same, .nil, rfl, fun m' d e => by cases e⟩, ?_⟩
            rintro c m H2 ⟨rfl, hc, ds, vs, f2, hD, dD, len, pr⟩
            by_cases l : c < n
            · have lx : c < xs.length := by show c < xs.length; have : n ≤ xs.length := Nat.min_le_left _ _; omega
              have ly : c < ys.length := by have : n ≤ ys.length := Nat.min_le_right _ _; omega
              obtain ⟨x, hx, dx⟩ := d1.get (List.getElem?_eq_getElem lx)
              obtain ⟨y, hy, dy⟩ := d2.get (List.getElem?_eq_getElem ly)
              refine .inr ⟨⟨us1, us2, x, y, g1 H2 f2, g2 H2 f2, hx, hy⟩, fun H3 => ∃ ds vs, Fr W H1 H3 ∧ H3 D = some (.lst vs) ∧ DtAll K (hid (fun a => W.M a ∨ a = D) H3) vs ds ∧ ds.length = c + 1 ∧ ∀ m' d, ds[m']? = some d → P m' d, ?_, ?_⟩
              · rintro H3 ⟨ds3, vs3, r⟩
                exact ⟨n - (c + 1), by omega, rfl, l, ds3, vs3, r⟩
              · rintro z H3 ⟨T, x', y', rfl, nT, rfl, ex, ey⟩
                have ex' := ex us1 (g1 H2 f2)
                rw [hx] at ex'
                cases ex'
                have ey' := ey us2 (g2 H2 f2)
                rw [hy] at ey'
                cases ey'
                have fT : Fr W H1 (upd H2 T (.tup [x, y])) := f2.trans (.new f2.j nT)
                have hD' : (upd H2 T (.tup [x, y])) D = some (.lst vs) := by rw [upd_ne fun e => by rw [e, nT] at hD; cases hD]; exact hD
                refine ⟨T, [x, y], rfl, .inl (.inl upd_same), rfl, x, [y], rfl, y, [], rfl, rfl, wipe2 ij σ (some x) (some y), ?_⟩
                unfold tYes
                dsimp only
                rw [if_pos rfl]
                have sI := same_in (φ := (· = HO.lst vs)) fT nD
                have sD : StOk K (W.add D (· = .lst vs)).M (upd H2 T (.tup [x, y])) (((L2.wipe σ [i, j]).set i (some x)).set j (some y)) ((((Δ.set j none).set i none).set i (some (.d xs[c]))).set j (some (.d ys[c]))) :=
                  ((((s1.unset j none).unset i none).ext sI).set (a := .d xs[c]) i (Dt.ext sI _ _ dx)).set (a := .d ys[c]) j (Dt.ext sI _ _ dy)
                refine hs D (· = .lst vs) c xs[c] ys[c] mD (List.getElem?_eq_getElem lx) (List.getElem?_eq_getElem ly) _ _ ⟨fT.j, _, hD', rfl⟩ sD _ fun v H4 b f4 rb ib => ?_
                obtain ⟨d, eb, pd⟩ := rb
                subst eb
                obtain ⟨u4, h4, eu⟩ := f4.j.2
                subst eu
                have dT : DtAll K (hid (fun a => W.M a ∨ a = D) (upd H2 T (.tup [x, y]))) vs ds := DtAll.ext (fun a o e => by
                  by_cases z : W.M a ∨ a = D
                  · rw [hid_in z] at e; cases e
                  · rw [hid_out z] at e ⊢
                    rw [upd_ne (ne_of_none e nT)]; exact e) _ _ dD
                have len4 : vs.length = c := by rw [dD.length]; exact len
                have f5 : Fr W H1 (upd H4 D (.lst (vs ++ [v]))) := by
                  refine ⟨fun a o nm e => ?_, W.loc H4 _ (fun a m => upd_ne fun z => mD (z ▸ m)) f4.j.1⟩
                  have ne : a ≠ D := ne_of_none e nD
                  rw [upd_ne ne]
                  exact f4.keep a o (fun z => z.elim nm ne) (fT.keep a o nm e)
                have cl : c ≤ 100000 := by have : n ≤ xs.length := Nat.min_le_left _ _; omega
                refine ⟨vs, h4, Nat.lt_of_le_of_lt (by rw [len4]; exact cl) (by decide), ds ++ [d], vs ++ [v], f5, upd_same, ?_, by rw [List.length_append, len]; rfl, fun m' d' hd' => ?_⟩
                · rw [hid_upd (.inr rfl)]
                  exact DtAll.append (DtAll.ext f4.same _ _ dT) (.cons ib .nil)
                · by_cases lt : m' < ds.length
                  · rw [List.getElem?_append_left lt] at hd'
                    exact pr m' d' hd'
                  · rw [List.getElem?_append_right (by omega)] at hd'
                    have e0 : m' = c := by
                      have l2 := (List.getElem?_eq_some_iff.mp hd').1
                      have l3 : m' - ds.length < 1 := l2
                      omega
                    subst e0
                    rw [len, Nat.sub_self] at hd'
                    cases hd'
                    exact pd
            · obtain rfl : c = n := by omega
              refine .inl ⟨⟨us1, us2, g1 H2 f2, g2 H2 f2, ?_⟩, q _ H2 _ (f1.trans f2) ⟨ds, len, pr, rfl⟩ ?_⟩
              · rw [d1.length, d2.length]
                show xs.length ≤ min xs.length ys.length ∨ ys.length ≤ min xs.length ys.length
                omega
              · exact Dt.lst (by rw [hid_out mD]; exact hD) (DtAll.ext (hid_add_le (φ := fun _ => True)) _ _ dD)
theorem cx_sortedO {ns : List Int} (n : ns.length < 64) : CX1 K W (rSorted K) [.d (.list (ns.map PyData.int))] (fun a => ∃ ns' : List Int, ns'.Perm ns ∧ ns'.Pairwise (· ≤ ·) ∧ a = .d (.list (ns'.map PyData.int))) := fun vs H j i Q q => by
  cases i with
  | cons h t =>
    cases t
    cases h with
    | lst h1 d1 =>
      obtain rfl := ints_vs d1
      exact ⟨_, ns, rfl, .inl (.inl (hid_le _ _ h1)), n, fun ns' p pm pw np => q _ _ _ (.new j np) ⟨ns', pm, pw, rfl⟩ (Dt.lst (hid_new j np) (dts_ints ns'))⟩
end
/-! ### new lists and objects into the fragment -/
section
variable {γ T : Type} {K : PySem.W.Frag} {W : Wd} {wi : TI} {Δ : Env} {t ta tk : TA} {te tt tg : TE} {H0 H H' : Hp} {S : Frg} {σ : L2.St} {p : Addr} {o : HO}
theorem xn_lc {k : Nat} {Nn : Nat → Prop} {Y : Nat → A → Prop} {P : Nat → PyData → Prop} (hi : XI K W wi Δ Nn Y) (small : ∀ n, Nn n → n ≤ 100000)
    (hs : ∀ D φ i a, ¬ W.M D → Y i a → XE K (W.add D φ) te ((Δ.set k none).set k (some a)) fun b => ∃ d, b = .d d ∧ P i d) :
    XN K W (tLc wi (gName k) tYes te [k]) Δ fun ds => Nn ds.length ∧ ∀ i d, ds[i]? = some d → P i d := fun σ H j s Q q =>
  hi σ H j s _ fun J H1 n f1 hn w => by
    intro D nD
    have mD : ¬ W.M D := W.fresh f1.j nD
    have s1 := s.fr f1
    refine ⟨fun i m H2 => m = n - i ∧ i ≤ n ∧ ∃ ds vs, Fr W H1 H2 ∧ H2 D = some (.lst vs) ∧ DtAll K (hid (fun a => W.M a ∨ a = D) H2) vs ds ∧ ds.length = i ∧ ∀ i d, ds[i]? = some d → P i d,
      ⟨n, (Nat.sub_zero n).symm, Nat.zero_le n, [], [], .new f1.j nD, upd_same, .nil, rfl, fun i d e => by simp at e⟩, ?_⟩
    rintro i m H2 ⟨rfl, hi, ds, vs, f2, h2, d2, len, pr⟩
    by_cases l : i < n
    · obtain ⟨go, yl⟩ := (w H2 f2 i).1 l
      refine .inr ⟨go, fun H3 => ∃ ds vs, Fr W H1 H3 ∧ H3 D = some (.lst vs) ∧ DtAll K (hid (fun a => W.M a ∨ a = D) H3) vs ds ∧ ds.length = i + 1 ∧ ∀ i d, ds[i]? = some d → P i d, ?_, ?_⟩
      · rintro H3 ⟨ds3, vs3, r⟩
        exact ⟨n - (i + 1), by omega, rfl, l, ds3, vs3, r⟩
      · intro x H3 y
        obtain ⟨e, a, ya, ia⟩ := yl x H3 y
        subst e
        refine ⟨(show ((σ.set k none).set k (some x)).set k none = σ.set k none by rw [List.set_set, List.set_set]), ?_⟩
        unfold tYes
        dsimp only
        rw [if_pos rfl]
        have sD : StOk K (W.add D (· = .lst vs)).M H3 ((σ.set k none).set k (some x)) ((Δ.set k none).set k (some a)) :=
          ((s1.unset k none).ext (same_in f2 nD)).set k (ia.ext (same_in f2 nD))
        refine hs D (· = .lst vs) i a mD ya _ H3 ⟨f2.j, _, h2, rfl⟩ sD _ fun v H4 b f4 rb ib => ?_
        obtain ⟨d, eb, pd⟩ := rb
        subst eb
        obtain ⟨u4, h4, eu⟩ := f4.j.2
        subst eu
        have len4 : vs.length = i := by rw [d2.length]; exact len
        have f5 : Fr W H1 (upd H4 D (.lst (vs ++ [v]))) := by
          refine ⟨fun a o nm e => ?_, W.loc H4 _ (fun a m => upd_ne fun z => mD (z ▸ m)) f4.j.1⟩
          have ne : a ≠ D := ne_of_none e nD
          rw [upd_ne ne]
          exact f4.keep a o (fun z => z.elim nm ne) (f2.keep a o nm e)
        refine ⟨vs, h4, Nat.lt_of_le_of_lt (Nat.le_trans (by rw [len4]; exact Nat.le_of_lt l) (small n hn)) (by decide), ds ++ [d], vs ++ [v], f5, upd_same, ?_, by rw [List.length_append, len]; rfl, fun k2 d2' e => ?_⟩
        · rw [hid_upd (.inr rfl)]
          exact DtAll.append (DtAll.ext f4.same _ _ d2) (.cons ib .nil)
        · by_cases hk : k2 < ds.length
          · rw [List.getElem?_append_left hk] at e
            exact pr k2 d2' e
          · rw [List.getElem?_append_right (by omega)] at e
            have z : k2 - ds.length = 0 := by
              cases q : k2 - ds.length with
              | zero => rfl
              | succ m => rw [q] at e; simp at e
            rw [z] at e
            cases e
            have : k2 = i := by omega
            rw [this]
            exact pd
    · obtain rfl : i = n := by omega
      have n0 : H D = none := by
        cases y : H D with
        | none => rfl
        | some o =>
          rw [f1.keep D o mD y] at nD
          cases nD
      exact .inl ⟨(w H2 f2 i).2 (Nat.le_refl _), q D H2 vs ds (f1.trans f2) n0 ⟨by rw [len]; exact hn, pr⟩ h2 d2⟩
theorem xi_rng3 {a b c : Int} {n : Nat} (h : XAs K W t Δ [.d (.int a), .d (.int b), .d (.int c)]) (g : RgC a b c n) : XI K W (iRng3 t) Δ (· = n) fun i x => x = .d (.int (a + (i : Int) * c)) := fun σ H j s R q =>
  h σ H j s _ fun vs H1 as f e i => by
    subst e
    cases i with
    | cons i1 i2 =>
      cases i2 with
      | cons i2 i3 =>
        cases i3 with
        | cons i3 i4 =>
          cases i4
          cases i1
          cases i2
          cases i3
          refine ⟨a, b, c, n, rfl, g, q _ H1 _ f rfl fun H2 f2 i => ⟨fun l => ⟨l, fun y H3 ⟨e, ey⟩ => ⟨e, _, rfl, ?_⟩⟩, fun l => l⟩⟩
          subst ey
          exact .int _
theorem strs_vs {H : Hp} : ∀ {vs : List V} {ps : List Str}, DtAll K H vs (ps.map PyData.str) → vs = ps.map V.str
  | _, [], .nil => rfl
  | _, p :: r, .cons h t => by
    cases h
    rw [strs_vs t]
    rfl
theorem fs_xn {R : List PyData → Prop} (s : FS K W H0 H σ Δ S) (he : XN K (W.fix S) te Δ R) {Q : VK} (q : ∀ p H' vs ds, R ds → FS K W H0 H' σ Δ ((p, .lst vs) :: S) → Gr W H S H' ((p, .lst vs) :: S) → DtAll K (hid (W.fix ((p, .lst vs) :: S)).M H') vs ds → Q (.ref p) H') : te σ H Q :=
  he σ H s.f.j s.st Q fun p H' vs ds f np r hp dd => q p H' vs ds r (s.to (s.f.more (s.f.go f) np hp) (gr_more np f.same)) (gr_more np f.same) (DtAll.ext (fun c u e => by
    by_cases m : (W.fix S).M c ∨ c = p
    · rw [hid_in m] at e; cases e
    · rw [hid_out m] at e
      rw [hid_out fun z => m (by
        rcases z with z | ⟨q, hq, e⟩
        · exact .inl (.inl z)
        · rcases List.mem_cons.mp hq with rfl | hq
          · exact .inr e.symm
          · exact .inl (.inr ⟨q, hq, e⟩))]
      exact e) _ _ dd)
theorem FX.drop (f : FX W H0 H ((p, o) :: S)) : FX W H0 H S :=
  ⟨fun a u n e => f.keep a u (fun z => by
    rcases z with z | ⟨q, hq, e2⟩
    · exact n (.inl z)
    · rcases List.mem_cons.mp hq with rfl | hq
      · have h0 := (f.new _ (.head _)).1
        rw [e2, e] at h0; cases h0
      · exact n (.inr ⟨q, hq, e2⟩)) e, ⟨f.j.1, fun q hq => f.j.2 q (.tail _ hq)⟩, fun q hq => f.new q (.tail _ hq), by
    have := f.nd
    rw [List.map_cons, List.nodup_cons] at this
    exact this.2⟩
theorem FS.drop (s : FS K W H0 H σ Δ ((p, o) :: S)) : FS K W H0 H σ Δ S := ⟨s.f.drop, s.st.ext (same_sub fun q hq => .tail _ hq)⟩
theorem gr_drop {S0 : Frg} (g : Gr W H0 S0 H ((p, o) :: S)) : Gr W H0 S0 H S := fun c u e => same_sub (fun q hq => .tail _ hq) c u (g c u e)
theorem put_cons {S : Frg} {a c : Addr} {o o' : HO} (h : c ≠ a) : Frg.put ((c, o) :: S) a o' = (c, o) :: Frg.put S a o' := by
  unfold Frg.put
  rw [List.map_cons, if_neg h]
theorem put_no {S : Frg} {a : Addr} {o : HO} (h : ∀ q ∈ S, q.1 ≠ a) : S.put a o = S := by
  unfold Frg.put
  exact (List.map_congr_left (g := fun p => p) fun q hq => if_neg (h q hq)).trans (List.map_id' S)
theorem put_hdN {S : Frg} {a : Addr} {o u : HO} (nd : (((a, u) :: S).map (·.1)).Nodup) : Frg.put ((a, u) :: S) a o = (a, o) :: S := by
  rw [List.map_cons, List.nodup_cons] at nd
  have e := put_no (S := S) (a := a) (o := o) fun q hq z => nd.1 (List.mem_map.mpr ⟨q, hq, z⟩)
  unfold Frg.put at e ⊢
  rw [List.map_cons, if_pos rfl, e]
/-- tm makes a new object -/
def Mk1 (K : PySem.W.Frag) (W : Wd) (Δ : Env) (tm : TE) (ob : Addr → HO) : Prop := ∀ σ H, W.J H → StOk K W.M H σ Δ → ∀ Q : VK, (∀ H1 y dy, Fr W H H1 → H1 y = none → H1 dy = none → dy ≠ y → Q (.ref y) (upd (upd H1 dy (.own y)) y (ob dy))) → tm σ H Q
theorem fs_mk {tm : TE} {ob : Addr → HO} (s : FS K W H0 H σ Δ S) (hm : Mk1 K (W.fix S) Δ tm ob) {Q : VK} (q : ∀ y dy H', FS K W H0 H' σ Δ ((y, ob dy) :: S) → Gr W H S H' ((y, ob dy) :: S) → Q (.ref y) H') : tm σ H Q :=
  hm σ H s.f.j s.st Q fun H1 y dy f ny ndy ne => by
    have s1 := s.go f
    have f2 : Fr (W.fix S) H1 (upd H1 dy (.own y)) := .new s1.f.j ndy
    have ny1 : (upd H1 dy (.own y)) y = none := by rw [upd_ne ne.symm]; exact ny
    exact q y dy _ ((s1.go f2).to ((s1.f.go f2).cons ny1) (gr_cons ny1)) (gr_trans f.same (gr_trans f2.same (gr_cons ny1)))
theorem mk_K {C : Addr} {sp : Sp} {gV : List V → List V → List V} {E : XK} {ob : Addr → HO} {d d2 : PyData} (h : XV K W tt Δ (.d d)) (fd : flat d = true) (h2 : XV K W tg Δ (.d d2)) (fd2 : flat d2 = true)
    (hsp : ∀ (x dx : Addr) (H : Hp) (Q : VK), H x = some (.ins C dx []) → Q .non (upd H x (ob dx)) → sp (gV [.ref x, vOf d] [vOf d2]) H Q E) : Mk1 K W Δ (tMakeK C 1 1 sp gV E (tCons tt tNil) (tCons tg tNil)) ob := fun σ H j s Q q =>
  h σ H j s _ fun v H1 a f1 e i1 => by
    subst e
    have ev := Dt.flat i1 fd
    subst ev
    refine h2 σ H1 f1.j (s.fr f1) _ fun w H2 b f2 e i2 => ?_
    subst e
    have ew := Dt.flat i2 fd2
    subst ew
    refine ⟨rfl, rfl, fun y dy ny ndy ne => hsp y dy _ _ upd_same ⟨rfl, ?_⟩⟩
    rw [upd_upd]
    exact q H2 y dy (f1.trans f2) ny ndy ne
theorem mk_P {C : Addr} {sp : Sp} {dvs : List V} {E : XK} {ob : Addr → HO} {d : PyData} (h : XV K W tt Δ (.d d)) (fd : flat d = true)
    (hsp : ∀ (x dx : Addr) (H : Hp) (Q : VK), H x = some (.ins C dx []) → Q .non (upd H x (ob dx)) → sp (.ref x :: ([vOf d] ++ dvs)) H Q E) : Mk1 K W Δ (tMake C sp dvs E (tCons tt tNil)) ob := fun σ H j s Q q =>
  h σ H j s _ fun v H1 a f1 e i1 => by
    subst e
    have ev := Dt.flat i1 fd
    subst ev
    refine fun y dy ny ndy ne => hsp y dy _ _ upd_same ⟨rfl, ?_⟩
    rw [upd_upd]
    exact q H1 y dy f1 ny ndy ne
end
theorem cutS_to {x : Str} {k : Nat} (hk : k ≤ x.length) : cutS x none (some (k : Int)) = ⟨(x.cps.toList.take k).toArray⟩ := by
  have h := cutS_nat (x := x) (i := 0) (k := k) (Nat.zero_le _) hk
  rw [List.drop_zero, Nat.sub_zero] at h
  rw [← h]
  unfold cutS
  have e : HT.sIx x.length 0 none = HT.sIx x.length 0 (some ((0 : Nat) : Int)) := by
    unfold HT.sIx
    simp
  rw [e]
/-! ### for i, x in enumerate(xs) beside a fragment -/
section
variable {K : PySem.W.Frag} {W : Wd} {H0 H : Hp} {S : Frg} {σ : L2.St} {Δ : Env} {tl : TE} {ts : TS} {D : Ends} {xs : List PyData}
theorem fs_forEn {i1 i2 : Nat} (s : FS K W H0 H σ Δ S) (hl : XV K (W.fix S) tl Δ (.d (.list xs))) (Inv : Nat → Env → Frg → Prop) (h0 : Inv 0 Δ S)
    (hs : ∀ Hs, Gr W H S Hs S → ∀ i x Δ1 S1 σ1 H1, xs[i]? = some x → Inv i Δ1 S1 → FS K W H0 H1 σ1 ((Δ1.set i1 (some (.d (.int (i : Int))))).set i2 (some (.d x))) S1 → Gr W Hs S H1 S1 →
      ∀ N : L2.St → Hp → Prop, (∀ σ2 H2 Δ2 S2, FS K W H0 H2 σ2 Δ2 S2 → Gr W Hs S H2 S2 → Inv (i + 1) Δ2 S2 → N σ2 H2) → ts { D with nx := N, ct := N, bk := D.nx } σ1 H1)
    (hd : ∀ σ1 H1 Δ1 S1, FS K W H0 H1 σ1 Δ1 S1 → Gr W H S H1 S1 → Inv xs.length Δ1 S1 → D.nx σ1 H1) : tFor (iEnum K (tCons tl tNil)) (gTup K 2 (gCons (gName i1) (gCons (gName i2) gNil))) ts D σ H := by
  unfold tFor iEnum
  refine (xa_cons hl xa_nil) σ H s.f.j s.st _ fun us H1 as f1 e ia => ?_
  subst e
  cases ia with
  | cons ia ib =>
    cases ib
    cases ia with
    | lst h1 d1 =>
      rename_i p vs
      have s1 := s.go f1
      have ga : ∀ {H2 : Hp} {S2 : Frg}, Gr W H1 S H2 S2 → SqL K H2 p vs := fun g => .inl (.inl (hid_le _ _ (g _ _ h1)))
      refine ⟨p, vs, rfl, ga (fun _ _ e => e), ?_⟩
      refine ⟨fun i k σ2 H2 => k = xs.length - i ∧ i ≤ xs.length ∧ ∃ Δ2 S2, FS K W H0 H2 σ2 Δ2 S2 ∧ Gr W H1 S H2 S2 ∧ Inv i Δ2 S2, ⟨xs.length, (Nat.sub_zero _).symm, Nat.zero_le _, Δ, S, s1, (fun _ _ e => e), h0⟩, ?_⟩
      rintro i k σ2 H2 ⟨rfl, hi, Δ2, S2, s2, g2, v2⟩
      have len := d1.length
      by_cases l : i < xs.length
      · obtain ⟨v, hv, dv⟩ := d1.get (List.getElem?_eq_getElem l)
        refine .inr ⟨⟨vs, v, ga g2, hv⟩, fun σ3 H3 => ∃ Δ3 S3, FS K W H0 H3 σ3 Δ3 S3 ∧ Gr W H1 S H3 S3 ∧ Inv (i + 1) Δ3 S3, ?_, ?_⟩
        · rintro σ3 H3 ⟨Δ3, S3, s3, g3, v3⟩
          exact ⟨xs.length - (i + 1), by omega, rfl, l, Δ3, S3, s3, g3, v3⟩
        · rintro y H3 ⟨T, x, rfl, nT, rfl, hx⟩
          have ex := hx vs (ga g2)
          rw [hv] at ex
          cases ex
          have f3 : Fr (W.fix S2) H2 (upd H2 T (.tup [.int (i : Nat), v])) := .new s2.f.j nT
          have s3 := s2.go f3
          have iT : Is K (W.fix S2).M (upd H2 T (.tup [.int (i : Nat), v])) (.ref T) (.d (.tuple [.int (i : Int), xs[i]])) := Dt.tup (.inl (.inl (hid_new s2.f.j nT))) (.cons (.int _) (.cons (Dt.ext (gr_trans g2 f3.same) _ _ dv) .nil))
          refine gx_tup2 (W := W.fix S2) (Δ := Δ2) (.ref T) σ2 _ s3.f.j s3.st iT _ fun σ4 H4 f4 s4 => ?_
          have g4 : Gr W H1 S H4 S2 := gr_trans g2 (gr_trans f3.same f4.same)
          exact hs H1 f1.same i xs[i] Δ2 S2 σ4 H4 (List.getElem?_eq_getElem l) v2 ⟨s3.f.go f4, s4⟩ g4 _ fun σ5 H5 Δ5 S5 s5 g5 n5 => ⟨Δ5, S5, s5, g5, n5⟩
      · obtain rfl : i = xs.length := by omega
        refine .inl ⟨⟨vs, ga g2, by rw [len]; exact Nat.le_refl _⟩, hd σ2 H2 Δ2 S2 s2 (gr_trans f1.same g2) v2⟩
end
end V2

set_option Elab.async false
set_option linter.all false
set_option maxRecDepth 100000
set_option maxHeartbeats 2000000
namespace V2
open PySem PySem.Spec PyProof.Rows L2
/-! ### min(texts, default=text) -/
def minS (y : Str) (ys : List Str) : Str := PySem.W.minOf y ys
def rMinDS (K : PySem.W.Frag) : List V → List V → Hp → VK → Prop := fun vs zs H Q => ∃ (a : Addr) (xs : List Str) (z : Str), vs = [.ref a] ∧ zs = [.str z] ∧ SqL K H a (xs.map V.str) ∧ (xs = [] → Q (.str z) H) ∧ ∀ y ys, xs = y :: ys → Q (.str (minS y ys)) H
theorem readsAll_strs {h : Heap} : ∀ {xs : List Str} {its : List Value}, Vals (xs.map V.str) its → PySem.ReadsAll h its (xs.map (PySem.W.Datum.toD : Str → PyData)) []
  | [], _, .nil => .nil
  | x :: xs, _, .cons r t => by
    obtain ⟨tk, rfl⟩ := r
    exact .cons (.str _ _) (readsAll_strs t)
theorem cr_minDS {X : Cx} (hc : X.calm = true) (hu : X.A.units + 1 < cLine) : CallRK X (.builtin "min") ["default"] (rMinDS X.K) := by
  intro pins s σ H vs zs us ws Q I r1 r2 h
  obtain ⟨a, xs, z, rfl, rfl, hs, h0, h1⟩ := h
  obtain ⟨its, rv, hl, _⟩ := I.list hs
  rw [Vals.ref1 r1]
  cases r2 with
  | cons r2 r3 =>
    cases r3
    obtain ⟨tz, rfl⟩ := r2
    refine PySem.W.min_list_datum_default (α := Str) (xs := xs) (I.ok.hd hc) hl.isList ⟨[], by simpa using readsAll_strs rv⟩ (by simpa [PySem.W.Datum.depth] using hu) (fun e h' tk hk => ⟨(.str z : V), H, I.kept hk, ⟨_, rfl⟩, h0 e⟩) fun y ys i v h' tk e hi hv hk => ?_
    obtain ⟨as, hr⟩ := hv
    cases hr
    exact ⟨(.str (minS y ys) : V), H, I.kept hk, ⟨_, rfl⟩, h1 y ys e⟩
/-! ### a dict of the module, texts to texts, walked -/
def KDic (K : PySem.W.Frag) (w : World) (d : Addr) (kvs : List (Str × Str)) : Prop := (d == sysModules) = false ∧ ∃ es n, K.lookup d = some ⟨.type "dict", none, .dict es n, #[]⟩ ∧ PySem.W.KeysLit w.params es.toList ∧ es.size = kvs.length ∧
  ∀ (i : Nat) (k v : Str), kvs[i]? = some (k, v) → (∃ (en : DictEntry) (t : Tok), es[i]? = some en ∧ en.key = Value.str k t) ∧ ∃ t, PySem.W.nsIn K d k = some (some (.str v t))
theorem KDic.get {K : PySem.W.Frag} {w : World} {d : Addr} {kvs : List (Str × Str)} (h : KDic K w d kvs) {i : Nat} {k v : Str} (e : kvs[i]? = some (k, v)) : KDct K w d k (.str v) := by
  obtain ⟨_, es, n, h1, h2, h3, h4⟩ := h
  obtain ⟨_, t, h5⟩ := h4 i k v e
  exact ⟨es, n, _, h1, h2, h5, t, rfl⟩
def Itkk (kvs : List (Str × Str)) : It := ⟨fun i _ => i < kvs.length, fun i H x H' => H' = H ∧ ∃ k v, kvs[i]? = some (k, v) ∧ x = .str k, fun i _ => kvs.length ≤ i⟩
theorem turn_keysK {P : Program} {w : World} {K : PySem.W.Frag} {tg : Expr} {d : Addr} {kvs : List (Str × Str)} {es : Array DictEntry} {ep : Nat} (it : Addr) (hK0 : K.lookup d = some ⟨.type "dict", none, .dict es ep, #[]⟩) (hsz : es.size = kvs.length) (hes : ∀ (i : Nat) (k v : Str), kvs[i]? = some (k, v) → ∃ (en : DictEntry) (t : Tok), es[i]? = some en ∧ en.key = Value.str k t) : Turn P w K tg (Itkk kvs) [it] it (fun i h => h.IsKeyIter it d i kvs.length ep) where
  mem := by simp
  obj := fun i h st b hb => by
    have e : b = it := by simpa using hb
    subst e
    obtain ⟨oi, e, c, dd⟩ := st
    exact ⟨oi, e, fun v z => by rw [dd] at z; cases z⟩
  keep := fun i h h' st k => st.at fun oi e => k it (by simp) oi e
  item := by
    intro X hP hw hK hc i pins s σ H E I hf st hg
    subst hP hw hK
    have hi : i < kvs.length := hg
    obtain ⟨f0, f1, f2, f3, f4, f5⟩ := hf it (by simp)
    have hgd := I.kIn d _ hK0
    obtain ⟨⟨k, v⟩, hkv⟩ : ∃ p, kvs[i]? = some p := ⟨kvs[i], List.getElem?_eq_getElem hi⟩
    obtain ⟨en, t, hen, hkey⟩ := hes i k v hkv
    refine next_key_item st hgd rfl hsz hen fun h' st' sb => ?_
    have I1 : Inv X pins σ H { s with heap := h' } := I.turned (t' := s.toks) (fun b ob hb e => (sb.2 b hb).trans e) f0 f1 f3 f4 f5
    obtain ⟨oi, e, c, dd⟩ := id st'
    exact ⟨en.key, rfl, go_of (s := { s with heap := h' }) e c dd (by decide) ⟨.str k, H, I1, ⟨t, hkey⟩, ⟨rfl, k, v, hkv, rfl⟩, st', fun b hb => (hf b hb).1⟩⟩
  done := by
    intro X hP hw hK hc i pins s σ H E I hf st hg
    subst hP hw hK
    have hi : kvs.length ≤ i := hg
    obtain ⟨f0, f1, f2, f3, f4, f5⟩ := hf it (by simp)
    have hgd := I.kIn d _ hK0
    exact next_key_end (I.ok.hd hc) st hgd rfl hsz hi fun h' eb => ⟨rfl, I.turned (t' := s.toks) (fun b ob hb e => eb b ob hb e) f0 f1 f3 f4 f5⟩
  self := fun A i s Q E st h => by
    refine wpAny_pyIter_slot st.typeIs F.slot_dict_keyiterator_iter (wpAny_call_entry F.slot_dict_keyiterator_iter st.typeIs F.entry_dict_keyiterator_iter ?_ (F.args_dict_keyiterator_iter_1 _))
    show wpAny _ _ (ret (.ref it)) _ _ s
    exact wpAny_pure ⟨_, rfl, "dict_keyiterator", _, st.typeIs, F.slot_dict_keyiterator_next.lookup, h⟩
def iKeysK (K : PySem.W.Frag) (w : World) (td : TE) : TI := fun σ H R => td σ H fun x H1 => ∃ d kvs, x = .ref d ∧ KDic K w d kvs ∧ R (Itkk kvs) H1
theorem pi_keysK {X : Cx} {tg e : Expr} {td : TE} (he : PE X e td) : PI X tg e (iKeysK X.K X.w td) := by
  refine ⟨fun pins s σ H R I h => ?_⟩
  refine thn (he.run pins s σ H _ I h) fun u s1 ⟨x, H1, I1, rx, d, kvs, ex, ⟨hs, es, ep, hl, hk, hsz, hes⟩, q⟩ => ?_
  subst ex
  obtain rfl : u = Value.ref d := rx
  refine iter_keys hs (I1.kIn d _ hl) ⟨rfl, rfl, rfl⟩ rfl (pi_one (tk := s1.toks) I1 _ (turn_keysK _ hl hsz fun i k v e => (hes i k v e).1) ⟨_, Heap.get?_push_size _ rfl, rfl, ?_⟩ q)
  rw [hsz] <;> rfl
/-- name = {..} on one line, the name a local -/
theorem ps_setDc {X : Cx} {i : Nat} {y : Str} {py : Pos} {kx vx tg iter : Expr} {ifs : List Expr} {scope : Scope} {own : List (Str × Nat)} {pos spos : Pos} {wi : TI} {g : TG} {tt : TT} {tk tv : TE} (hc : X.calm = true) (hN : X.N.Nodup) (hy : X.N[i]? = some y) (hyl : X.env.scope.names.lookup y = some .local)
    (hsw : swapsWith (.DictComp kx vx [⟨tg, iter, ifs, 0⟩] scope pos) (some (.Name y py)) spos.line X.env = pure true) (hi : PI X tg iter wi) (ok : BlkOk X.N X.env.scope scope own)
    (hg : ∀ (s : Shared) (H : Hp) (C : Addr) (cl : List (Str × Addr)) (fp : List Addr), PG (X.blk s H scope (compEnvC scope cl C X.env) fp) tg g) (ht : ∀ (s : Shared) (H : Hp) (C : Addr) (cl : List (Str × Addr)) (fp : List Addr), PTs (X.blk s H scope (compEnvC scope cl C X.env) fp) ifs tt)
    (hk : ∀ (s : Shared) (H : Hp) (C : Addr) (cl : List (Str × Addr)) (fp : List Addr), PE (X.blk s H scope (compEnvC scope cl C X.env) fp) kx tk)
    (he : ∀ (s : Shared) (H : Hp) (C : Addr) (cl : List (Str × Addr)) (fp : List Addr), PE (X.blk s H scope (compEnvC scope cl C X.env) fp) vx tv) (hs : ∀ x, foldedSetIterable iter X.env x = pure x := by intro _; rfl) :
    PS X (.Assign [.Name y py] (.DictComp kx vx [⟨tg, iter, ifs, 0⟩] scope pos) spos) (tAsg (tDc wi g tt tk tv (own.map (·.2))) (gName i)) := by
  refine ⟨fun pins s σ H D I h => ?_⟩
  rw [exec_Assign_Name_used _ _ _ _ hsw]
  refine wpAny_bind (wpAny_standAt (wpAny_bind ?_))
  show wpAny _ X.A (do let _ ← comprehension (.DictComp kx vx [⟨tg, iter, ifs, 0⟩] scope pos) scope X.env (firstIterPos [⟨tg, iter, ifs, 0⟩] pos) newDict false (eval iter X.env) (some (assign (.Name y py) X.env))) _ _ s
  have h : tDc wi g tt tk tv (own.map (·.2)) σ H (fun x H1 => gName i x σ H1 D.nx) := h
  refine wpAny_bind (thn (dc_core (Qf := fun _ s' => SP X pins D .next s') hc hN I hi ok hg ht hk he hs h fun L C s' m H' I' q hn f => ?_) fun _ s' hq => wpAny_pure (wpAny_pure hq))
  show wpAny _ _ (assign (.Name y py) X.env (.ref L)) _ _ _
  refine wpAny_assign_Name (store_ok2 (v := V.ref L) I' hN hy (.inl hyl) rfl (fun s2 I2 ⟨a, sb, ha⟩ => ?_) (.inr hyl))
  obtain ⟨f0, f1, f2, f3, f4, f5⟩ := f
  have haC : C ≠ a := by
    rcases ha with z | z
    · rw [z]; exact f1
    · exact fun e => f4 y a z e.symm
  refine ⟨m, hn.sameBut sb haC, fun h3 sb3 => ?_⟩
  exact ⟨_, H', I2.turned (t' := s2.toks) (fun b o hb e => (sb3.2 b hb).trans e) f0 f1 f3 f4 f5, q⟩
theorem sw_trueD {kx vx : Expr} {gs : List Comprehension} {scope : Scope} {pos py : Pos} {y : Str} {l : Nat} {env : PySem.Env} (hk : env.scope.kind = .function) (hy : env.scope.names.lookup y = some .local) (hl : (py.line == pos.line) = true)
    (ha : (scope.names.any fun (n, k) => n == y && (k == .local || k == .cell)) = false) : swapsWith (.DictComp kx vx gs scope pos) (some (.Name y py)) l env = pure true := by
  have ky : env.kindOf y = some .local := hy
  have hb : env.blockKind = .function := by unfold Env.blockKind; rw [hk]; rfl
  unfold swapsWith
  simp only [hb, ky, ha, Expr.pos, hl]
  rfl
/-! ### such a dict from what stands there -/
def kEnt (P : Params) (p : Str × Str × Tok × Tok) : DictEntry := ⟨PyData.keyHash P p.1, .str p.1 p.2.2.1, .str p.2.1 p.2.2.2⟩
theorem keysLit_ent {P : Params} : ∀ es : List (Str × Str × Tok × Tok), PySem.W.KeysLit P (es.map (kEnt P))
  | [] => trivial
  | p :: es => ⟨⟨p.1, p.2.2.1, rfl, rfl⟩, keysLit_ent es⟩
theorem find_ent {P : Params} : ∀ {es : List (Str × Str × Tok × Tok)} {i : Nat} {p : Str × Str × Tok × Tok}, (es.map (·.1)).Nodup → es[i]? = some p → (es.map (kEnt P)).find? (fun x => x.key.isStr p.1) = some (kEnt P p)
  | [], i, p, _, e => by simp at e
  | a :: es, 0, p, nd, e => by
    have e : a = p := by simpa using e
    subst e
    rw [List.map_cons, List.find?_cons]
    have : (kEnt P a).key.isStr a.1 = true := by
      show (a.1 == a.1) = true
      exact beq_self_eq_true _
    rw [this]
  | a :: es, i + 1, p, nd, e => by
    have e : es[i]? = some p := by simpa using e
    rw [List.map_cons, List.nodup_cons] at nd
    have ne : a.1 ≠ p.1 := fun z => nd.1 (List.mem_map.mpr ⟨p, List.mem_of_getElem? e, z.symm⟩)
    rw [List.map_cons, List.find?_cons]
    have : (kEnt P a).key.isStr p.1 = false := by
      show (a.1 == p.1) = false
      exact beq_eq_false_iff_ne.mpr ne
    rw [this]
    exact find_ent nd.2 e
theorem kdic_mk {K : PySem.W.Frag} {w : World} {d : Addr} {n : Nat} (es : List (Str × Str × Tok × Tok)) (hs : (d == sysModules) = false) (nd : (es.map (·.1)).Nodup) (hl : K.lookup d = some ⟨.type "dict", none, .dict (es.map (kEnt w.params)).toArray n, #[]⟩) : KDic K w d (es.map fun p => (p.1, p.2.1)) := by
  refine ⟨hs, _, n, hl, by simpa using keysLit_ent (P := w.params) es, by simp, fun i k v e => ?_⟩
  rw [List.getElem?_map] at e
  cases q : es[i]? with
  | none => rw [q] at e; cases e
  | some p =>
    rw [q] at e
    have e : (p.1, p.2.1) = (k, v) := Option.some.inj e
    obtain ⟨rfl, rfl⟩ := Prod.mk.inj e
    refine ⟨⟨kEnt w.params p, p.2.2.1, by simp [q], rfl⟩, p.2.2.2, ?_⟩
    unfold PySem.W.nsIn
    rw [hl]
    show (match (es.map (kEnt w.params)).toArray.toList.find? (fun x => x.key.isStr p.1) with | some e => some (some e.val) | none => _) = _
    rw [List.toList_toArray, find_ent nd q]
    rfl
/-! ### dict comprehensions over a text, and a walk over a dict of the module -/
abbrev pairsS (l : List Nat) (u : Str) : List (Str × Str) := l.map fun c => (oneS c, u)
theorem mergeS_snoc (a b : List (Str × Str)) (p : Str × Str) : mergeS a (b ++ [p]) = putS (mergeS a b) p.1 p.2 := by
  unfold mergeS
  rw [List.foldl_append]
  rfl
theorem putS_len (kvs : List (Str × Str)) (k z : Str) : (putS kvs k z).length ≤ kvs.length + 1 := by
  unfold putS
  split
  · rw [List.length_map]; omega
  · rw [List.length_append]; exact Nat.le_refl _
theorem mergeS_len : ∀ (b a : List (Str × Str)), (mergeS a b).length ≤ a.length + b.length
  | [], a => Nat.le_refl _
  | p :: b, a => by
    have h := mergeS_len b (putS a p.1 p.2)
    have h2 := putS_len a p.1 p.2
    show (mergeS (putS a p.1 p.2) b).length ≤ _
    rw [List.length_cons]
    omega
section
variable {K : PySem.W.Frag} {W : Wd} {H0 H : Hp} {S : Frg} {σ : L2.St} {Δ : Env} {tl : TE}
theorem fs_dcStr {x u : Str} {k : Nat} (s : FS K W H0 H σ Δ S) (h : XV K (W.fix S) tl Δ (.d (.str x))) (small : x.cps.size ≤ 10000) (hk : k < Δ.length) {Q : VK}
    (q : ∀ D H', FS K W H0 H' σ Δ ((D, .dK (KV2 (mergeS [] (pairsS x.cps.toList u)))) :: S) → Gr W H S H' ((D, .dK (KV2 (mergeS [] (pairsS x.cps.toList u)))) :: S) → Q (.ref D) H') : tDc (iStr tl) (gName k) tYes (tVar k) (tC (.str u)) [k] σ H Q := by
  refine xi_str h σ H s.f.j s.st _ fun J H1 n f1 hn w => ?_
  subst hn
  intro D nD
  have s1 := s.go f1
  have mD : ¬ (W.fix S).M D := (W.fix S).fresh f1.j nD
  have lk : k < σ.length := by rw [s.st.len]; exact hk
  let pre : Nat → List (Str × Str) := fun i => mergeS [] (pairsS (x.cps.toList.take i) u)
  have pl : ∀ i, i ≤ x.cps.size → (pre i).length ≤ 10000 := fun i hi => by
    have := mergeS_len (pairsS (x.cps.toList.take i) u) []
    rw [List.length_map, List.length_take] at this
    have e : ([] : List (Str × Str)).length = 0 := rfl
    show (mergeS [] (pairsS (x.cps.toList.take i) u)).length ≤ 10000
    omega
  refine ⟨fun i m H2 => m = x.cps.size - i ∧ i ≤ x.cps.size ∧ Fr (W.fix S) H1 H2 ∧ H2 D = some (.dK (KV2 (pre i))), ⟨_, rfl, Nat.zero_le _, .new f1.j nD, upd_same⟩, ?_⟩
  rintro i m H2 ⟨rfl, hi, f2, hD⟩
  by_cases l : i < x.cps.size
  · obtain ⟨go, yl⟩ := (w H2 f2 i).1 l
    refine .inr ⟨go, fun H3 => Fr (W.fix S) H1 H3 ∧ H3 D = some (.dK (KV2 (pre (i + 1)))), fun H3 r => ⟨_, by omega, rfl, l, r⟩, fun z H3 y => ?_⟩
    obtain ⟨e, a, ⟨c, hc, ea⟩, ia⟩ := yl z H3 y
    subst e
    subst ea
    cases ia
    refine ⟨(show ((σ.set k none).set k (some (.str (oneS c)))).set k none = σ.set k none by rw [List.set_set, List.set_set]), ?_⟩
    unfold tYes
    dsimp only
    rw [if_pos rfl]
    refine ⟨_, (show ((σ.set k none).set k (some (.str (oneS c))))[k]? = some (some (.str (oneS c))) by rw [List.set_set, List.getElem?_set, if_pos rfl, if_pos lk]), KV2 (pre i), .inr (oneS c), rfl, hD, ?_, ?_, ?_⟩
    · unfold KV2
      rw [List.length_map]
      exact Nat.lt_of_le_of_lt (pl i hi) (by decide)
    · refine ⟨fun a o nm e => ?_, (W.fix S).loc _ _ (fun a m => upd_ne fun z => mD (z ▸ m)) f2.j⟩
      have ne : a ≠ D := ne_of_none e nD
      rw [upd_ne ne]
      exact f2.keep a o nm e
    · have hl : x.cps.toList[i]? = some c := by rw [Array.getElem?_toList]; exact hc
      have e : pre (i + 1) = putS (pre i) (oneS c) u := by
        show mergeS [] (pairsS (x.cps.toList.take (i + 1)) u) = _
        rw [List.take_add_one, hl]
        show mergeS [] ((x.cps.toList.take i ++ [c]).map _) = _
        rw [List.map_append]
        exact mergeS_snoc _ _ _
      rw [upd_same, e, putK_KV2]
  · obtain rfl : i = x.cps.size := by omega
    refine .inl ⟨(w H2 f2 _).2 (Nat.le_refl _), q D H2 ?_ ?_⟩
    all_goals
      have e : pre x.cps.size = mergeS [] (pairsS x.cps.toList u) := by
        show mergeS [] (pairsS (x.cps.toList.take x.cps.size) u) = _
        rw [List.take_of_length_le (by rw [Array.length_toList]; exact Nat.le_refl _)]
      rw [e] at hD
    · exact s1.to (s1.f.more (s1.f.go f2) nD hD) (gr_more nD f2.same)
    · exact gr_trans f1.same (gr_more nD f2.same)
end
theorem for_keysK {kvs : List (Str × Str)} {g : TG} {tb : TS} {D : Ends} {σ : L2.St} {H : Hp} (Pv : Nat → L2.St → Hp → Prop) (h0 : Pv 0 σ H)
    (hs : ∀ i k v σ H, kvs[i]? = some (k, v) → Pv i σ H → g (.str k) σ H fun σ2 H2 => tb { D with nx := Pv (i + 1), ct := Pv (i + 1), bk := D.nx } σ2 H2) (hd : ∀ σ H, Pv kvs.length σ H → D.nx σ H) :
    ∃ W : Nat → Nat → L2.St → Hp → Prop, (∃ m, W 0 m σ H) ∧ ∀ i m σ H, W i m σ H →
      ((Itkk kvs).stop i H ∧ D.nx σ H) ∨ ((Itkk kvs).go i H ∧ ∃ N : L2.St → Hp → Prop, (∀ σ' H', N σ' H' → ∃ m', m' < m ∧ W (i + 1) m' σ' H') ∧ ∀ x H', (Itkk kvs).yld i H x H' → g x σ H' fun σ2 H2 => tb { D with nx := N, ct := N, bk := D.nx } σ2 H2) := by
  refine ⟨fun i m σ H => m = kvs.length - i ∧ i ≤ kvs.length ∧ Pv i σ H, ⟨kvs.length, by simp, Nat.zero_le _, h0⟩, ?_⟩
  rintro i m σ H ⟨rfl, hi, p⟩
  by_cases hlt : i < kvs.length
  · refine .inr ⟨hlt, Pv (i + 1), fun σ' H' p' => ⟨kvs.length - (i + 1), by omega, rfl, hlt, p'⟩, fun x H' y => ?_⟩
    obtain ⟨e, k, v, hkv, ex⟩ := y
    subst e ex
    exact hs i k v σ _ hkv p
  · have e : i = kvs.length := by omega
    subst e
    exact .inl ⟨Nat.le_refl _, hd σ H p⟩
/-! ### the least key of a dict that stands for a text -/
def leastS (kvs : List (Str × Str)) (kind : Str) : Str := match (kvs.filter fun p => decide (look kvs "" p.1 = kind)).map (·.1) with | [] => "" | y :: ys => minS y ys
theorem eqF_strT {a b : Str} : eqF (.str a) (.str b) = decide (a = b) := by
  unfold eqF
  show decide (V.str a = V.str b) = _
  by_cases h : a = b
  · rw [decide_eq_true h, h, decide_eq_true rfl]
  · rw [decide_eq_false h, decide_eq_false fun z => h (V.str.inj z)]
theorem valV_key {kvs : List (Str × Str)} {p : Str × Str} (h : p ∈ kvs) : valV (KV2 kvs) (Sum.inr p.1) = some (.str (look kvs "" p.1)) := by
  have e := valV_look p.1 "" kvs
  cases q : valV (KV2 kvs) (Sum.inr p.1) with
  | some v => rw [q] at e; exact congrArg some e
  | none =>
    exfalso
    unfold valV at q
    rw [Option.map_eq_none_iff, List.find?_eq_none] at q
    have := q (Sum.inr p.1, V.str p.2) (List.mem_map.mpr ⟨p, h, rfl⟩)
    simp at this
section
variable {K : PySem.W.Frag} {W : Wd}
abbrev lockF (d : Addr) (od : Obj) (kvs : List (Str × Str)) : Frg := [(d, .frz od (.dK (KV2 kvs)))]
theorem xi_keysF {d : Addr} {od : Obj} {kvs : List (Str × Str)} {Δ : Env} {i0 : Nat} (e0 : Δ[i0]? = some (some (.v (.ref d)))) : XI K (W.fix (lockF d od kvs)) (iKeys (tVar i0)) Δ (· = (kvs.map fun p => PyData.str p.1).length) fun i a => ∃ x, (kvs.map fun p => PyData.str p.1)[i]? = some x ∧ a = .d x := fun σ H j s R q => by
  obtain ⟨v, e, iv⟩ := s.get i0 _ e0
  have iv : v = .ref d := iv
  subst iv
  refine ⟨_, e, d, od, rfl, .inl ⟨KV2 kvs, j.2 _ (.head _), q _ H _ (.refl j) rfl fun H2 f2 i => ⟨fun l => ⟨⟨f2.j.2 _ (.head _), ?_⟩, fun x H3 ⟨eH, k, z, hkv, ex⟩ => ?_⟩, fun l => ⟨f2.j.2 _ (.head _), ?_⟩⟩⟩⟩
  · unfold KV2
    rw [List.length_map] at l ⊢
    exact l
  · unfold KV2 at hkv
    rw [List.getElem?_map] at hkv
    cases q2 : kvs[i]? with
    | none => rw [q2] at hkv; cases hkv
    | some p =>
      rw [q2] at hkv
      cases hkv
      subst ex
      exact ⟨eH, _, ⟨_, by rw [List.getElem?_map, q2]; rfl, rfl⟩, .str _⟩
  · unfold KV2
    rw [List.length_map] at l ⊢
    exact l
theorem xe_minKeys {kvs : List (Str × Str)} {kind : Str} (small : kvs.length ≤ 1000) : XV K W (tCKw (rMinDS K) (tCons (tLockE (tLc (iKeys (tVar 0)) (gName 2) (tTest (tOp rEq (tDGet (tVar 0) (tVar 2)) (tVar 1))) (tVar 2) [2])) tNil) (tCons (tC (.str "")) tNil)) [some (.d (KD kvs)), some (.d (.str kind)), none] (.d (.str (leastS kvs kind))) := fun σ H j s Q q => by
  obtain ⟨v0, e0, i0⟩ := s.get 0 _ rfl
  obtain ⟨v1, e1, i1⟩ := s.get 1 _ rfl
  cases i1
  cases i0 with
  | dct hd hk =>
    rename_i d es
    obtain rfl := dtkv_is hk
    have nM : ¬ W.M d := fun m => by rw [hid_in m] at hd; cases hd
    rw [hid_out nM] at hd
    refine ⟨d, .dK (KV2 kvs), hd, trivial, fun od => ?_⟩
    have jf : (W.fix (lockF d od kvs)).J (upd H d (.frz od (.dK (KV2 kvs)))) := ⟨W.loc H _ (fun a m => upd_ne fun z => nM (z ▸ m)) j, fun p hp => by rw [List.mem_singleton.mp hp]; exact upd_same⟩
    have sf : StOk K (W.fix (lockF d od kvs)).M (upd H d (.frz od (.dK (KV2 kvs)))) σ [some (.v (.ref d)), some (.d (.str kind)), none] := ⟨s.len, fun i a e => by
      match i, e with
      | 0, e => cases e; exact ⟨_, e0, rfl⟩
      | 1, e => cases e; exact ⟨_, e1, .str _⟩
      | 2, e => cases e
      | n + 3, e => cases e⟩
    have comp : XV K (W.fix (lockF d od kvs)) (tLc (iKeys (tVar 0)) (gName 2) (tTest (tOp rEq (tDGet (tVar 0) (tVar 2)) (tVar 1))) (tVar 2) [2]) [some (.v (.ref d)), some (.d (.str kind)), none] (.d (.list (((kvs.map fun p => PyData.str p.1).filter fun x => match x with | .str k => decide (look kvs "" k = kind) | _ => false).map fun x => x))) := by
      refine xe_lcF (xi_keysF rfl) (by rw [List.length_map]; omega) fun x hx => ⟨_, gt_name, fun D φ mD => ?_, fun _ D φ mD => xe_var rfl⟩
      obtain ⟨p, hp, rfl⟩ := List.mem_map.mp hx
      refine XT.is (xt_test (xe_op (a := .d (.str (look kvs "" p.1))) (fun σ2 H2 j2 s2 Q2 q2 => ?_) (xe_var rfl) (ox_eq rfl rfl rfl))) ?_
      · obtain ⟨w0, f0, k0⟩ := s2.get 0 (.v (.ref d)) rfl
        obtain ⟨w2, f2, k2⟩ := s2.get 2 (.d (.str p.1)) rfl
        have k0 : w0 = .ref d := k0
        subst k0
        cases k2
        exact ⟨_, f0, _, f2, d, _, rfl, .inl ⟨KV2 kvs, .inr p.1, .inr ⟨od, j2.1.2 _ (.head _)⟩, rfl, (valV_key hp).symm⟩, q2 _ H2 _ (.refl j2) rfl (.str _)⟩
      · rw [eqF_strT]
    refine comp σ _ jf sf _ fun v H2 a f e i => ?_
    subst e
    have el : (((kvs.map fun p => PyData.str p.1).filter fun x => match x with | .str k => decide (look kvs "" k = kind) | _ => false).map fun x => x) = ((kvs.filter fun p => decide (look kvs "" p.1 = kind)).map (·.1)).map PyData.str := by
      rw [List.map_id', List.filter_map, List.map_map]
      rfl
    rw [el] at i
    cases i with
    | lst hL dd =>
      rename_i L vs
      have evs := strs_vs dd
      subst evs
      have nL : ¬ (W.fix (lockF d od kvs)).M L := fun m => by rw [hid_in m] at hL; cases hL
      rw [hid_out nL] at hL
      have ne : L ≠ d := fun z => nL (.inr ⟨_, .head _, z.symm⟩)
      have fr : Fr W H (upd H2 d (.dK (KV2 kvs))) := ⟨fun a o nm e => by
        by_cases z : a = d
        · rw [z] at e ⊢
          rw [upd_same, ← hd, e]
        · rw [upd_ne z]
          exact f.keep a o (fun m => m.elim nm fun ⟨p, hp, ep⟩ => z (by rw [← ep, List.mem_singleton.mp hp])) (by rw [upd_ne z]; exact e), W.loc H2 _ (fun a m => upd_ne fun z => nM (z ▸ m)) f.j.1⟩
      refine ⟨f.j.2 _ (.head _), L, (kvs.filter fun p => decide (look kvs "" p.1 = kind)).map (·.1), "", rfl, rfl, .inl (.inl (by rw [upd_ne ne]; exact hL)), fun e => ?_, fun y ys e => ?_⟩
      · have e2 : leastS kvs kind = "" := by unfold leastS; rw [e]
        exact q _ _ (.d (.str "")) fr (by rw [e2]) (Dt.str _)
      · have e2 : leastS kvs kind = minS y ys := by unfold leastS; rw [e]
        exact q _ _ (.d (.str (minS y ys))) fr (by rw [e2]) (Dt.str _)
end
/-! ### the truth of a text -/
def tTruS (K : PySem.W.Frag) (ta : TE) : TT := fun σ H Q => ta σ H fun x H' => ∃ k, TruV K x H' k ∧ Q k H'
theorem pt_truS {X : Cx} {a : Expr} {ta : TE} (ha : PE X a ta) (he : ∀ whole, isTrue a X.env whole = (do let v ← whole; standAt a.pos; holding [v] (truthy v)) := by intro _; rfl) : PT X a (tTruS X.K ta) := pt_truth ha he
theorem xt_truS {K : PySem.W.Frag} {W : Wd} {Δ : Env} {ta : TE} {x : Str} (h : XV K W ta Δ (.d (.str x))) (l : x.length ≤ sizeLine) : XB K W (tTruS K ta) Δ ((x.length : Int) != 0) := fun σ H j s Q q =>
  h σ H j s _ fun v H1 a f e i => by
    subst e
    cases i
    exact ⟨_, ⟨l, rfl⟩, q _ H1 f rfl⟩
end V2

set_option Elab.async false
set_option linter.all false
set_option maxRecDepth 100000
set_option maxHeartbeats 2000000
namespace V2
open PySem PySem.Spec PyProof.Rows L2
/-! ### the law's end, where it is known that the table of the modules stands -/
def Live (h : Heap) : Prop := ∃ mm, h.Ns sysModules mm
section
variable {P : Program} {w : World} {K : PySem.W.Frag} {mg mb : Str → Option Value} {CX : CXT} {k : Nat} {fa a : Addr} {fd : FuncData} {x : Str} {sp : Sp} {s₁ : Shared} {vs : List Value} {ns : List Int} {H : Hp}
theorem lawL_at (sy : Live s₁.heap) (KX : K.In s₁.heap) (hns : s₁.heap.Ns mainGlobals mg) (hb : s₁.heap.Ns builtinsNs mb) (hbb : ∀ x : Str, x ≠ "__name__" → mb x = bootBuiltins x) (hlim : s₁.heap.NoLimit) (hg : s₁.gens = #[])
    (ha : s₁.heap.get? a = some { cls := .type "list", data := .seq vs.toArray }) (hr : Room k callerA)
    (F : ∀ base : Heap, K.In base → base.Ns mainGlobals mg → Live base → FnG P w K mg base CX k fa fd [x] sp) (bind : ∀ (s : Shared) (u : Value), BindsTo s fd ⟨[u], []⟩ [(x, u)])
    (calm : ∀ H e s', CX [] H s₁ (fun _ _ _ => False) e s' → False) (only : Only H) (hok : HOk P w H s₁.heap) (alone : ∀ b, H b ≠ none → b = a) (notK : H a ≠ none → K.lookup a = none)
    (sps : sp [.ref a] H (fun v _ => v = .bl true) fun _ _ _ => False) :
    codeAny (model P w) callerA (.call (.ref fa) ⟨[.ref a], []⟩) (TrueEnd s₁) s₁ := by
  have dictFree : ∀ (b : Addr) (o : Obj) (es : Array DictEntry) (ep : Nat), s₁.heap.get? b = some o → o.data = .dict es ep → H b = none := by
    intro b o es ep e d
    cases q : H b with
    | none => rfl
    | some u =>
      obtain rfl := alone b (by rw [q]; nofun)
      rw [ha] at e
      cases e
      cases d
  have spaces : ∀ (b : Addr) (m : Str → Option Value), s₁.heap.Ns b m → (hidT s₁.heap H).Ns b m := by
    rintro b m ⟨o, es, ep, e, d, r⟩
    exact ⟨o, es, ep, hidT_get e (dictFree b o es ep e d), d, r⟩
  have kb : K.In (hidT s₁.heap H) := by
    intro b o e
    refine hidT_get (KX b o e) ?_
    cases q : H b with
    | none => rfl
    | some u =>
      obtain rfl := alone b (by rw [q]; nofun)
      rw [notK (by rw [q]; nofun)] at e
      cases e
  obtain ⟨mc, l1, l2⟩ := hlim
  have lv : Live (hidT s₁.heap H) := by
    obtain ⟨mm, hm⟩ := sy
    exact ⟨mm, spaces _ _ hm⟩
  have md : Mod K mg (hidT s₁.heap H) := ⟨kb, spaces _ _ hns, ⟨mb, spaces _ _ hb, hbb⟩, ⟨mc, spaces _ _ l1, l2⟩⟩
  have env : Env0 P w K mg (hidT s₁.heap H) callerA [] s₁ H :=
    { frames := rfl, mod := md, bs := fun b o e => of_hidT e, bsz := Nat.le_of_eq (hidT_size _ _), funs := trivial, frf := fun b h => (List.not_mem_nil h).elim, hok := hok, bare := .of_eq hg }
  apply codeAny_mono ((F _ kb (spaces _ _ hns) lv).goes callerA [] s₁ H ⟨[.ref a], []⟩ [.ref a] [.ref a] _ _ hr rfl env (bind s₁ (.ref a)) (.cons rfl .nil) sps)
  rintro (e | (_ | _ | _ | u)) s' h
  · exact (calm H e s' h).elim
  · exact h.elim
  · exact h.elim
  · exact h.elim
  · obtain ⟨v, H', os, bare, un, hok', rv, q⟩ := h
    obtain rfl : v = .bl true := q
    obtain rfl : u = Value.bool true := rv
    refine ⟨rfl, OldK.of_keep ?_, os, bare⟩
    intro b o e
    rcases only b with z | ⟨ob, xs, z⟩
    · exact un.keep b o e z (fun m => (List.not_mem_nil m).elim) (by simp)
    · have e1 := (hok b _ z).1
      rw [e] at e1
      cases e1
      exact (hok' b _ (un.frzs b _ _ z)).1
theorem lawL (sy : Live s₁.heap) (KX : K.In s₁.heap) (hns : s₁.heap.Ns mainGlobals mg) (hb : s₁.heap.Ns builtinsNs mb) (hbb : ∀ x : Str, x ≠ "__name__" → mb x = bootBuiltins x) (hlim : s₁.heap.NoLimit) (hg : s₁.gens = #[])
    (ha : s₁.heap.get? a = some { cls := .type "list", data := .seq vs.toArray }) (hi : IntsAre vs ns) (hl : ns.length ≤ sizeLine) (hr : Room k callerA)
    (F : ∀ base : Heap, K.In base → base.Ns mainGlobals mg → Live base → FnG P w K mg base CX k fa fd [x] sp) (bind : ∀ (s : Shared) (u : Value), BindsTo s fd ⟨[u], []⟩ [(x, u)])
    (calm : ∀ H e s', CX [] H s₁ (fun _ _ _ => False) e s' → False)
    (sps : ∀ H : Hp, Only H → SqL K H a (ns.map V.int) → sp [.ref a] H (fun v _ => v = .bl true) fun _ _ _ => False) :
    codeAny (model P w) callerA (.call (.ref fa) ⟨[.ref a], []⟩) (TrueEnd s₁) s₁ := by
  have rv : Vals (ns.map V.int) vs := vals_ints hi
  cases hk : K.lookup a with
  | some o =>
    have e := KX a o hk
    rw [ha] at e
    cases e
    have sq : SqL K (fun _ => none) a (ns.map V.int) := .inr ⟨_, vs.toArray, _, hk, rfl, rfl, rfl, by rw [List.size_toArray, hi.length]; exact hl, rv⟩
    exact lawL_at (H := fun _ => none) sy KX hns hb hbb hlim hg ha hr F bind calm (fun _ => .inl rfl) (fun b u z => nomatch z) (fun b z => absurd rfl z) (fun z => absurd rfl z) (sps _ (fun _ => .inl rfl) sq)
  | none =>
    let o : Obj := { cls := .type "list", data := .seq vs.toArray }
    let H : Hp := fun b => if b = a then some (.frz o (.lst (ns.map V.int))) else none
    have at_a : H a = some (.frz o (.lst (ns.map V.int))) := if_pos rfl
    have off : ∀ b, b ≠ a → H b = none := fun b hb => if_neg hb
    have on : Only H := fun b => by
      by_cases q : b = a
      · rw [q]; exact .inr ⟨_, _, at_a⟩
      · exact .inl (off b q)
    refine lawL_at (H := H) sy KX hns hb hbb hlim hg ha hr F bind calm on ?_ (fun b z => ?_) (fun _ => hk) (sps H on (.inl (.inr ⟨o, at_a⟩)))
    · intro b u z
      by_cases q : b = a
      · subst q
        rw [at_a] at z
        cases z
        exact ⟨ha, by rw [List.length_map]; exact hl, vs, _, rv, ha⟩
      · rw [off b q] at z
        cases z
    · by_cases q : b = a
      · exact q
      · exact absurd (off b q) z
end
theorem walkL {l : PySem.W.OpenLaw} {n k : Nat} {q : Program} {loose : List Str} {XP : (Str → Option Value) → Heap → Prop} {YP : World → Heap → Prop} {d : DefRec} {K : Params → PySem.W.Frag} {CX : World → CXT} {sp : World → Sp} {x : Str}
    (hn : l.most = some n) (hn2 : n ≤ sizeLine) (hdf : d.params.defaults = []) (hr : Room k callerA) (him : PyProof.Rows.importsNone q = true) (hY : ∀ (w : World) (h : Heap), YP w h → (K w.params).In h)
    (F : ∀ (w : World) (mg : Str → Option Value) (fa : Addr) (h : Heap), (K w.params).In h → h.Ns mainGlobals mg → mg d.name = some (.ref fa) →
      ∃ fd : FuncData, (∀ (s : Shared) (u : Value), BindsTo s fd ⟨[u], []⟩ [(x, u)]) ∧
        ∀ base : Heap, (K w.params).In base → base.Ns mainGlobals mg → Live base → FnG l.prog w (K w.params) mg base (CX w) k fa fd [x] (sp w))
    (sps : ∀ (w : World) (H : Hp) (a : Addr) (ns : List Int), ns.length ≤ n → Only H → SqL (K w.params) H a (ns.map V.int) → sp w [.ref a] H (fun v _ => v = .bl true) fun _ _ _ => False)
    (calm : ∀ (w : World) (H : Hp) (s : Shared) (e : Value) (s' : Shared), CX w [] H s (fun _ _ _ => False) e s' → False) :
    PySem.W.WalkO q loose XP YP l.row.toRowW d [] (fun f vs => PySem.call f vs) := by
  apply Att.attach_call hn hdf
  intro w s₀ s₁ mg mb fa o pm cd doc a vs ns G Y ho hd hcd hmg hobj hints hlen hg
  have KX := hY w _ Y
  obtain ⟨fd, hb, hF⟩ := F w mg fa _ KX G.T.g hmg
  have sy : Live s₁.heap := by
    obtain ⟨mm, hm, _⟩ := (G.T.seer him).mods
    exact ⟨mm, hm⟩
  exact lawL sy KX G.T.g G.T.b G.T.builtins G.T.nolimit hg hobj hints (Nat.le_trans hlen hn2) hr hF hb (fun H e s' => calm w H s₁ e s') (fun H hO hS => sps w H a ns hlen hO hS)
/-! ### repr of any data -/
section
variable {X : Cx} {pins : List (Addr × Obj)} {σ : L2.St} {H : Hp} {s : Shared}
theorem sqT_at (I : L2.Inv X pins σ H s) {a : Addr} {xs : List V} (h : SqT X.K H a xs) : ∃ o its n, s.heap.get? a = some o ∧ o.cls = .type "tuple" ∧ o.data = .seq its n ∧ Vals xs its.toList := by
  rcases h with (h | ⟨o, h⟩) | ⟨o, its, n, hl, hc, hd, _, hv⟩
  · obtain ⟨_, its, hv, o, h1, h2, n, h3⟩ := I.hok a _ h
    exact ⟨o, _, n, h1, h2, h3, hv⟩
  · obtain ⟨h1, _, its, hv, o2, h2, h3, n, h4⟩ := I.hok a _ h
    exact ⟨o2, _, n, h2, h3, h4, hv⟩
  · exact ⟨o, its, n, I.kIn a o hl, hc, hd, hv⟩
/-- the table of the modules is no object of the program's -/
theorem Live.ne (lv : Live X.base) (I : L2.Inv X pins σ H s) : H sysModules = none := by
  obtain ⟨mm, o, es, ep, h, _⟩ := lv
  obtain ⟨h1, h2⟩ := I.ok.bs _ o h
  exact I.base.free _ o h1 h2 (I.ok.noex _ o h)
theorem kv_reads (h : Heap) : ∀ (ds : List (PyData × PyData)) (kvs : List (Key × V)) (vs : List (Key × Value)) (es : List DictEntry) (_ : KV kvs vs) (_ : Pairs (mixKind X.prog X.w) es vs) (_ : kvs.map (fun p => keyD p.1) = ds.map (·.1)),
    ReadsAll h (es.map (·.key)) (ds.map (·.1)) [] := by
  intro ds
  induction ds with
  | nil =>
    intro kvs vs es r ps e
    cases kvs with
    | nil => cases r; cases ps; exact .nil
    | cons _ _ => cases e
  | cons d0 ds ih =>
    intro kvs vs es r ps e
    cases kvs with
    | nil => cases e
    | cons k0 kvs =>
      rw [List.map_cons, List.map_cons] at e
      obtain ⟨e0, e1⟩ := List.cons_eq_cons.mp e
      cases r with
      | cons r rt =>
        cases ps with
        | cons hk hv ps =>
          rename_i r0 rs e2 es
          have hk' : keyIs r0.1 e2.key = true := hk
          rw [← (r.1 : k0.1 = r0.1)] at hk'
          have t := ih _ _ _ rt ps e1
          show ReadsAll h (e2.key :: _) (d0.1 :: _) ([] ++ [])
          refine .cons ?_ t
          rw [← e0]
          rcases keyIs_shape hk' with ⟨i, u, e3, e4⟩ | ⟨x, u, e3, e4⟩
          · rw [e3, e4]; exact .int i u
          · rw [e3, e4]; exact .str x u
theorem kv_vals : ∀ {kvs : List (Key × V)} {vs : List (Key × Value)} {es : List DictEntry}, KV kvs vs → Pairs (mixKind X.prog X.w) es vs → Vals (kvs.map (·.2)) (es.map (·.val))
  | _, _, _, .nil, .nil => .nil
  | _, _, _, .cons r rt, .cons _ hv ps => .cons (by have h2 := r.2; rw [← hv] at h2; exact h2) (kv_vals rt ps)
mutual
theorem Dt.readsA (ns : H sysModules = none) (I : L2.Inv X pins σ H s) : ∀ (d : PyData) (v : V) (u : Value), Dt X.K H v d → RelV v u → ∃ as, Reads s.heap u d as ∧ ¬ sysModules ∈ as
  | .none, _, u, .non, r => ⟨[], by rw [show u = _ from r]; exact .none, nofun⟩
  | .bool b, _, u, .bl _, r => ⟨[], by rw [show u = _ from r]; exact .bool b, nofun⟩
  | .int i, _, u, .int _, r => by obtain ⟨t, e⟩ := r; rw [e]; exact ⟨[], .int i t, nofun⟩
  | .str x, _, u, .str _, r => by obtain ⟨t, e⟩ := r; rw [e]; exact ⟨[], .str x t, nofun⟩
  | .list ds, _, u, .lst h q, r => by
    cases r
    have ne : sysModules ≠ _ := fun z => by rw [z] at ns; rw [ns] at h; cases h
    obtain ⟨_, its, n, hv, e⟩ := I.hok _ _ h
    obtain ⟨as, h1, h2⟩ := DtAll.readsA ns I ds _ _ q hv
    exact ⟨_, .list e rfl rfl h1, fun m => (List.mem_cons.mp m).elim ne h2⟩
  | .tuple ds, _, u, .tup h q, r => by
    cases r
    obtain ⟨o, its, n, h1, h2, h3, h4⟩ := sqT_at I h
    obtain ⟨as, h5, h6⟩ := DtAll.readsA ns I ds _ _ q h4
    exact ⟨_, .tuple h1 h2 h3 h5, h6⟩
  | .dict ds, _, u, .dct h q, r => by
    cases r
    obtain ⟨_, nsys, vs, rv, o, es, ep, hget, hex, hdat, _, hp, _⟩ := I.hok _ _ h
    obtain ⟨as, h5, h6, h7⟩ := DtKv.readsA ns I ds _ _ q (kv_vals rv hp)
    refine ⟨_, .dict hget hex.1 hdat (kv_reads _ _ _ _ _ rv hp h7) h5, fun m => ?_⟩
    rcases List.mem_append.mp m with m | m
    · rcases List.mem_cons.mp m with m | m
      · rw [← m] at nsys
        simp at nsys
      · cases m
    · exact h6 m
theorem DtAll.readsA (ns : H sysModules = none) (I : L2.Inv X pins σ H s) : ∀ (ds : List PyData) (vs : List V) (us : List Value), DtAll X.K H vs ds → Vals vs us → ∃ as, ReadsAll s.heap us ds as ∧ ¬ sysModules ∈ as
  | [], _, _, .nil, .nil => ⟨[], .nil, nofun⟩
  | d :: ds, _, _, .cons h t, .cons r rt => by
    obtain ⟨as, h1, h2⟩ := Dt.readsA ns I d _ _ h r
    obtain ⟨bs, h3, h4⟩ := DtAll.readsA ns I ds _ _ t rt
    exact ⟨_, .cons h1 h3, fun m => (List.mem_append.mp m).elim h2 h4⟩
theorem DtKv.readsA (ns : H sysModules = none) (I : L2.Inv X pins σ H s) : ∀ (ds : List (PyData × PyData)) (kvs : List (Key × V)) (us : List Value), DtKv X.K H kvs ds → Vals (kvs.map (·.2)) us → ∃ as, ReadsAll s.heap us (ds.map (·.2)) as ∧ ¬ sysModules ∈ as ∧ kvs.map (fun p => keyD p.1) = ds.map (·.1)
  | [], _, _, .nil, .nil => ⟨[], .nil, nofun, rfl⟩
  | (_, d) :: ds, _, _, .cons h t, .cons r rt => by
    obtain ⟨as, h1, h2⟩ := Dt.readsA ns I d _ _ h r
    obtain ⟨bs, h3, h4, h5⟩ := DtKv.readsA ns I ds _ _ t rt
    exact ⟨_, .cons h1 h3, fun m => (List.mem_append.mp m).elim h2 h4, by rw [List.map_cons, List.map_cons, h5]⟩
end
end

section
def rReprA (K : PySem.W.Frag) : List V → Hp → VK → Prop := fun xs H Q => ∃ (a : Addr) (d : PyData), xs = [.ref a] ∧ Dt K H (.ref a) d ∧ d.showable = true ∧ d.depth ≤ 60 ∧ d.shown.length ≤ sizeLine ∧ Q (.str d.shown) H
theorem call_reprA {X : Cx} (lv : Live X.base) (ng : NoG X.A) (hu : X.A.units + 64 < cLine) : CallR X (.builtin "repr") (rReprA X.K) := by
  intro pins s σ H xs us Q I r h
  obtain ⟨a, d, rfl, hd, sh, dp, hw, q⟩ := h
  obtain ⟨u, rfl, ru⟩ := vals1 r
  cases ru
  obtain ⟨as, rd, nm⟩ := Dt.readsA (lv.ne I) I d _ _ hd rfl
  exact repr_of_reads' rd sh (fun _ => nm) ng (by omega) (fun _ _ e => e) (fun h' u tk hk => ⟨.str _, H, I.kept hk, ⟨_, rfl⟩, q⟩) hw
mutual
def wtA : PyData → Nat
  | .none => 10
  | .bool _ => 10
  | .int i => ((toString i : String) : Str).length + 10
  | .str x => (reprText x).length + 10
  | .list xs => wtsA xs + 10
  | .tuple xs => wtsA xs + 10
  | .dict kvs => wtkA kvs + 10
def wtsA : List PyData → Nat
  | [] => 0
  | x :: xs => wtA x + 2 + wtsA xs
def wtkA : List (PyData × PyData) → Nat
  | [] => 0
  | (k, x) :: r => wtA k + wtA x + 4 + wtkA r
end
mutual
theorem wtA_le : ∀ d : PyData, d.shown.length ≤ wtA d
  | .none => by simp only [PyData.shown, wtA]; decide
  | .bool b => by cases b <;> (simp only [PyData.shown, wtA]; decide)
  | .int i => by simp only [PyData.shown, wtA]; omega
  | .str x => by simp only [PyData.shown, wtA]; omega
  | .list xs => by
    have q := wtsA_le xs
    simp only [PyData.shown, wtA]
    have e := textFrom_len_le (PyData.shownAll xs) 0 "["
    have e2 : (listText (PyData.shownAll xs)).length = (textFrom 0 "[" (PyData.shownAll xs)).length + 1 := by
      unfold listText
      rw [strLen_append]; rfl
    have e3 : (("[" : String) : Str).length = 1 := rfl
    omega
  | .tuple xs => by
    have q := wtsA_le xs
    simp only [PyData.shown, wtA]
    have e := join_le (PyData.shownAll xs)
    have e2 : (tupleText (PyData.shownAll xs)).length ≤ 1 + (Str.join ", " (PyData.shownAll xs)).length + 2 := by
      unfold tupleText
      rw [strLen_append, strLen_append]
      by_cases q : ((PyData.shownAll xs).length == 1) = true
      · rw [if_pos q]; exact Nat.le_refl _
      · rw [if_neg q]; exact Nat.le_succ _
    omega
  | .dict kvs => by
    have q := wtkA_le kvs
    simp only [PyData.shown, wtA]
    have e := join_le (PyData.shownKv kvs)
    have e2 : (dictText (PyData.shownKv kvs)).length = 1 + (Str.join ", " (PyData.shownKv kvs)).length + 1 := by
      unfold dictText
      rw [strLen_append, strLen_append]; rfl
    omega
theorem wtsA_le : ∀ ds : List PyData, piled (PyData.shownAll ds) ≤ wtsA ds
  | [] => by simp [PyData.shownAll, piled, wtsA]
  | d :: ds => by
    have q1 := wtA_le d
    have q2 := wtsA_le ds
    simp only [PyData.shownAll, wtsA]
    have p : piled (d.shown :: PyData.shownAll ds) = d.shown.length + 2 + piled (PyData.shownAll ds) := by simp [piled]
    omega
theorem wtkA_le : ∀ ds : List (PyData × PyData), piled (PyData.shownKv ds) ≤ wtkA ds
  | [] => by simp [PyData.shownKv, piled, wtkA]
  | (k, d) :: ds => by
    have q0 := wtA_le k
    have q1 := wtA_le d
    have q2 := wtkA_le ds
    simp only [PyData.shownKv, wtkA]
    have p : piled ((k.shown ++ (": " : Str) ++ d.shown) :: PyData.shownKv ds) = (k.shown ++ (": " : Str) ++ d.shown).length + 2 + piled (PyData.shownKv ds) := by simp [piled]
    have e : (k.shown ++ (": " : Str) ++ d.shown).length = k.shown.length + 2 + d.shown.length := by rw [strLen_append, strLen_append]; rfl
    omega
end
variable {K : PySem.W.Frag} {W : Wd} {Δ : Env} {te tl : TE} {ts : TS} {N : Env → Prop} {Rt : A → Prop} {Bk Ct : Env → Prop} {xs : List PyData}
def isRefD : PyData → Bool
  | .list _ | .tuple _ | .dict _ => true
  | _ => false
theorem cx_reprA {d : PyData} (rd : isRefD d = true) (sh : d.showable = true) (dp : d.depth ≤ 60) (hw : wtA d ≤ 1000000) : CX1 K W (rReprA K) [.d d] (· = .d (.str d.shown)) := fun vs H j i Q q => by
  have hz : d.shown.length ≤ sizeLine := Nat.le_trans (wtA_le d) (Nat.le_trans hw (by decide))
  cases i with
  | cons h t =>
    cases t
    have h' : Dt K H _ d := Dt.ext hid_le d _ h
    cases h' with
    | lst a b => exact ⟨_, _, rfl, .lst a b, sh, dp, hz, q _ H _ (.refl j) rfl (.str _)⟩
    | tup a b => exact ⟨_, _, rfl, .tup a b, sh, dp, hz, q _ H _ (.refl j) rfl (.str _)⟩
    | dct a b => exact ⟨_, _, rfl, .dct a b, sh, dp, hz, q _ H _ (.refl j) rfl (.str _)⟩
    | _ => cases rd
/-! ### sorted texts -/
theorem dts_strs' {H : Hp} : ∀ ys : List Str, DtAll K H (ys.map V.str) (ys.map PyData.str)
  | [] => .nil
  | y :: r => .cons (.str y) (dts_strs' r)
theorem cx_sortedS {ys : List Str} (n : ys.length < 64) : CX1 K W (rSortedS K) [.d (.list (ys.map PyData.str))] (fun a => ∃ zs : List Str, zs.Perm ys ∧ sortedS zs = true ∧ a = .d (.list (zs.map PyData.str))) := fun vs H j i Q q => by
  cases i with
  | cons h t =>
    cases t
    cases h with
    | lst h1 d1 =>
      obtain rfl := dts_strs d1
      exact ⟨_, ys, rfl, .inl (.inl (hid_le _ _ h1)), n, fun zs p pm pw np => q _ _ _ (.new j np) ⟨zs, pm, pw, rfl⟩ (Dt.lst (hid_new j np) (dts_strs' zs))⟩
/-! ### the keys of a dict that stand for a text, under a lock -/
def keysS (kvs : List (Str × Str)) (kind : Str) : List Str := (kvs.filter fun p => decide (look kvs "" p.1 = kind)).map (·.1)
theorem xe_lockKeys {kvs : List (Str × Str)} {kind : Str} (small : kvs.length ≤ 1000) : XV K W (tLockE (tLc (iKeys (tVar 0)) (gName 3) (tTest (tOp rEq (tDGet (tVar 0) (tVar 3)) (tVar 1))) (tVar 3) [3])) [some (.d (KD kvs)), some (.d (.str kind)), none, none] (.d (.list ((keysS kvs kind).map PyData.str))) := fun σ H j s Q q => by
  obtain ⟨v0, e0, i0⟩ := s.get 0 _ rfl
  obtain ⟨v1, e1, i1⟩ := s.get 1 _ rfl
  cases i1
  cases i0 with
  | dct hd hk =>
    rename_i d es
    obtain rfl := dtkv_is hk
    have nM : ¬ W.M d := fun m => by rw [hid_in m] at hd; cases hd
    rw [hid_out nM] at hd
    refine ⟨d, .dK (KV2 kvs), hd, trivial, fun od => ?_⟩
    have jf : (W.fix (lockF d od kvs)).J (upd H d (.frz od (.dK (KV2 kvs)))) := ⟨W.loc H _ (fun a m => upd_ne fun z => nM (z ▸ m)) j, fun p hp => by rw [List.mem_singleton.mp hp]; exact upd_same⟩
    have sf : StOk K (W.fix (lockF d od kvs)).M (upd H d (.frz od (.dK (KV2 kvs)))) σ [some (.v (.ref d)), some (.d (.str kind)), none, none] := ⟨s.len, fun i a e => by
      match i, e with
      | 0, e => cases e; exact ⟨_, e0, rfl⟩
      | 1, e => cases e; exact ⟨_, e1, .str _⟩
      | 2, e => cases e
      | 3, e => cases e
      | n + 4, e => cases e⟩
    have comp : XV K (W.fix (lockF d od kvs)) (tLc (iKeys (tVar 0)) (gName 3) (tTest (tOp rEq (tDGet (tVar 0) (tVar 3)) (tVar 1))) (tVar 3) [3]) [some (.v (.ref d)), some (.d (.str kind)), none, none] (.d (.list (((kvs.map fun p => PyData.str p.1).filter fun x => match x with | .str k => decide (look kvs "" k = kind) | _ => false).map fun x => x))) := by
      refine xe_lcF (xi_keysF rfl) (by rw [List.length_map]; omega) fun x hx => ⟨_, gt_name, fun D φ mD => ?_, fun _ D φ mD => xe_var rfl⟩
      obtain ⟨p, hp, rfl⟩ := List.mem_map.mp hx
      refine XT.is (xt_test (xe_op (a := .d (.str (look kvs "" p.1))) (fun σ2 H2 j2 s2 Q2 q2 => ?_) (xe_var rfl) (ox_eq rfl rfl rfl))) ?_
      · obtain ⟨w0, f0, k0⟩ := s2.get 0 (.v (.ref d)) rfl
        obtain ⟨w2, f2, k2⟩ := s2.get 3 (.d (.str p.1)) rfl
        have k0 : w0 = .ref d := k0
        subst k0
        cases k2
        exact ⟨_, f0, _, f2, d, _, rfl, .inl ⟨KV2 kvs, .inr p.1, .inr ⟨od, j2.1.2 _ (.head _)⟩, rfl, (valV_key hp).symm⟩, q2 _ H2 _ (.refl j2) rfl (.str _)⟩
      · rw [eqF_strT]
    refine comp σ _ jf sf _ fun v H2 a f e i => ?_
    subst e
    have el : (((kvs.map fun p => PyData.str p.1).filter fun x => match x with | .str k => decide (look kvs "" k = kind) | _ => false).map fun x => x) = (keysS kvs kind).map PyData.str := by
      unfold keysS
      rw [List.map_id', List.filter_map, List.map_map]
      rfl
    rw [el] at i
    cases i with
    | lst hL dd =>
      rename_i L vs
      have evs := strs_vs dd
      subst evs
      have nL : ¬ (W.fix (lockF d od kvs)).M L := fun m => by rw [hid_in m] at hL; cases hL
      rw [hid_out nL] at hL
      have ne : L ≠ d := fun z => nL (.inr ⟨_, .head _, z.symm⟩)
      have nWL : ¬ W.M L := fun m => nL (.inl m)
      have fr : Fr W H (upd H2 d (.dK (KV2 kvs))) := ⟨fun a o nm e => by
        by_cases z : a = d
        · rw [z] at e ⊢
          rw [upd_same, ← hd, e]
        · rw [upd_ne z]
          exact f.keep a o (fun m => m.elim nm fun ⟨p, hp, ep⟩ => z (by rw [← ep, List.mem_singleton.mp hp])) (by rw [upd_ne z]; exact e), W.loc H2 _ (fun a m => upd_ne fun z => nM (z ▸ m)) f.j.1⟩
      exact ⟨f.j.2 _ (.head _), q (.ref L) _ _ fr rfl (Dt.lst (by rw [hid_out nWL, upd_ne ne]; exact hL) (dts_strs' _))⟩
/-! ### the head of sorted texts is the least -/
theorem ltS_one (a b : Nat) : (decide ((oneS a).cps.toList < (oneS b).cps.toList)) = decide (a < b) := by
  show decide (([a] : List Nat) < [b]) = _
  rw [← PyProof.Rows.ltCps_eq]
  simp [Spec.ltCps]
def fstC (x : Str) : Nat := x.cps.getD 0 0
theorem minS_cons (y z : Str) (r : List Str) : minS y (z :: r) = minS (if PySem.W.DatumOrd.lt z y = true then z else y) r := rfl
theorem minS_mem : ∀ (y : Str) (ys : List Str), minS y ys ∈ y :: ys
  | y, [] => .head _
  | y, z :: r => by
    rw [minS_cons]
    have h := minS_mem (if PySem.W.DatumOrd.lt z y = true then z else y) r
    rcases List.mem_cons.mp h with h | h
    · rw [h]
      split
      · exact .tail _ (.head _)
      · exact .head _
    · exact .tail _ (.tail _ h)
theorem minS_le : ∀ (y : Str) (ys : List Str), (∀ x ∈ y :: ys, ∃ c, x = oneS c) → ∀ x ∈ y :: ys, fstC (minS y ys) ≤ fstC x
  | y, [], _, x, hx => by
    rw [List.mem_singleton.mp hx]
    exact Nat.le_refl _
  | y, z :: r, h, x, hx => by
    rw [minS_cons]
    obtain ⟨cy, ey⟩ := h y (.head _)
    obtain ⟨cz, ez⟩ := h z (.tail _ (.head _))
    have hr : ∀ w, (w = y ∨ w = z) → ∀ x ∈ w :: r, ∃ c, x = oneS c := fun w hw x hx => by
      rcases List.mem_cons.mp hx with rfl | hx
      · rcases hw with rfl | rfl
        · exact ⟨_, ey⟩
        · exact ⟨_, ez⟩
      · exact h x (.tail _ (.tail _ hx))
    have e : PySem.W.DatumOrd.lt z y = decide (cz < cy) := by rw [ey, ez]; exact ltS_one cz cy
    have fy : fstC y = cy := by rw [ey]; rfl
    have fz : fstC z = cz := by rw [ez]; rfl
    rw [e]
    by_cases l : cz < cy
    · rw [decide_eq_true l, if_pos rfl]
      have ih := minS_le z r (hr z (.inr rfl))
      rcases List.mem_cons.mp hx with rfl | hx
      · have := ih z (.head _)
        omega
      · exact ih x hx
    · rw [decide_eq_false l, if_neg (by decide)]
      have ih := minS_le y r (hr y (.inl rfl))
      rcases List.mem_cons.mp hx with rfl | hx
      · exact ih x (.head _)
      · rcases List.mem_cons.mp hx with rfl | hx
        · have := ih y (.head _)
          omega
        · exact ih x (.tail _ hx)
theorem rising_le : ∀ (z : Str) (r : List Str), (∀ x ∈ z :: r, ∃ c, x = oneS c) → risingS z r = true → ∀ x ∈ r, fstC z ≤ fstC x
  | z, [], _, _, x, hx => nomatch hx
  | z, y :: r, h, s, x, hx => by
    rw [risingS.eq_2, Bool.and_eq_true] at s
    obtain ⟨cz, ez⟩ := h z (.head _)
    obtain ⟨cy, ey⟩ := h y (.tail _ (.head _))
    have l : cz ≤ cy := by
      have h1 := s.1
      rw [ey, ez] at h1
      have h2 : Spec.ltCps [cy] [cz] = false := (Bool.not_eq_true' _).mp h1
      simp [Spec.ltCps] at h2
      exact h2
    have fy : fstC y = cy := by rw [ey]; rfl
    have fz : fstC z = cz := by rw [ez]; rfl
    rcases List.mem_cons.mp hx with rfl | hx
    · omega
    · have := rising_le y r (fun x hx => h x (.tail _ hx)) s.2 x hx
      omega
theorem head_least {z y : Str} {r ys : List Str} (h : ∀ x ∈ y :: ys, ∃ c, x = oneS c) (pm : (z :: r).Perm (y :: ys)) (so : sortedS (z :: r) = true) : z = minS y ys := by
  have hz : ∀ x ∈ z :: r, ∃ c, x = oneS c := fun x hx => h x (pm.mem_iff.mp hx)
  have so : risingS z r = true := so
  have h1 := rising_le z r hz so
  have h2 := minS_le y ys h
  have m := minS_mem y ys
  have l1 : fstC (minS y ys) ≤ fstC z := h2 z (pm.mem_iff.mp (.head _))
  have l2 : fstC z ≤ fstC (minS y ys) := by
    rcases List.mem_cons.mp (pm.mem_iff.mpr m) with e | e
    · rw [e]
      exact Nat.le_refl _
    · exact h1 _ e
  obtain ⟨c1, e1⟩ := hz z (.head _)
  obtain ⟨c2, e2⟩ := h _ m
  have f1 : fstC z = c1 := by rw [e1]; rfl
  have f2 : fstC (minS y ys) = c2 := by rw [e2]; rfl
  rw [e1, e2]
  congr 1
  omega
/-! ### for target in enumerate(xs) -/
theorem xs_forEnG {g : TG} (hl : XV K W tl Δ (.d (.list xs))) (Inv : Nat → Env → Prop) (h0 : Inv 0 Δ)
    (hs : ∀ i x Δ1, xs[i]? = some x → Inv i Δ1 → ∃ Δ2, GX K W g (.d (.tuple [.int (i : Int), x])) Δ1 Δ2 ∧ XS K W ts Δ2 (Inv (i + 1)) Rt N (Inv (i + 1))) (hd : ∀ Δ1, Inv xs.length Δ1 → N Δ1) :
    XS K W (tFor (iEnum K (tCons tl tNil)) g ts) Δ N Rt Bk Ct := by
  intro σ H j s D nx rt bk ct
  unfold tFor iEnum
  refine (xa_cons hl xa_nil) σ H j s _ fun us H1 as f1 e ia => ?_
  subst e
  cases ia with
  | cons ia ib =>
    cases ib
    cases ia with
    | lst h1 d1 =>
      rename_i p vs
      have m : ¬ W.M p := fun m => by rw [hid_in m] at h1; cases h1
      have h1' := h1
      rw [hid_out m] at h1'
      have ga : ∀ H2, Fr W H1 H2 → SqL K H2 p vs := fun H2 f => .inl (.inl (f.keep p _ m h1'))
      refine ⟨p, vs, rfl, ga H1 (.refl f1.j), ?_⟩
      refine ⟨fun i k σ2 H2 => k = xs.length - i ∧ i ≤ xs.length ∧ ∃ Δ2, Fr W H1 H2 ∧ StOk K W.M H2 σ2 Δ2 ∧ Inv i Δ2, ⟨xs.length, (Nat.sub_zero _).symm, Nat.zero_le _, Δ, .refl f1.j, s.fr f1, h0⟩, ?_⟩
      rintro i k σ2 H2 ⟨rfl, hi, Δ2, f2, s2, v2⟩
      have len := d1.length
      by_cases l : i < xs.length
      · obtain ⟨v, hv, dv⟩ := d1.get (List.getElem?_eq_getElem l)
        refine .inr ⟨⟨vs, v, ga H2 f2, hv⟩, fun σ3 H3 => ∃ Δ3, Fr W H1 H3 ∧ StOk K W.M H3 σ3 Δ3 ∧ Inv (i + 1) Δ3, ?_, ?_⟩
        · rintro σ3 H3 ⟨Δ3, f3, s3, v3⟩
          exact ⟨xs.length - (i + 1), by omega, rfl, l, Δ3, f3, s3, v3⟩
        · rintro y H3 ⟨T, x, rfl, nT, rfl, hx⟩
          have ex := hx vs (ga H2 f2)
          rw [hv] at ex
          cases ex
          have f3 : Fr W H2 (upd H2 T (.tup [.int (i : Nat), v])) := .new f2.j nT
          have iT : Is K W.M (upd H2 T (.tup [.int (i : Nat), v])) (.ref T) (.d (.tuple [.int (i : Int), xs[i]])) := Dt.tup (.inl (.inl (hid_new f2.j nT))) (.cons (.int _) (.cons (Dt.ext (f2.trans f3).same _ _ dv) .nil))
          obtain ⟨Δ4, gx, hb⟩ := hs i xs[i] Δ2 (List.getElem?_eq_getElem l) v2
          refine gx (.ref T) σ2 _ f3.j (s2.fr f3) iT _ fun σ4 H4 f4 s4 => ?_
          have f := (f2.trans f3).trans f4
          exact hb σ4 H4 f4.j s4 _ (fun σ5 H5 Δ5 f5 s5 n5 => ⟨Δ5, f.trans f5, s5, n5⟩) (fun v H5 a f5 => rt v H5 a (f1.trans (f.trans f5)))
            (fun σ5 H5 Δ5 f5 s5 n5 => nx σ5 H5 Δ5 (f1.trans (f.trans f5)) s5 n5) (fun σ5 H5 Δ5 f5 s5 n5 => ⟨Δ5, f.trans f5, s5, n5⟩)
      · obtain rfl : i = xs.length := by omega
        exact .inl ⟨⟨vs, ga H2 f2, by omega⟩, nx σ2 H2 Δ2 (f1.trans f2) s2 (hd Δ2 v2)⟩
/-- a, (b, c) = .. -/
theorem gx_in2 {i j k : Nat} {a x y : PyData} : GX K W (gTup K 2 (gCons (gName i) (gCons (gTup K 2 (gCons (gName j) (gCons (gName k) gNil))) gNil))) (.d (.tuple [a, .tuple [x, y]])) Δ (((Δ.set i (some (.d a))).set j (some (.d x))).set k (some (.d y))) := fun v σ H jj s ii Q q => by
  cases ii with
  | tup h1 d1 =>
    cases d1 with
    | cons da d2 =>
      cases d2 with
      | cons dxy d3 =>
        cases d3
        cases dxy with
        | tup h2 d4 =>
          cases d4 with
          | cons dx d5 =>
            cases d5 with
            | cons dy d6 =>
              cases d6
              exact ⟨_, _, rfl, sqT_same hid_le h1, rfl, _, _, rfl, _, _, rfl, ⟨_, _, rfl, sqT_same hid_le h2, rfl, _, _, rfl, _, _, rfl, rfl, rfl, q _ H (.refl jj) (((s.set (a := .d a) i da).set (a := .d x) j dx).set (a := .d y) k dy)⟩⟩
end
/-! ### o.m(..) in a try's body, o of the fragment -/
section
variable {γ T : Type} {K : PySem.W.Frag} {W : Wd} {H0 H H' : Hp} {S S' : Frg} {x dx : Addr} {σ : L2.St} {Δ : Env} {te : TE} {ta : TA}
theorem fs_methE {C : Addr} {oo : Addr → T → HO} {pre : γ → T → List A → Prop} {post : γ → T → T → A → Prop} {postX : γ → T → T → Prop} {E : L2.St → XK} {t0 : T} (g : γ) {Cl : Addr} {m : Str} {as : List A} (s : FS K W H0 H σ Δ S) (h : (x, oo dx t0) ∈ S) (hv : XV K (W.fix S) te Δ (.v (.ref x))) (ho : ∀ t, ∃ fs, oo dx t = .ins Cl dx fs ∧ fs.lookup m = none) (ha : XAs K (W.fix S) ta Δ as) (p : pre g t0 as) {Q : VK}
    (q : ∀ v H' t a, post g t0 t a → FS K W H0 H' σ Δ (S.put x (oo dx t)) → Gr W H S H' (S.put x (oo dx t)) → Is K (W.fix (S.put x (oo dx t))).M H' v a → Q v H')
    (qx : ∀ H' t, postX g t0 t → FS K W H0 H' σ Δ (S.put x (oo dx t)) → Gr W H S H' (S.put x (oo dx t)) → E σ (.ref C) none H') : tMethE Cl m (spO K C oo pre post postX) E te ta σ H Q :=
  s.in hv fun v H1 a e s1 g1 i1 => by
    subst e
    have e : v = .ref x := i1
    subst e
    obtain ⟨fs, eo, el⟩ := ho t0
    refine ⟨x, dx, fs, rfl, by rw [s1.f.j.2 _ h, eo], el, ?_⟩
    refine ha σ H1 s1.f.j s1.st _ fun vs H2 as' f2 e i2 => ?_
    subst e
    have hx : (W.fix S).M x := .inr ⟨_, h, rfl⟩
    have s2 := s1.go f2
    refine ⟨g, T, SW.free (W.fix S) x (oo dx) t0 hx, t0, x, dx, fun t => t, fun _ t => t, as', free_j hx s2.f.j (s2.f.j.2 _ h), hasObj_free hx, p, .cons rfl i2, fun v H' t a f r i => ?_, fun H' t f z => ?_⟩
    · exact q v H' t a r (s2.to (s2.f.obj h hx f) (gr_obj hx f)) (gr_trans (gr_trans g1 f2.same) (gr_obj hx f)) (by rw [fix_M (put_dom S x (oo dx t))]; exact i)
    · exact qx H' t z (s2.to (s2.f.obj h hx f) (gr_obj hx f)) (gr_trans (gr_trans g1 f2.same) (gr_obj hx f))
end
end V2

set_option Elab.async false
set_option linter.all false
set_option maxRecDepth 100000
set_option maxHeartbeats 2000000
namespace V2
open PySem PySem.Spec PyProof.Rows L2
theorem paired_at {α β : Type} {R : α → β → Prop} : ∀ {l : List α} {m : List β} {i : Nat} {q : β}, Paired R l m → m[i]? = some q → ∃ p, l[i]? = some p ∧ R p q
  | _, _, i, q, .nil, h => by simp at h
  | _, _, 0, q, .cons r _, h => by simp at h; subst h; exact ⟨_, rfl, r⟩
  | _, _, i + 1, q, .cons _ t, h => by
    obtain ⟨p, h1, h2⟩ := paired_at (i := i) t (by simpa using h)
    exact ⟨p, by simpa using h1, h2⟩
/-! ### d.values(), and list(..) of it -/
def valsO (p d : Addr) : HO := .ext fun h => h.IsValuesView p d
def rVals : V → List V → Hp → VK → Prop := fun x xs H Q => ∃ (a : Addr) (kvs : List (Key × V)), x = .ref a ∧ xs = [] ∧ H a = some (.dK kvs) ∧ ∀ p, H p = none → Q (.ref p) (upd H p (valsO p a))
def kLstV (x : V) (H : Hp) (Q : VK) : Prop := ∃ (p d : Addr) (kvs : List (Key × V)), x = .ref p ∧ H p = some (valsO p d) ∧ H d = some (.dK kvs) ∧ ∀ q, H q = none → Q (.ref q) (upd H q (.lst (kvs.map (·.2))))
section
variable {X : Cx}
theorem mt_values : MtR X "dict.values" rVals := by
  intro pins s σ H x vs v us Q I rx rv h
  obtain ⟨a, kvs, ex, ev, e, q⟩ := h
  subst ex
  subst ev
  obtain rfl : v = Value.ref a := rx
  cases rv
  obtain ⟨z, hd, ws, rel, dd⟩ := dk_of I.hok e
  refine call_meetsIn PySem.F.slot_dict_values dd.typeIs PySem.F.entry_dict_values (PySem.F.args_dict_values_1 _) (meets_dict_values (mixKind X.prog X.w) a hd) ⟨⟨ws, dd⟩, ?_⟩
  have g := Heap.get?_push_size s.heap (o := { cls := Value.type "dict_values", data := Data.fields #[Value.ref a] }) rfl
  exact ⟨.ref s.heap.objs.size, upd H s.heap.objs.size (valsO s.heap.objs.size a), I.laid (t' := s.toks) (fun b u e => Heap.get?_push_of_some _ e) (Nat.le_refl _) ⟨⟨_, g, rfl, rfl⟩, ⟨_, g⟩, fun h1 h2 ⟨o, e1, e2, e3⟩ k => ⟨o, k o e1, e2, e3⟩⟩, rfl, q _ (I.hok.fresh (Nat.le_refl _))⟩
theorem rl_listV (hc : X.calm = true) (pins : List (Addr × Obj)) (s : Shared) (σ : L2.St) (H : Hp) (x : V) (v : Value) (Q : VK) (I : Inv X pins σ H s) (r : RelV x v) (h : kLstV x H Q) :
    wpAny (model X.prog X.w) X.A (call (.type "list") [v]) (EP X pins σ Q) X.xe s := by
  obtain ⟨p, d, kvs, rfl, hp, hd, q⟩ := h
  obtain rfl : v = Value.ref p := r
  obtain ⟨z, hsy, ws, rel, dd⟩ := dk_of I.hok hd
  have hv : s.heap.IsValuesView p d := (I.hok p _ hp).1
  obtain ⟨o, es, ep, g1, g2, g3, g4, g5, g6⟩ := dd
  refine PySem.W.kdl_call (PySem.W.kdl_values (knd := mixKind X.prog X.w) (kvs := ws) (ep := ep)) (I.ok.hd hc) ⟨hv, o, es, g1, g2, g3, g4, g5, g6⟩ (by rw [← rel.length]; exact z) fun h' tk acc c' hk e hi => ?_
  refine ⟨.ref s.heap.objs.size, upd H s.heap.objs.size (.lst (kvs.map (·.2))), I.laid hk (Nat.le_refl _) ⟨by rw [List.length_map]; exact z, acc.toList, c', ?_, by rw [Array.toArray_toList]; exact e⟩, rfl, q _ (I.hok.fresh (Nat.le_refl _))⟩
  refine vals_of_idx _ _ (by rw [List.length_map, Array.length_toList, rel.length]; exact hi.1) fun j u hj => ?_
  obtain ⟨k, hk2⟩ := hi.2 j u (by rw [← Array.getElem?_toList]; exact hj)
  obtain ⟨kv, h1, h2, h3⟩ := paired_at rel hk2
  exact ⟨kv.2, by rw [List.getElem?_map, h1]; rfl, h3⟩
theorem pe_listOfV {a : Expr} {ta : TE} {p pos : Pos} (hc : X.calm = true) (hg : Gl X "list") (hm : X.mg "list" = none) (ha : PE X a ta) (na : starEach [a] X.env = (false, eval a X.env) :: starEach [] X.env := by rfl) :
    PE X (.Call (.Name "list" p) [a] [] pos) (tThenZ ta kLstV) := pe_callTy (call_r1 (rl_listV hc)) hg hm (by decide +kernel) (pa_cons ha pa_nil na) (he := na)
end
section
variable {K : PySem.W.Frag} {W : Wd} {Δ : Env} {te : TE}
theorem xe_listVals {kvs : List (Str × Str)} (h : XV K W te Δ (.d (KD kvs))) : XV K W (tThenZ (tBM0 K "dict" rVals te) kLstV) Δ (.d (.list (kvs.map fun p => PyData.str p.2))) := fun σ H j s Q q =>
  h σ H j s _ fun v H1 a f1 e i => by
    subst e
    cases i with
    | dct hd hk =>
      rename_i d es
      obtain rfl := dtkv_is hk
      have hd' := hid_le _ _ hd
      refine ⟨.inr (.inr (.inl ⟨rfl, .inl ⟨_, hd'⟩⟩)), d, _, rfl, rfl, hd', fun p np => ?_⟩
      have f2 : Fr W H1 (upd H1 p (valsO p d)) := .new f1.j np
      refine ⟨p, d, KV2 kvs, rfl, upd_same, by rw [upd_ne (ne_of_none hd' np)]; exact hd', fun q' nq => ?_⟩
      have f3 := f2.trans (.new (o := .lst ((KV2 kvs).map (·.2))) f2.j nq)
      refine q (.ref q') _ _ (f1.trans f3) rfl (Dt.lst (hid_new f2.j nq) ?_)
      have e : (kvs.map fun p => PyData.str p.2) = (kvs.map (·.2)).map PyData.str := by rw [List.map_map]; rfl
      have ev : (KV2 kvs).map (·.2) = (kvs.map (·.2)).map V.str := by unfold KV2; rw [List.map_map, List.map_map]; rfl
      rw [e, ev]
      exact dts_strs' _
end
section
variable {K : PySem.W.Frag} {W : Wd} {Δ : Env} {te : TE} {tt : TT}
theorem xt_BR {B : Bool → Prop} (h : XE K W te Δ fun a => ∃ b, a = .d (.bool b) ∧ B b) : XT K W (tB te) Δ B := fun σ H j s Q q =>
  h σ H j s _ fun v H1 a f ⟨b, e, hb⟩ i => by
    subst e
    cases i
    exact ⟨b, rfl, q b H1 f hb⟩
theorem xt_notR {B C : Bool → Prop} (h : XT K W tt Δ B) (m : ∀ b, B b → C (!b)) : XT K W (tNot tt) Δ C := fun σ H j s Q q =>
  h σ H j s _ fun b H1 f hb => q (!b) H1 f (m b hb)
end
end V2

set_option Elab.async false
set_option linter.all false
set_option maxRecDepth 100000
set_option maxHeartbeats 4000000
namespace V2
open PySem PySem.Spec PyProof.Rows L2
/-! ### dict comprehensions whose keys are tuples -/
theorem d_dictSetT {X : Cx} {pins : List (Addr × Obj)} {σ : L2.St} {H : Hp} {s : Shared} {E : Value → Shared → Prop} {D b : Addr} {kvs : List (List Key × V)} {k : List Key} {v : V} {r : Value} {Q : Unit → Shared → Prop} (hu : X.A.units < cLine) (I : L2.Inv X pins σ H s) (hD : H D = some (.dT kvs)) (hb : H b = some (.tup (k.map kV))) (sz : kvs.length < sizeLine) (rv : RelV v r)
    (q : ∀ s' : Shared, L2.Inv X pins σ (upd H D (.dT (putK kvs k v))) s' → Q () s') : wpAny (model X.prog X.w) X.A (dictSet D (.ref b) r) Q E s := by
  obtain ⟨_, nsy, xs, kt, dd⟩ := dt_of I.hok hD
  have lx : xs.length ≤ sizeLine := by rw [← Paired.length kt]; exact Nat.le_of_lt sz
  refine wpAny_dictSet_heap (knd := tupleKind (mixKind X.prog X.w)) hu (key_of I.hok hb) dd (fun h' dd' sb => ?_) lx
  have dd2 := dd'
  obtain ⟨o, es, ep, g1, g2, g3, g4, g5, g6⟩ := dd'
  have lp : (putK kvs k v).length ≤ sizeLine := Nat.le_trans (length_putK kvs k v) sz
  have kp : KT (upd H D (.dT (putK kvs k v))) (putK kvs k v) (storedH xs k b r) := (kt.put k hb rv).keeps fun c ys e => by rw [upd_ne (ne_of e hD (by intro z; cases z))]; exact e
  exact q _ (d_write (t' := s.toks + (tupleKind (mixKind X.prog X.w)).draws k) I (by rw [hD]; exact True.intro) sb ⟨o, g1⟩ ⟨lp, nsy, _, kp, o, es, ep, g1, g2, g3, g4, g6⟩)
def tDcT (wi : TI) (g : TG) (tt : TT) (tk tv : TE) (vs : List Nat) : TE := fun σ H Q => wi σ H fun J H1 => ∀ D, H1 D = none → ∃ W : Nat → Nat → Hp → Prop, (∃ m, W 0 m (upd H1 D (.dT []))) ∧ ∀ i m H, W i m H → (J.stop i H ∧ Q (.ref D) H) ∨ (J.go i H ∧ ∃ Nx : Hp → Prop, (∀ H', Nx H' → ∃ m', m' < m ∧ W (i + 1) m' H') ∧
  ∀ x H', J.yld i H x H' → g x (wipe σ vs) H' fun σ2 H2 => wipe σ2 vs = wipe σ vs ∧ tt σ2 H2 fun b H3 => if b = true then tk σ2 H3 fun y H4 => tv σ2 H4 fun z H5 => ∃ kvs k c, y = .ref c ∧ H5 c = some (.tup (List.map kV k)) ∧ H5 D = some (.dT kvs) ∧ kvs.length < sizeLine ∧ Nx (upd H5 D (.dT (putK kvs k z))) else Nx H3)
theorem dc_coreT {X : Cx} {pins : List (Addr × Obj)} {s : Shared} {σ : L2.St} {H : Hp} {Q : VK} {kx vx tg iter : Expr} {ifs : List Expr} {scope : Scope} {own : List (Str × Nat)} {pos pos' : Pos} {wi : TI} {g : TG} {tt : TT} {tk tv : TE} {use : Option (Value → Sem Unit)} {Qf : Value → Shared → Prop} (hu : X.A.units < cLine) (hc : X.calm = true) (hN : X.N.Nodup) (I : L2.Inv X pins σ H s) (hi : PI X tg iter wi) (ok : BlkOk X.N X.env.scope scope own)
    (hg : ∀ (s : Shared) (H : Hp) (C : Addr) (cl : List (Str × Addr)) (fp : List Addr), PG (X.blk s H scope (compEnvC scope cl C X.env) fp) tg g) (ht : ∀ (s : Shared) (H : Hp) (C : Addr) (cl : List (Str × Addr)) (fp : List Addr), PTs (X.blk s H scope (compEnvC scope cl C X.env) fp) ifs tt)
    (hk : ∀ (s : Shared) (H : Hp) (C : Addr) (cl : List (Str × Addr)) (fp : List Addr), PE (X.blk s H scope (compEnvC scope cl C X.env) fp) kx tk)
    (he : ∀ (s : Shared) (H : Hp) (C : Addr) (cl : List (Str × Addr)) (fp : List Addr), PE (X.blk s H scope (compEnvC scope cl C X.env) fp) vx tv) (hs : ∀ x, foldedSetIterable iter X.env x = pure x)
    (h : tDcT wi g tt tk tv (own.map (·.2)) σ H Q)
    (hR : ∀ (D C : Addr) (s' : Shared) (m : Str → Option Value) (H' : Hp), L2.Inv X pins σ H' s' → Q (.ref D) H' → s'.heap.Ns C m → FpOk X pins H' C → compPost (model X.prog X.w) X.A X.xe use Qf (.ref D) C (.ok .next) s') :
    wpAny (model X.prog X.w) X.A (comprehension (.DictComp kx vx [⟨tg, iter, ifs, 0⟩] scope pos) scope X.env pos' newDict false (eval iter X.env) use) Qf X.xe s := by
  have hfree : ∀ y : Str × NameKind, y ∈ scope.names → y.2 = .free → ∃ c, X.env.cells.lookup y.1 = some c := fun y hy e => (ok.free y hy e).elim (fun k => I.ok.has y.1 (.inl k)) fun k => I.ok.has y.1 (.inr k)
  refine wpAny_comprehension_free rfl hs (closure_ok hfree) ok.kind (fun y hy e => by rw [ok.uniq y hy, e]) ?_
  refine thn (hi.run pins s σ H _ I h) fun xv s1 hx => ?_
  refine thn hx fun itv s2 h2 => ?_
  obtain ⟨it, fp, tn, J, H2, rfl, I2, T, st2, f2, q⟩ := h2
  refine wpAny_newObj_type (newEnv_comp ?_)
  have hDn := I2.hok.fresh (Nat.le_refl s2.heap.objs.size)
  obtain ⟨W, ⟨m0, w0⟩, turn⟩ := q s2.heap.objs.size hDn
  generalize hD : s2.heap.objs.size = D at hDn w0 turn
  generalize hs3 : ({ heap := s2.heap.push { cls := Value.type "dict", data := Data.dict #[] }, gens := s2.gens, drawn := s2.drawn, toks := s2.toks, os := s2.os } : Shared) = s3
  have h3 : s3.heap = s2.heap.push { cls := Value.type "dict", data := Data.dict #[] } := by rw [← hs3]
  generalize hH3 : upd H2 D (.dT []) = H3 at w0
  have I3 : L2.Inv X pins σ H3 s3 := by
    rw [← hs3, ← hH3, ← hD]
    exact I2.laid (fun b o e => Heap.get?_push_of_some _ e) (Nat.le_refl _) (dt_empty s2.heap I2.big)
  have sz : ∀ b ∈ fp, b < s2.heap.objs.size := fun b hb => by
    obtain ⟨o, e, _⟩ := T.obj 0 _ st2 b hb
    exact Heap.lt_size e
  have f3 : ∀ b ∈ fp, FpOk X pins H3 b ∧ b < s3.heap.objs.size := fun b hb => by
    have l := sz b hb
    obtain ⟨a1, a2⟩ := f2 b hb
    refine ⟨⟨?_, a2⟩, by rw [h3, Heap.size_push]; exact Nat.lt_succ_of_lt l⟩
    rw [← hH3, upd_ne (fun z => by rw [z, ← hD] at l; exact Nat.lt_irrefl _ l)]
    exact a1
  have st3 : tn 0 s3.heap := T.keep 0 _ _ st2 fun b _ o e => by rw [h3]; exact Heap.get?_push_of_some _ e
  have I4 := block_start I3 ok hN f3
  generalize hce : compEnvC scope (cellsFrom (s3.heap.objs.size + 1) scope.names (cloFrom X.env.cells scope.names [])) s3.heap.objs.size X.env = ce at I4
  have pg : PG (X.blk s3 H3 scope ce fp) tg g := by rw [← hce]; exact hg s3 H3 _ _ fp
  have pt : PTs (X.blk s3 H3 scope ce fp) ifs tt := by rw [← hce]; exact ht s3 H3 _ _ fp
  have pk : PE (X.blk s3 H3 scope ce fp) kx tk := by rw [← hce]; exact hk s3 H3 _ _ fp
  have pe : PE (X.blk s3 H3 scope ce fp) vx tv := by rw [← hce]; exact he s3 H3 _ _ fp
  have cL : ce.locals = s3.heap.objs.size := by rw [← hce]; rfl
  generalize hs4 : ({ heap := pushCells (s3.heap.push { cls := Value.type "dict", data := Data.dict #[] }) scope.names, gens := s3.gens, drawn := s3.drawn, toks := s3.toks, os := s3.os } : Shared) = s4 at I4
  have st4 : tn 0 s4.heap := T.keep 0 _ _ st3 fun b _ o e => by rw [← hs4]; exact pushCells_keeps _ _ b o (Heap.get?_push_of_some _ e)
  have stat : ∀ {σ' : L2.St} {H' : Hp} {s' : Shared}, L2.Inv (X.blk s3 H3 scope ce fp) [] σ' H' s' → (∀ b ∈ fp, H' b = none) → ∀ b ∈ fp, FpOk (X.blk s3 H3 scope ce fp) [] H' b := fun {σ' H' s'} I' hn b hb => ⟨hn b hb, (I'.ok.exf b hb).1, I'.ok.exfs b hb, .inl hb, fun x c e => (I'.ok.exf b hb).2 x c e, fun p hp => by simp at hp⟩
  have n3 : ∀ b ∈ fp, H3 b = none := fun b hb => (f3 b hb).1.1
  have loop : codeAny (model X.prog X.w) X.A (Code.compLoop (.DictComp kx vx [⟨tg, iter, ifs, 0⟩] scope pos) 0 (.ref it) (.ref D) ce) (compPost (model X.prog X.w) X.A X.xe use Qf (.ref D) s3.heap.objs.size) s4 := by
    refine compLoop_anyD (fun n s' => ∃ i H', L2.Inv (X.blk s3 H3 scope ce fp) [] (wipe σ (own.map (·.2))) H' s' ∧ tn i s'.heap ∧ (∀ b ∈ fp, H' b = none) ∧ W i n H') ?_ m0 ⟨0, H3, I4, st4, n3, w0⟩
    rintro n s5 ⟨i, H5, I5, st5, n5, w5⟩
    rcases turn i n H5 w5 with ⟨stop, qq⟩ | ⟨go, Nx, hNx, step⟩
    · refine thnF (T.done (X.blk s3 H3 scope ce fp) rfl rfl rfl hc i [] s5 _ H5 _ I5 (stat I5 n5) st5 stop) fun r s6 ⟨er, I6⟩ => ?_
      subst er
      have I7 : L2.Inv X pins σ H5 s6 := I3.call' (ch := fp) I6.os I6.base I6.hok I6.bare fun b hb => by
        obtain ⟨_, a1, a2, a3, a4, a5⟩ := (f3 b hb).1
        exact ⟨a3, a1, a4, a5⟩
      obtain ⟨m, hn, _⟩ := I6.loc
      have hn : s6.heap.Ns ce.locals m := hn
      rw [cL] at hn
      have nC : H5 s3.heap.objs.size = none := by
        have := I6.free
        have this : H5 ce.locals = none := this
        rwa [cL] at this
      exact hR D _ s6 m H5 I7 qq hn (I3.fpOk (Nat.le_refl _) nC)
    · refine thnF (T.item (X.blk s3 H3 scope ce fp) rfl rfl rfl hc i [] s5 _ H5 _ I5 (stat I5 n5) st5 go) fun r s6 ⟨u, er, h6⟩ => ?_
      subst er
      refine thnF h6 fun _ s7 ⟨x, H7, I7, rx, yl, st7, n7⟩ => ?_
      have I7' := I7.pinned (stat I7 n7) (T.obj _ _ st7)
      refine thnF (pg.run _ s7 _ H7 x u _ I7' rx (step x H7 yl)) fun _ s8 ⟨σ8, H8, I8, hw8, ht8⟩ => ?_
      refine thnF (pt.run _ s8 σ8 H8 _ I8 ht8) fun b s9 ⟨H9, I9, h9⟩ => ?_
      have fin : ∀ {s' : Shared} {H' : Hp}, L2.Inv (X.blk s3 H3 scope ce fp) ([] ++ pinsAt fp s7.heap) σ8 H' s' → Nx H' → ∃ m, m < n ∧ ∃ i H', L2.Inv (X.blk s3 H3 scope ce fp) [] (wipe σ (own.map (·.2))) H' s' ∧ tn i s'.heap ∧ (∀ b ∈ fp, H' b = none) ∧ W i m H' := fun {s' H'} I' nx => by
        obtain ⟨m', hm, w'⟩ := hNx H' nx
        have pin' : ∀ b ∈ fp, ∀ o, s7.heap.get? b = some o → s'.heap.get? b = some o ∧ H' b = none := fun b hb o e => by
          have := I'.pin (b, o) (List.mem_append_right _ (List.mem_append_right _ (mem_pinsAt hb e)))
          exact ⟨this.1, this.2.1⟩
        refine ⟨m', hm, i + 1, H', ?_, T.keep (i + 1) _ _ st7 fun b hb o e => (pin' b hb o e).1, fun b hb => ?_, w'⟩
        · rw [← hw8]
          exact I'.unpinned.weak (wipe_length _ _) fun j v e => (wipe_some e).1
        · obtain ⟨o, e, _⟩ := T.obj _ _ st7 b hb
          exact (pin' b hb o e).2
      cases b with
      | false => exact fin I9 h9
      | true =>
        refine thnF (pk.run _ s9 σ8 H9 _ I9 h9) fun kv s10 ⟨y, H10, I10, ry, h10⟩ => ?_
        refine thnF (pe.run _ s10 σ8 H10 _ I10 h10) fun vv s11 ⟨z, H11, I11, rz, kvs, k, c, ey, hb, hDD, sz', nx⟩ => ?_
        subst ey
        have ry : kv = .ref c := ry
        subst ry
        exact d_dictSetT (X := X.blk s3 H3 scope ce fp) hu I11 hDD hb sz' rz fun s12 I12 => fin I12 nx
  subst hce
  exact codeAny_compStart_dict loop (T.self X.A 0 s4 _ _ st4 loop)
section
variable {X : Cx} {kx vx tg iter : Expr} {ifs : List Expr} {scope : Scope} {own : List (Str × Nat)} {pos : Pos} {wi : TI} {g : TG} {tt : TT} {tk tv : TE}
theorem pe_dcT (hu : X.A.units < cLine) (hc : X.calm = true) (hN : X.N.Nodup) (hi : PI X tg iter wi) (ok : BlkOk X.N X.env.scope scope own)
    (hg : ∀ (s : Shared) (H : Hp) (C : Addr) (cl : List (Str × Addr)) (fp : List Addr), PG (X.blk s H scope (compEnvC scope cl C X.env) fp) tg g) (ht : ∀ (s : Shared) (H : Hp) (C : Addr) (cl : List (Str × Addr)) (fp : List Addr), PTs (X.blk s H scope (compEnvC scope cl C X.env) fp) ifs tt)
    (hk : ∀ (s : Shared) (H : Hp) (C : Addr) (cl : List (Str × Addr)) (fp : List Addr), PE (X.blk s H scope (compEnvC scope cl C X.env) fp) kx tk)
    (he : ∀ (s : Shared) (H : Hp) (C : Addr) (cl : List (Str × Addr)) (fp : List Addr), PE (X.blk s H scope (compEnvC scope cl C X.env) fp) vx tv) (hs : ∀ x, foldedSetIterable iter X.env x = pure x := by intro _; rfl) :
    PE X (.DictComp kx vx [⟨tg, iter, ifs, 0⟩] scope pos) (tDcT wi g tt tk tv (own.map (·.2))) := by
  refine ⟨fun pins s σ H Q I h => ?_⟩
  show wpAny _ X.A (comprehension (.DictComp kx vx [⟨tg, iter, ifs, 0⟩] scope pos) scope X.env (firstIterPos [⟨tg, iter, ifs, 0⟩] pos) newDict false (eval iter X.env) none) _ _ s
  refine dc_coreT hu hc hN I hi ok hg ht hk he hs h fun D C s' m H' I' q hn f => ⟨m, hn, fun h' sb => ?_⟩
  obtain ⟨f0, f1, f2, f3, f4, f5⟩ := f
  exact ⟨.ref D, H', I'.turned (t' := s'.toks) (fun b o hb e => (sb.2 b hb).trans e) f0 f1 f3 f4 f5, rfl, q⟩
theorem ps_setDcT {i : Nat} {y : Str} {py spos : Pos} (hu : X.A.units < cLine) (hc : X.calm = true) (hN : X.N.Nodup) (hy : X.N[i]? = some y) (hyl : X.env.scope.names.lookup y = some .local)
    (hsw : swapsWith (.DictComp kx vx [⟨tg, iter, ifs, 0⟩] scope pos) (some (.Name y py)) spos.line X.env = pure true) (hi : PI X tg iter wi) (ok : BlkOk X.N X.env.scope scope own)
    (hg : ∀ (s : Shared) (H : Hp) (C : Addr) (cl : List (Str × Addr)) (fp : List Addr), PG (X.blk s H scope (compEnvC scope cl C X.env) fp) tg g) (ht : ∀ (s : Shared) (H : Hp) (C : Addr) (cl : List (Str × Addr)) (fp : List Addr), PTs (X.blk s H scope (compEnvC scope cl C X.env) fp) ifs tt)
    (hk : ∀ (s : Shared) (H : Hp) (C : Addr) (cl : List (Str × Addr)) (fp : List Addr), PE (X.blk s H scope (compEnvC scope cl C X.env) fp) kx tk)
    (he : ∀ (s : Shared) (H : Hp) (C : Addr) (cl : List (Str × Addr)) (fp : List Addr), PE (X.blk s H scope (compEnvC scope cl C X.env) fp) vx tv) (hs : ∀ x, foldedSetIterable iter X.env x = pure x := by intro _; rfl) :
    PS X (.Assign [.Name y py] (.DictComp kx vx [⟨tg, iter, ifs, 0⟩] scope pos) spos) (tAsg (tDcT wi g tt tk tv (own.map (·.2))) (gName i)) := by
  refine ⟨fun pins s σ H D I h => ?_⟩
  rw [exec_Assign_Name_used _ _ _ _ hsw]
  refine wpAny_bind (wpAny_standAt (wpAny_bind ?_))
  show wpAny _ X.A (do let _ ← comprehension (.DictComp kx vx [⟨tg, iter, ifs, 0⟩] scope pos) scope X.env (firstIterPos [⟨tg, iter, ifs, 0⟩] pos) newDict false (eval iter X.env) (some (assign (.Name y py) X.env))) _ _ s
  have h : tDcT wi g tt tk tv (own.map (·.2)) σ H (fun x H1 => gName i x σ H1 D.nx) := h
  refine wpAny_bind (thn (dc_coreT (Qf := fun _ s' => SP X pins D .next s') hu hc hN I hi ok hg ht hk he hs h fun L C s' m H' I' q hn f => ?_) fun _ s' hq => wpAny_pure (wpAny_pure hq))
  show wpAny _ _ (assign (.Name y py) X.env (.ref L)) _ _ _
  refine wpAny_assign_Name (store_ok2 (v := V.ref L) I' hN hy (.inl hyl) rfl (fun s2 I2 ⟨a, sb, ha⟩ => ?_) (.inr hyl))
  obtain ⟨f0, f1, f2, f3, f4, f5⟩ := f
  have haC : C ≠ a := by
    rcases ha with z | z
    · rw [z]; exact f1
    · exact fun e => f4 y a z e.symm
  refine ⟨m, hn.sameBut sb haC, fun h3 sb3 => ?_⟩
  exact ⟨_, H', I2.turned (t' := s2.toks) (fun b o hb e => (sb3.2 b hb).trans e) f0 f1 f3 f4 f5, q⟩
end
/-! ### d.pop(key, default), a dict whose keys are texts or numbers -/
def rPopK : V → List V → Hp → VK → Prop := fun x xs H Q => ∃ (a : Addr) (kvs : List (Key × V)) (k : Key) (d : V), x = .ref a ∧ xs = [kV k, d] ∧ H a = some (.dK kvs) ∧ (∀ v, valV kvs k = some v → Q v (upd H a (.dK (dropK kvs k)))) ∧ (valV kvs k = none → Q d H)
theorem mt_popK {X : Cx} : MtR X "dict.pop" rPopK := by
  intro pins s σ H x vs v us Q I rx rv h
  obtain ⟨a, kvs, k, d, ex, ev, e, q1, q2⟩ := h
  subst ex
  subst ev
  obtain rfl : v = Value.ref a := rx
  cases rv with
  | @cons _ u _ us' r1 r2 =>
    cases r2 with
    | @cons _ u2 _ us2 r2 r3 =>
      cases r3
      cases hv : valV kvs k with
      | none => exact d_popD I e r1 hv fun s' I' => ⟨d, H, I', r2, q2 hv⟩
      | some v => exact d_pop I e r1 hv (.inr ⟨_, rfl⟩) fun w s' I' rw' => ⟨v, _, I', rw', q1 v hv⟩
end V2

set_option Elab.async false
set_option linter.all false
set_option maxRecDepth 100000
set_option maxHeartbeats 2000000
namespace V2
open PySem PySem.Spec PyProof.Rows L2
/-! ### a, *b = t, t a tuple -/
theorem unpack_hdT {prog : Program} {w : World} {A : Around} {E : Value → Shared → Prop} {s : Shared} {l : Addr} {items : Array Value} {x : Value} {r : List Value} (ht : IsTup s.heap l items) (hi : items.toList = x :: r) (hh : A.handled = none) (sz : items.size ≤ sizeLine) {Q : List Value → Shared → Prop}
    (q : ∀ (h' : Heap) (tk : Nat), (∀ b o, s.heap.get? b = some o → h'.get? b = some o) → Q [x, .ref h'.objs.size] ⟨h'.push { cls := .type "list", data := .seq r.toArray }, s.gens, s.drawn, tk, s.os⟩) :
    wpAny (model prog w) A (unpackItems (.ref l) 2 (some 1)) Q E s := by
  have n1 : items.size = r.length + 1 := by rw [← Array.length_toList, hi]; rfl
  unfold unpackItems
  refine wpAny_bind ?_
  unfold notIterableAtAll
  refine wpAny_bind (wpAny_specialOf ht.typeIs slot_tuple_iter.lookup ?_)
  dsimp only [Option.isSome]
  rw [if_pos rfl]
  refine wpAny_pure ?_
  rw [if_neg (by decide)]
  refine wpAny_bind (wpAny_holding (iter_tuple ht ?_))
  obtain ⟨ot, e1, e2, e3⟩ := ht
  have hlt : l < s.heap.objs.size := Heap.lt_size e1
  have ne : l ≠ s.heap.objs.size := Nat.ne_of_lt hlt
  have ht : IsTup s.heap l items := ⟨ot, e1, e2, e3⟩
  generalize hI : s.heap.objs.size = I at ne hlt
  have gI : (s.heap.push { cls := Value.type "tuple_iterator", data := Data.fields #[Value.ref l, Value.int 0 0] }).get? I = some { cls := Value.type "tuple_iterator", data := Data.fields #[Value.ref l, Value.int 0 0] } := by rw [← hI]; exact Heap.get?_push_size s.heap rfl
  generalize hp : s.heap.push { cls := Value.type "tuple_iterator", data := Data.fields #[Value.ref l, Value.int 0 0] } = hp1 at gI
  have keep1 : ∀ b o, s.heap.get? b = some o → hp1.get? b = some o := fun b o e => by rw [← hp]; exact Heap.get?_push_of_some _ e
  have it1 : IsTupIter hp1 I l 0 := ⟨_, gI, rfl, rfl⟩
  have t1 : IsTup hp1 l items := ⟨ot, keep1 _ _ e1, e2, e3⟩
  refine wpAny_bind (wpAny_holding (draw_tuple ne 1 0 _ _ it1 t1 (by omega) fun h2 it2 sb2 => ?_))
  have f1 : List.take 1 (List.drop 0 items.toList) = [x] := by rw [hi]; rfl
  rw [f1]
  dsimp only
  rw [if_neg (show ¬ ([x] : List Value).length < 1 from Nat.lt_irrefl 1)]
  have keep2 : ∀ b o, b ≠ I → hp1.get? b = some o → h2.get? b = some o := fun b o nb e => (sb2.2 b nb).trans e
  have t2 : h2.IsTuple l items := ⟨ot, keep2 _ _ ne (keep1 _ _ e1), e2, e3⟩
  have l2 : l < h2.objs.size := by obtain ⟨o, e, _⟩ := t2; exact Heap.lt_size e
  have i2 : I < h2.objs.size := by obtain ⟨o, e, _⟩ := it2; exact Heap.lt_size e
  refine wpAny_bind (wpAny_holding (PySem.W.kun_collect (I := I) (ax := l) (k := 1) (items := items) (T := "tuple_iterator") (.inr (.inr (.inr rfl))) (Walks.tuple (A := A.in1) hh I l ne items) (fun i u hu => hu.1.typeIs) (by omega) ⟨it2, t2⟩ i2 l2 (fun h3 tk keep3 => ?_) sz))
  have f2 : List.drop 1 items.toList = r := by rw [hi]; rfl
  rw [f2]
  rw [if_neg (by show ¬ r.length < 0; exact Nat.not_lt_zero _)]
  have f3 : List.take (r.length - (2 - 1 - 1)) r = r := List.take_of_length_le (by show r.length ≤ r.length - 0; exact Nat.le_refl _)
  have f4 : List.drop (r.length - (2 - 1 - 1)) r = [] := List.drop_eq_nil_of_le (by show r.length ≤ r.length - 0; exact Nat.le_refl _)
  rw [f3, f4]
  refine wpAny_bind (wpAny_newList ?_ (by omega))
  refine wpAny_pure ?_
  have keep : ∀ b o, s.heap.get? b = some o → h3.get? b = some o := fun b o e => by
    have nb : b ≠ I := by rw [← hI]; exact Nat.ne_of_lt (Heap.lt_size e)
    exact keep3 b o nb (keep2 b o nb (keep1 b o e))
  exact q h3 tk keep
def gHd (K : PySem.W.Frag) (t : TGs) : TG := fun v σ H Q => ∃ (a : Addr) (x : V) (xs : List V), v = .ref a ∧ SqT K H a (x :: xs) ∧ xs.length ≤ 10000 ∧ ∀ D, H D = none → t [x, .ref D] σ (upd H D (.lst xs)) Q
theorem pg_hdT {X : Cx} {es : List PySem.Expr} {k : Nat} {pos : Pos} {t : TGs} (hc : X.calm = true) (hp : PGs X es t) (h2 : (assignEach es X.env).length = 2 := by rfl) (h1 : List.findIdx? (fun x => x.1) (assignEach es X.env) = some 1 := by rfl) : PG X (.Tuple es k pos) (gHd X.K t) := by
  refine ⟨fun pins s σ H v u Q I r h => ?_⟩
  obtain ⟨a, x, xs, rfl, sq, lx, q⟩ := h
  have r : u = .ref a := r
  subst r
  obtain ⟨o, its, n, g1, g2, g3, g4⟩ := sqT_at I sq
  cases hits : its.toList with
  | nil => rw [hits] at g4; cases g4
  | cons y ys =>
    rw [hits] at g4
    cases g4 with
    | cons rx rxs =>
      rw [arm_assign_Tuple]
      refine wpAny_bind (wpAny_standAt ?_)
      unfold unpack
      rw [h2, h1]
      have lz : its.size = ys.length + 1 := by rw [← Array.length_toList, hits]; rfl
      have ly : ys.length = xs.length := (Paired.length rxs).symm
      refine wpAny_bind (wpAny_holding (unpack_hdT ⟨o, g1, g2, n, g3⟩ hits (I.ok.hd hc) (Nat.le_trans (m := 10001) (by omega) (by decide)) fun h' tk keep => ?_))
      have I2 : L2.Inv X pins σ H ⟨h', s.gens, s.drawn, tk, s.os⟩ := I.kept keep
      have I3 := I2.laid (t' := tk) (o := .lst xs) (h' := h'.push { cls := .type "list", data := .seq ys.toArray }) (fun b u e => Heap.get?_push_of_some _ e) (Nat.le_refl _) ⟨Nat.le_trans lx (by decide), ys, _, rxs, Heap.get?_push_size h' rfl⟩
      exact hp.run pins _ σ _ _ _ _ I3 (.cons rx (.cons (show RelV (.ref h'.objs.size) (.ref h'.objs.size) from rfl) .nil)) (q _ (I2.hok.fresh (Nat.le_refl _)))
theorem pgs_star {X : Cx} {e : PySem.Expr} {p : Pos} {es : List PySem.Expr} {t : TG} {u : TGs} (h : PG X e t) (hs : PGs X es u) (e1 : List.map (fun x => x.2) (assignEach (e :: es) X.env) = assign e X.env :: List.map (fun x => x.2) (assignEach es X.env) := by rfl) (e2 : List.map (fun x => x.2) (assignEach (.Starred e p :: es) X.env) = assign e X.env :: List.map (fun x => x.2) (assignEach es X.env) := by rfl) : PGs X (.Starred e p :: es) (gCons t u) := by
  refine ⟨fun pins s σ H vs us Q I r q => ?_⟩
  have := (pgs_cons h hs e1).run pins s σ H vs us Q I r q
  rw [e1] at this
  rw [e2]
  exact this
section
variable {K : PySem.W.Frag} {W : Wd} {Δ : Env} {i j : Nat} {x : PyData} {xs : List PyData}
theorem gx_hd (l : xs.length ≤ 10000) : GX K W (gHd K (gCons (gName i) (gCons (gName j) gNil))) (.d (.tuple (x :: xs))) Δ ((Δ.set i (some (.d x))).set j (some (.d (.list xs)))) := fun v σ H jj s ii Q q => by
  cases ii with
  | tup h1 d1 =>
    cases d1 with
    | cons dx dxs =>
      rename_i a v1 vs
      refine ⟨_, v1, vs, rfl, sqT_same hid_le h1, by rw [dxs.length]; exact l, fun D nD => ⟨_, _, rfl, _, _, rfl, rfl, ?_⟩⟩
      have f : Fr W H (upd H D (.lst vs)) := .new jj nD
      exact q _ _ f (((s.fr f).set (a := .d x) i (Dt.ext f.same _ _ dx)).set (a := .d (.list xs)) j (Dt.lst (hid_new jj nD) (DtAll.ext f.same _ _ dxs)))
end
end V2

set_option Elab.async false
set_option linter.all false
set_option maxRecDepth 100000
set_option maxHeartbeats 2000000
namespace V2
open PySem PySem.Spec PyProof.Rows L2
/-! ### a walk over a list or a tuple -/
def iSeq (K : PySem.W.Frag) (tl : TE) : TI := fun σ H R => iList K tl σ H R ∨ iTup K tl σ H R
theorem pi_seq {X : Cx} {tg l : Expr} {tl : TE} (hl : PE X l tl) : PI X tg l (iSeq X.K tl) := ⟨fun pins s σ H R I h => h.elim ((pi_list hl).run pins s σ H R I) ((pi_tup hl).run pins s σ H R I)⟩
section
variable {K : PySem.W.Frag} {W : Wd} {Δ : Env} {ta tb tc te tl : TE} {R S T : A → Prop} {t : TA} {xs : List PyData}
theorem xi_seqL (h : XV K W tl Δ (.d (.list xs))) : XI K W (iSeq K tl) Δ (· = xs.length) fun i a => ∃ d, xs[i]? = some d ∧ a = .d d := fun σ H j s R q => .inl (xi_list h σ H j s R q)
theorem xi_seqT (h : XV K W tl Δ (.d (.tuple xs))) : XI K W (iSeq K tl) Δ (· = xs.length) fun i a => ∃ d, xs[i]? = some d ∧ a = .d d := fun σ H j s R q => .inr (xi_tup h σ H j s R q)
theorem xt_truL (h : XV K W te Δ (.d (.list xs))) : XB K W (tTruS K te) Δ (!xs.isEmpty) := fun σ H j s Q q =>
  h σ H j s _ fun v H1 a f e i => by
    subst e
    cases i with
    | lst h1 d1 => exact ⟨_, .inl ⟨_, .inl (.inl (hid_le _ _ h1)), rfl⟩, q _ H1 f (by cases d1 <;> rfl)⟩
theorem xe_notTL (h : XV K W te Δ (.d (.list xs))) : XV K W (tNotT K te) Δ (.d (.bool xs.isEmpty)) := fun σ H j s Q q =>
  h σ H j s _ fun v H1 a f e i => by
    subst e
    cases i with
    | lst h1 d1 =>
      refine ⟨_, .inl ⟨_, .inl (.inl (hid_le _ _ h1)), rfl⟩, ?_⟩
      rw [Bool.not_not]
      rename_i p vs
      have e : vs.isEmpty = xs.isEmpty := by cases d1 <;> rfl
      rw [e]
      exact q _ H1 _ f rfl (show Dt K _ (.bl xs.isEmpty) (.bool xs.isEmpty) from .bl _)
/-! ### data whose tuples are tracked -/
theorem TkAll.length {H : Hp} : ∀ {vs : List V} {ds : List PyData}, TkAll H vs ds → vs.length = ds.length
  | _, _, .nil => rfl
  | _, _, .cons _ q => congrArg (· + 1) q.length
theorem TkAll.get {H : Hp} : ∀ {vs : List V} {ds : List PyData} {i : Nat} {d : PyData}, TkAll H vs ds → ds[i]? = some d → ∃ v, vs[i]? = some v ∧ Tk H v d
  | _, _, i, d, .nil, h => by simp at h
  | _, _, 0, d, .cons h _, e => by simp at e; subst e; exact ⟨_, rfl, h⟩
  | _, _, i + 1, d, .cons _ q, e => by
    obtain ⟨v, h1, h2⟩ := TkAll.get (i := i) (d := d) q (by simpa using e)
    exact ⟨v, by simpa using h1, h2⟩
theorem TkAll.append {H : Hp} : ∀ {vs us : List V} {ds es : List PyData}, TkAll H vs ds → TkAll H us es → TkAll H (vs ++ us) (ds ++ es)
  | _, _, _, _, .nil, s => s
  | _, _, _, _, .cons r t, s => .cons r (TkAll.append t s)
theorem Is.td {M : Addr → Prop} {H : Hp} {v : V} {x : PyData} (h : Is K M H v (.t x)) : Is K M H v (.d x) := Tk.dt x v h
theorem xe_td {x : PyData} (h : XV K W te Δ (.t x)) : XV K W te Δ (.d x) := fun σ H j s Q q => h σ H j s Q fun v H1 a f e i => by
  subst e
  exact q v H1 _ f rfl (Is.td i)
theorem Tk.ofFlat {H : Hp} {d : PyData} (f : V2.flat d = true) : Tk H (vOf d) d := by
  cases d <;> first | constructor | (simp [V2.flat] at f)
theorem xe_tf {d : PyData} (h : XV K W te Δ (.d d)) (f : flat d = true) : XV K W te Δ (.t d) := fun σ H j s Q q => h σ H j s Q fun v H1 a f1 e i => by
  subst e
  obtain rfl := Dt.flat i f
  exact q _ H1 _ f1 rfl (Tk.ofFlat f)
def tAll : List PyData → List A := List.map A.t
theorem tks_of {M : Addr → Prop} {H : Hp} : ∀ {ds : List PyData} {vs : List V}, IsAll K M H vs (tAll ds) → TkAll (hid M H) vs ds
  | [], _, .nil => .nil
  | d :: ds, _, .cons h t => .cons h (tks_of t)
theorem xe_tupK {ds : List PyData} (h : XAs K W t Δ (tAll ds)) (n : ds.length ≤ 10000 := by decide) : XV K W (tTup t) Δ (.t (.tuple ds)) := fun σ H j s Q q =>
  h σ H j s _ fun vs H1 as f1 e i => by
    subst e
    have d := tks_of i
    refine ⟨by rw [d.length]; exact Nat.le_trans n (by decide), fun p np => q _ _ _ (f1.trans (.new f1.j np)) rfl ?_⟩
    exact Tk.tup (hid_new f1.j np) (TkAll.ext (Fr.same (.new f1.j np)) _ _ d)
theorem xe_lstK {ds : List PyData} (h : XAs K W t Δ (tAll ds)) (n : ds.length ≤ 10000 := by decide) : XV K W (tLst t) Δ (.t (.list ds)) := fun σ H j s Q q =>
  h σ H j s _ fun vs H1 as f1 e i => by
    subst e
    have d := tks_of i
    refine ⟨by rw [d.length]; exact Nat.le_trans n (by decide), fun p np => q _ _ _ (f1.trans (.new f1.j np)) rfl ?_⟩
    exact Tk.lst (hid_new f1.j np) (TkAll.ext (Fr.same (.new f1.j np)) _ _ d)
theorem ox_catK {xs ys : List PyData} (n : xs.length + ys.length ≤ 100000) : OX K W rCat (.t (.list xs)) (.t (.list ys)) (· = .t (.list (xs ++ ys))) := fun v w H j i1 i2 Q q => by
  cases i1 with
  | lst h1 d1 =>
    cases i2 with
    | lst h2 d2 =>
      refine ⟨_, _, _, _, rfl, rfl, hid_le _ _ h1, hid_le _ _ h2, by rw [d1.length, d2.length]; exact Nat.le_trans n (by decide), fun p np => ?_⟩
      exact q _ _ _ (.new j np) rfl (Tk.lst (hid_new j np) (TkAll.append (TkAll.ext (Fr.same (.new j np)) _ _ d1) (TkAll.ext (Fr.same (.new j np)) _ _ d2)))
theorem xe_ixLRK {xs : List PyData} (ha : XV K W ta Δ (.t (.list xs))) (hb : XE K W tb Δ fun a => ∃ i : Int, a = .d (.int i) ∧ 0 ≤ i ∧ i < xs.length) : XE K W (tOp (rIxL K) ta tb) Δ fun a => ∃ z ∈ xs, a = .t z :=
  xe_opR ha hb fun a b e ⟨i, e', h0, h1⟩ => by
    subst e e'
    have l : i.toNat < xs.length := by omega
    intro v w H j i1 i2 Q q
    cases i2
    cases i1 with
    | lst h1 d1 =>
      obtain ⟨u, hu, du⟩ := d1.get (List.getElem?_eq_getElem l)
      exact ⟨_, _, _, u, rfl, rfl, .inl (.inl (hid_le _ _ h1)), at_of (j := i.toNat) (by omega) hu, q _ H _ (.refl j) ⟨_, List.getElem_mem l, rfl⟩ du⟩
theorem ox_ixTK {xs : List PyData} {i : Int} {z : PyData} (h0 : 0 ≤ i) (h : xs[i.toNat]? = some z) : OX K W (rIxT K) (.t (.tuple xs)) (.d (.int i)) (· = .t z) := fun v w H j i1 i2 Q q => by
  cases i2
  cases i1 with
  | tup h1 d1 =>
    obtain ⟨u, hu, du⟩ := d1.get h
    exact ⟨_, _, _, u, rfl, rfl, .inl (.inl (hid_le _ _ h1)), at_of (j := i.toNat) (by omega) hu, q _ H _ (.refl j) rfl du⟩
theorem xi_listK {xs : List PyData} (h : XV K W tl Δ (.t (.list xs))) : XI K W (iList K tl) Δ (· = xs.length) fun i a => ∃ d, xs[i]? = some d ∧ a = .t d := fun σ H j s R q =>
  h σ H j s _ fun v H1 a f e i => by
    subst e
    cases i with
    | lst h1 d1 =>
      rename_i p vs
      have m : ¬ W.M p := fun m => by rw [hid_in m] at h1; cases h1
      rw [hid_out m] at h1
      refine ⟨p, rfl, ⟨vs, .inl (.inl h1)⟩, q _ H1 _ f rfl fun H2 f2 i => ?_⟩
      have g : SqL K H2 p vs := .inl (.inl (f2.keep p _ m h1))
      refine ⟨fun l => ?_, fun l => ⟨vs, g, by rw [d1.length]; exact l⟩⟩
      obtain ⟨v, hv, dv⟩ := d1.get (List.getElem?_eq_getElem l)
      refine ⟨⟨vs, v, g, hv⟩, fun x H3 y => ⟨y.1, .t xs[i], ⟨_, List.getElem?_eq_getElem l, rfl⟩, ?_⟩⟩
      have e := y.2 vs g
      rw [hv] at e
      cases e
      exact dv
end
/-! ### keys of a book -/
abbrev kD2 (w : Str) (p : Key) : PyData := .tuple [.str w, keyD p]
theorem tk_key {H : Hp} {v : V} {w : Str} {p : Key} (h : Tk H v (kD2 w p)) : ∃ b, v = .ref b ∧ H b = some (.tup (List.map kV [.inr w, p])) := by
  cases h with
  | tup h d =>
    cases d with
    | cons h1 d =>
      cases d with
      | cons h2 d =>
        cases d
        cases h1
        refine ⟨_, rfl, ?_⟩
        rw [h]
        cases p with
        | inl i => cases h2; rfl
        | inr x => cases h2; rfl
/-! ### a dict of the module whose values differ in kind -/
def KMix (K : PySem.W.Frag) (w : World) (d : Addr) (kvs : List (Str × V)) : Prop := ∀ (i : Nat) (k : Str) (v : V), kvs[i]? = some (k, v) → KDct K w d k v
def mEnt (P : Params) (p : Str × Tok × Value) : DictEntry := ⟨PyData.keyHash P p.1, .str p.1 p.2.1, p.2.2⟩
theorem keysLit_m {P : Params} : ∀ es : List (Str × Tok × Value), PySem.W.KeysLit P (es.map (mEnt P))
  | [] => trivial
  | p :: es => ⟨⟨p.1, p.2.1, rfl, rfl⟩, keysLit_m es⟩
theorem find_m {P : Params} : ∀ {es : List (Str × Tok × Value)} {i : Nat} {p : Str × Tok × Value}, (es.map (·.1)).Nodup → es[i]? = some p → (es.map (mEnt P)).find? (fun x => x.key.isStr p.1) = some (mEnt P p)
  | [], i, p, _, e => by simp at e
  | a :: es, 0, p, nd, e => by
    have e : a = p := by simpa using e
    subst e
    rw [List.map_cons, List.find?_cons]
    have : (mEnt P a).key.isStr a.1 = true := by
      show (a.1 == a.1) = true
      exact beq_self_eq_true _
    rw [this]
  | a :: es, i + 1, p, nd, e => by
    have e : es[i]? = some p := by simpa using e
    rw [List.map_cons, List.nodup_cons] at nd
    have ne : a.1 ≠ p.1 := fun z => nd.1 (List.mem_map.mpr ⟨p, List.mem_of_getElem? e, z.symm⟩)
    rw [List.map_cons, List.find?_cons]
    have : (mEnt P a).key.isStr p.1 = false := by
      show (a.1 == p.1) = false
      exact beq_eq_false_iff_ne.mpr ne
    rw [this]
    exact find_m nd.2 e
theorem paired_at2 {α β : Type} {R : α → β → Prop} : ∀ {l : List α} {m : List β} {i : Nat} {q : α}, Paired R l m → l[i]? = some q → ∃ p, m[i]? = some p ∧ R q p
  | _, _, i, q, .nil, e => by simp at e
  | _, _, 0, q, .cons h _, e => by simp at e; subst e; exact ⟨_, rfl, h⟩
  | _, _, i + 1, q, .cons _ t, e => by
    obtain ⟨p, h1, h2⟩ := paired_at2 (i := i) t (by simpa using e)
    exact ⟨p, by simpa using h1, h2⟩
theorem kmix_mk {K : PySem.W.Frag} {w : World} {d : Addr} {n : Nat} {kvs : List (Str × V)} (es : List (Str × Tok × Value)) (nd : (es.map (·.1)).Nodup) (hl : K.lookup d = some ⟨.type "dict", none, .dict (es.map (mEnt w.params)).toArray n, #[]⟩) (h : Paired (fun (a : Str × V) (b : Str × Tok × Value) => a.1 = b.1 ∧ RelV a.2 b.2.2) kvs es) : KMix K w d kvs := fun i k v e => by
  obtain ⟨p, q, e1, e2⟩ := paired_at2 h e
  have e1 : k = p.1 := e1
  subst e1
  refine ⟨_, n, p.2.2, hl, by simpa using keysLit_m (P := w.params) es, ?_, e2⟩
  unfold PySem.W.nsIn
  rw [hl]
  show (match (es.map (mEnt w.params)).toArray.toList.find? (fun x => x.key.isStr p.1) with | some e => some (some e.val) | none => _) = _
  rw [List.toList_toArray, find_m nd q]
  rfl
/-- an item of such a dict -/
theorem ox_kmix {K : PySem.W.Frag} {w : World} {W : Wd} {d : Addr} {kvs : List (Str × V)} {k : Str} {v : V} {i : Nat} {x : PyData} (h : KMix K w d kvs) (e : kvs[i]? = some (k, v)) (dv : ∀ H, Dt K H v x) : OX K W (rIxD K w) (.v (.ref d)) (.d (.str k)) (· = .d x) := fun u z H j i1 i2 Q q => by
  have i1 : u = .ref d := i1
  subst i1
  cases i2
  exact ⟨d, k, v, rfl, rfl, h i k v e, q _ H _ (.refl j) rfl (dv _)⟩
end V2

set_option Elab.async false
set_option linter.all false
set_option maxRecDepth 100000
set_option maxHeartbeats 2000000
namespace V2
open PySem PySem.Spec PyProof.Rows L2
/-! ### a fragment that grows by another one's new things -/
section
variable {K : PySem.W.Frag} {W : Wd} {H0 H H' : Hp} {S S2 : Frg} {σ : L2.St} {Δ : Env}
theorem fix_app : (W.fix (S2 ++ S)).M = ((W.fix S).fix S2).M := by
  funext a
  refine propext ⟨fun z => ?_, fun z => ?_⟩
  · rcases z with z | ⟨p, hp, e⟩
    · exact .inl (.inl z)
    · rcases List.mem_append.mp hp with h | h
      · exact .inr ⟨p, h, e⟩
      · exact .inl (.inr ⟨p, h, e⟩)
  · rcases z with (z | ⟨p, hp, e⟩) | ⟨p, hp, e⟩
    · exact .inl z
    · exact .inr ⟨p, List.mem_append_right _ hp, e⟩
    · exact .inr ⟨p, List.mem_append_left _ hp, e⟩
theorem FX.join (f : FX W H0 H S) (g : FX (W.fix S) H H' S2) : FX W H0 H' (S2 ++ S) := by
  refine ⟨fun a o n e => ?_, ⟨g.j.1.1, fun p hp => ?_⟩, fun p hp => ?_, ?_⟩
  · rw [fix_app] at n
    exact g.keep a o n (f.keep a o (fun z => n (.inl z)) e)
  · rcases List.mem_append.mp hp with h | h
    · exact g.j.2 p h
    · exact g.j.1.2 p h
  · rcases List.mem_append.mp hp with h | h
    · obtain ⟨n0, nm⟩ := f.none0 (g.new p h).1
      exact ⟨n0, fun z => nm (.inl z)⟩
    · exact f.new p h
  · rw [List.map_append, List.nodup_append]
    refine ⟨g.nd, f.nd, fun a ha b hb e => ?_⟩
    obtain ⟨p, hp, rfl⟩ := List.mem_map.mp ha
    obtain ⟨q, hq, rfl⟩ := List.mem_map.mp hb
    exact (g.new p hp).2 (.inr ⟨q, hq, e.symm⟩)
theorem gr_join (g : FX (W.fix S) H H' S2) : Gr W H S H' (S2 ++ S) := fun a o e => by
  by_cases m : (W.fix S).M a
  · rw [hid_in m] at e; cases e
  · rw [hid_out m] at e
    have n2 : ¬ (W.fix (S2 ++ S)).M a := by
      rw [fix_app]
      rintro (z | ⟨p, hp, q⟩)
      · exact m z
      · have := (g.new p hp).1
        rw [q, e] at this
        cases this
    rw [hid_out n2]
    exact g.keep a o (fun z => n2 (by rw [fix_app]; exact z)) e
theorem FS.join (s : FS K W H0 H σ Δ S) (g : FX (W.fix S) H H' S2) : FS K W H0 H' σ Δ (S2 ++ S) := s.to (s.f.join g) (gr_join g)
end
/-! ### what a book keeps: keys are tuples, worths are data -/
abbrev Kept := List (List Key × PyData)
def getT (kp : Kept) (k : List Key) : Option PyData := (kp.find? fun p => decide (p.1 = k)).map (·.2)
def putT (kp : Kept) (k : List Key) (d : PyData) : Kept := if (kp.any fun p => decide (p.1 = k)) = true then kp.map (fun p => if p.1 = k then (p.1, d) else p) else kp ++ [(k, d)]
def dropT (kp : Kept) (k : List Key) : Kept := kp.filter fun p => decide (p.1 ≠ k)
inductive DtT (K : PySem.W.Frag) (H : Hp) : List (List Key × V) → Kept → Prop
  | nil : DtT K H [] []
  | cons {k : List Key} {v : V} {d : PyData} {kv : List (List Key × V)} {kp : Kept} : Dt K H v d → DtT K H kv kp → DtT K H ((k, v) :: kv) ((k, d) :: kp)
section
variable {K : PySem.W.Frag} {H H' : Hp} {kv : List (List Key × V)} {kp : Kept} {k : List Key} {v : V} {d : PyData}
theorem DtT.ext (s : Same H H') (h : DtT K H kv kp) : DtT K H' kv kp := by
  induction h with
  | nil => exact .nil
  | cons h _ ih => exact .cons (Dt.ext s _ _ h) ih
theorem DtT.len (h : DtT K H kv kp) : kv.length = kp.length := by
  induction h with
  | nil => rfl
  | cons _ _ ih => rw [List.length_cons, List.length_cons, ih]
theorem DtT.val (h : DtT K H kv kp) : (valV kv k = none ∧ getT kp k = none) ∨ ∃ v d, valV kv k = some v ∧ getT kp k = some d ∧ Dt K H v d := by
  induction h with
  | nil => exact .inl ⟨rfl, rfl⟩
  | @cons k1 v1 d1 kv1 kp1 hd _ ih =>
    by_cases e : k1 = k
    · exact .inr ⟨v1, d1, by simp [valV, List.find?_cons, e], by simp [getT, List.find?_cons, e], hd⟩
    · have e1 : valV ((k1, v1) :: kv1) k = valV kv1 k := by simp [valV, List.find?_cons, e]
      have e2 : getT ((k1, d1) :: kp1) k = getT kp1 k := by simp [getT, List.find?_cons, e]
      rw [e1, e2]
      exact ih
theorem DtT.any (h : DtT K H kv kp) : (kv.any fun p => decide (p.1 = k)) = kp.any fun p => decide (p.1 = k) := by
  induction h with
  | nil => rfl
  | cons _ _ ih => rw [List.any_cons, List.any_cons, ih]
theorem DtT.snoc (h : DtT K H kv kp) (hd : Dt K H v d) : DtT K H (kv ++ [(k, v)]) (kp ++ [(k, d)]) := by
  induction h with
  | nil => exact .cons hd .nil
  | cons h1 _ ih => exact .cons h1 ih
theorem DtT.put (h : DtT K H kv kp) (hd : Dt K H v d) : DtT K H (putK kv k v) (putT kp k d) := by
  unfold putK putT
  rw [h.any]
  by_cases z : (kp.any fun p => decide (p.1 = k)) = true
  · rw [if_pos z, if_pos z]
    clear z
    induction h with
    | nil => exact .nil
    | @cons k1 v1 d1 kv1 kp1 h1 _ ih =>
      rw [List.map_cons, List.map_cons]
      by_cases e : k1 = k
      · rw [if_pos e, if_pos e]
        exact .cons hd ih
      · rw [if_neg e, if_neg e]
        exact .cons h1 ih
  · rw [if_neg z, if_neg z]
    exact h.snoc hd
theorem DtT.drop (h : DtT K H kv kp) : DtT K H (dropK kv k) (dropT kp k) := by
  unfold dropK dropT
  induction h with
  | nil => exact .nil
  | @cons k1 v1 d1 kv1 kp1 h1 _ ih =>
    by_cases e : k1 = k
    · rw [List.filter_cons_of_neg (by simp [e]), List.filter_cons_of_neg (by simp [e])]
      exact ih
    · rw [List.filter_cons_of_pos (by simp [e]), List.filter_cons_of_pos (by simp [e])]
      exact .cons h1 ih
end
theorem getT_put (kp : Kept) (k j : List Key) (d : PyData) : getT (putT kp k d) j = if j = k then some d else getT kp j := by
  unfold putT
  by_cases z : (kp.any fun p => decide (p.1 = k)) = true
  · rw [if_pos z]
    induction kp with
    | nil => simp at z
    | cons p r ih =>
      rw [List.map_cons]
      by_cases e : p.1 = k
      · rw [if_pos e]
        by_cases ej : j = k
        · rw [if_pos ej]
          simp [getT, List.find?_cons, e, ej]
        · rw [if_neg ej]
          have e' : ¬ p.1 = j := fun q => ej (q.symm.trans e)
          have h1 : getT (p :: r) j = getT r j := by simp [getT, List.find?_cons, e']
          have h2 : ∀ r' : Kept, getT ((p.1, d) :: r') j = getT r' j := fun r' => by simp [getT, List.find?_cons, e']
          rw [h1, h2]
          by_cases zr : (r.any fun p => decide (p.1 = k)) = true
          · have := ih zr
            rw [if_neg ej] at this
            exact this
          · have : (r.map fun p => if p.1 = k then (p.1, d) else p) = r := by
              refine (List.map_congr_left (g := id) fun q hq => ?_).trans (List.map_id r)
              by_cases eq : q.1 = k
              · exact absurd (List.any_eq_true.mpr ⟨q, hq, decide_eq_true eq⟩) zr
              · rw [if_neg eq]; rfl
            rw [this]
      · rw [if_neg e]
        have zr : (r.any fun p => decide (p.1 = k)) = true := by
          rw [List.any_cons, decide_eq_false e, Bool.false_or] at z
          exact z
        have := ih zr
        by_cases ej : p.1 = j
        · have ne : ¬ j = k := fun q => e (ej.trans q)
          rw [if_neg ne]
          simp [getT, List.find?_cons, ej]
        · have h1 : ∀ r' : Kept, getT (p :: r') j = getT r' j := fun r' => by simp [getT, List.find?_cons, ej]
          rw [h1, h1, this]
  · rw [if_neg z]
    induction kp with
    | nil =>
      by_cases ej : j = k
      · rw [if_pos ej]; simp [getT, ej]
      · rw [if_neg ej]; simp [getT]; exact fun q => ej q.symm
    | cons p r ih =>
      have z1 : ¬ p.1 = k := fun e => z (by rw [List.any_cons, decide_eq_true e]; rfl)
      have z2 : ¬ (r.any fun p => decide (p.1 = k)) = true := fun e => z (by rw [List.any_cons, e, Bool.or_true])
      by_cases ej : p.1 = j
      · have ne : ¬ j = k := fun q => z1 (ej.trans q)
        rw [if_neg ne]
        simp [getT, List.find?_cons, ej]
      · have h1 : ∀ r' : Kept, getT (p :: r') j = getT r' j := fun r' => by simp [getT, List.find?_cons, ej]
        rw [List.cons_append, h1, h1, ih z2]
theorem getT_drop (kp : Kept) (k j : List Key) : getT (dropT kp k) j = if j = k then none else getT kp j := by
  unfold dropT
  induction kp with
  | nil => split <;> rfl
  | cons p r ih =>
    by_cases e : p.1 = k
    · rw [List.filter_cons_of_neg (by simp [e]), ih]
      by_cases ej : j = k
      · rw [if_pos ej, if_pos ej]
      · rw [if_neg ej, if_neg ej]
        have : ¬ p.1 = j := fun q => ej (q.symm.trans e)
        simp [getT, List.find?_cons, this]
    · rw [List.filter_cons_of_pos (by simp [e])]
      by_cases ej : p.1 = j
      · have ne : ¬ j = k := fun q => e (ej.trans q)
        rw [if_neg ne]
        simp [getT, List.find?_cons, ej]
      · have h1 : ∀ r' : Kept, getT (p :: r') j = getT r' j := fun r' => by simp [getT, List.find?_cons, ej]
        rw [h1, h1, ih]
theorem putT_len (kp : Kept) (k : List Key) (d : PyData) : (putT kp k d).length ≤ kp.length + 1 := by
  unfold putT
  split
  · rw [List.length_map]; omega
  · rw [List.length_append]; exact Nat.le_refl _
theorem dropT_len (kp : Kept) (k : List Key) : (dropT kp k).length ≤ kp.length := List.length_filter_le _ _
/-! ### a book that is seen -/
structure Bk where
  tab : List (Str × Str)
  kp : Kept
def visD (K : PySem.W.Frag) (d : PyData) : Vis := ⟨fun v H => Dt K H v d, fun v H H' s h => Dt.ext s d v h⟩
def keptV (K : PySem.W.Frag) (kp : Kept) : Vis := ⟨fun v H => ∃ k kv, v = .ref k ∧ H k = some (.dT kv) ∧ DtT K H kv kp, fun v H H' s ⟨k, kv, e, h, d⟩ => ⟨k, kv, e, s _ _ h, d.ext s⟩⟩
def bkF (t k g : Addr) : List (Str × V) := [("table", .ref t), ("kept", .ref k), ("groups", .ref g)]
def bkV (K : PySem.W.Frag) (C : Addr) (s : Bk) (G : Vis) : Vis :=
  ⟨fun v H => ∃ b dx t k g, v = .ref b ∧ H b = some (.ins C dx (bkF t k g)) ∧ Dt K H (.ref t) (KD s.tab) ∧ (keptV K s.kp).r (.ref k) H ∧ G.r (.ref g) H,
   fun v H H' s ⟨b, dx, t, k, g, e, h, h1, h2, h3⟩ => ⟨b, dx, t, k, g, e, s _ _ h, Dt.ext s _ _ h1, (keptV K _).ext _ _ _ s h2, G.ext _ _ _ s h3⟩⟩
section
variable {K : PySem.W.Frag} {W : Wd} {Δ : Env} {C : Addr} {s : Bk} {G : Vis} {te td ty tx : TE} {ta : TA} {d : PyData}
theorem xe_od (h : XV K W te Δ (.o (visD K d))) : XV K W te Δ (.d d) := fun σ H j st Q q => h σ H j st Q fun v H1 a f e i => by
  subst e
  exact q v H1 _ f rfl i
theorem hid_some {M : Addr → Prop} {H : Hp} {a : Addr} {o : HO} (h : hid M H a = some o) : ¬ M a ∧ H a = some o := by
  by_cases m : M a
  · rw [hid_in m] at h; cases h
  · rw [hid_out m] at h; exact ⟨m, h⟩
theorem xe_bkTab (c : Cls K C) (n : NoAttr K C "table") (h : XV K W te Δ (.o (bkV K C s G))) : XV K W (tFld K te "table") Δ (.d (KD s.tab)) := fun σ H j st Q q =>
  h σ H j st _ fun v H1 a f e i => by
    subst e
    obtain ⟨b, dx, t, k, g, rfl, hb, h1, h2, h3⟩ := i
    exact ⟨b, C, dx, _, _, rfl, (hid_some hb).2, c, n, rfl, q _ H1 _ f rfl h1⟩
theorem xe_bkKept (c : Cls K C) (n : NoAttr K C "kept") (h : XV K W te Δ (.o (bkV K C s G))) : XV K W (tFld K te "kept") Δ (.o (keptV K s.kp)) := fun σ H j st Q q =>
  h σ H j st _ fun v H1 a f e i => by
    subst e
    obtain ⟨b, dx, t, k, g, rfl, hb, h1, h2, h3⟩ := i
    exact ⟨b, C, dx, _, _, rfl, (hid_some hb).2, c, n, rfl, q _ H1 _ f rfl h2⟩
theorem xe_bkGr (c : Cls K C) (n : NoAttr K C "groups") (h : XV K W te Δ (.o (bkV K C s G))) : XV K W (tFld K te "groups") Δ (.o G) := fun σ H j st Q q =>
  h σ H j st _ fun v H1 a f e i => by
    subst e
    obtain ⟨b, dx, t, k, g, rfl, hb, h1, h2, h3⟩ := i
    exact ⟨b, C, dx, _, _, rfl, (hid_some hb).2, c, n, rfl, q _ H1 _ f rfl h3⟩
/-- kept.get(key, x) -/
theorem xe_keptGet {kp : Kept} {w : Str} {p : Key} (h : XV K W td Δ (.o (keptV K kp))) (hy : XV K W ty Δ (.t (kD2 w p))) (hx : XV K W tx Δ (.d d)) : XV K W (tDGet2 td ty tx) Δ (.d ((getT kp [.inr w, p]).getD d)) := fun σ H j s Q q =>
  h σ H j s _ fun v H1 a f1 e i1 => by
    subst e
    obtain ⟨k, kv, rfl, hk, hd⟩ := i1
    have hk1 := hid_some hk
    refine ⟨k, rfl, .inr ⟨_, .inl hk1.2⟩, hy σ H1 f1.j (s.fr f1) _ fun w2 H2 b f2 e i2 => ?_⟩
    subst e
    refine hx σ H2 f2.j (s.fr (f1.trans f2)) _ fun u H3 c f3 e i3 => ?_
    subst e
    obtain ⟨kb, rfl, hkb⟩ := tk_key (Tk.ext f3.same _ _ i2)
    have hk3 := f3.keep _ _ hk1.1 (f2.keep _ _ hk1.1 hk1.2)
    have F := (f1.trans f2).trans f3
    refine ⟨_, DGet.t hk3 (hid_some hkb).2, ?_⟩
    rcases (DtT.ext (f2.trans f3).same hd).val (k := [.inr w, p]) with ⟨e1, e2⟩ | ⟨v, d', e1, e2, hv⟩
    · rw [e1]
      exact q _ H3 _ F rfl (by rw [e2]; exact i3)
    · rw [e1]
      exact q _ H3 _ F rfl (by rw [e2]; exact hv)
/-- a method of a book that is only read -/
theorem xe_bkMeth {γ : Type} {pre : γ → Wd → List A → Prop} {post : γ → A → Prop} {E : XK} {m : Str} {as : List A} (g : γ) (h : XV K W te Δ (.o (bkV K C s G))) (hm : ∀ t k g, (bkF t k g).lookup m = none) (ha : XAs K W ta Δ as) (p : pre g W (.o (bkV K C s G) :: as)) : XE K W (tMeth C m (spG K pre post) [] E te ta) Δ (post g) := fun σ H j st Q q =>
  h σ H j st _ fun v H1 a f1 e i => by
    subst e
    have i0 := i
    obtain ⟨b, dx, t, k, gg, rfl, hb, h1, h2, h3⟩ := i
    refine ⟨b, dx, _, rfl, (hid_some hb).2, hm t k gg, ha σ H1 f1.j (st.fr f1) _ fun vs H2 as' f2 e i2 => ?_⟩
    subst e
    rw [List.append_nil]
    exact ⟨g, W, _, f2.j, p, .cons (Is.fr f2 i0) i2, fun v H' a f r i => q v H' a ((f1.trans f2).trans f) r i⟩
end
/-! ### a dict whose keys are tuples, made of a tuple of texts -/
section
variable {K : PySem.W.Frag} {W : Wd} {H0 H H' : Hp} {S : Frg} {σ : L2.St} {Δ : Env} {tl : TE}
theorem FX.pre (f : Fr W H0 H) (g : FX W H H' S) : FX W H0 H' S := by
  refine ⟨fun a o n e => g.keep a o n (f.keep a o (fun z => n (.inl z)) e), g.j, fun p hp => ?_, g.nd⟩
  obtain ⟨h1, h2⟩ := g.new p hp
  refine ⟨?_, h2⟩
  cases e : H0 p.1 with
  | none => rfl
  | some o =>
    rw [f.keep _ _ h2 e] at h1
    cases h1
theorem dcT_in {ws : List Str} {a b : Str} {k : Nat} (nd : ws.Nodup) (j : W.J H) (st : StOk K W.M H σ Δ) (h : XV K W tl Δ (.d (.tuple (ws.map PyData.str)))) (small : ws.length ≤ 10000) (hk : k < Δ.length) {Q : VK}
    (q : ∀ D H' kv, FX W H H' [(D, .dT kv)] → DtT K (hid (W.fix [(D, .dT kv)]).M H') kv (ws.map fun w => ([.inr a, .inr w], PyData.tuple [.str b, .str w])) → Q (.ref D) H') :
    tDcT (iTup K tl) (gName k) tYes (tTup (tCons (tC (.str a)) (tCons (tVar k) tNil))) (tTup (tCons (tC (.str b)) (tCons (tVar k) tNil))) [k] σ H Q := by
  refine xi_tup h σ H j st _ fun J H1 n f1 hn w => ?_
  subst hn
  rw [List.length_map] at w
  intro D nD
  have mD : ¬ W.M D := W.fresh f1.j nD
  have lk : k < σ.length := by rw [st.len]; exact hk
  let md : Nat → Kept := fun i => (ws.take i).map fun w => ([.inr a, .inr w], PyData.tuple [.str b, .str w])
  refine ⟨fun i m H2 => m = ws.length - i ∧ i ≤ ws.length ∧ ∃ kv, FX W H1 H2 [(D, .dT kv)] ∧ DtT K (hid (W.fix [(D, .dT kv)]).M H2) kv (md i), ⟨_, rfl, Nat.zero_le _, [], (FX.nil f1.j).cons nD, .nil⟩, ?_⟩
  rintro i m H2 ⟨rfl, hi, kv, fx, hd⟩
  by_cases l : i < ws.length
  · obtain ⟨go, yl⟩ := (w H2 fx.fr i).1 l
    refine .inr ⟨go, fun H3 => ∃ kv, FX W H1 H3 [(D, .dT kv)] ∧ DtT K (hid (W.fix [(D, .dT kv)]).M H3) kv (md (i + 1)), fun H3 r => ⟨_, by omega, rfl, l, r⟩, fun z H3 y => ?_⟩
    obtain ⟨e, c, ⟨d, hc, ec⟩, ia⟩ := yl z H3 y
    subst e
    subst ec
    rw [List.getElem?_map, List.getElem?_eq_getElem l] at hc
    have hc : PyData.str ws[i] = d := Option.some.inj hc
    subst hc
    cases ia
    generalize hw : ws[i] = u at *
    refine ⟨(show ((σ.set k none).set k (some (.str u))).set k none = σ.set k none by rw [List.set_set, List.set_set]), ?_⟩
    unfold tYes
    dsimp only
    rw [if_pos rfl]
    have gk : ((σ.set k none).set k (some (V.str u)))[k]? = some (some (V.str u)) := by rw [List.set_set, List.getElem?_set, if_pos rfl, if_pos lk]
    refine ⟨_, gk, (by decide : 2 ≤ sizeLine), fun c nc => ⟨_, gk, (by decide : 2 ≤ sizeLine), fun z nz => ?_⟩⟩
    have g1 : Fr (W.fix [(D, .dT kv)]) H3 (upd H3 c (.tup [.str a, .str u])) := .new fx.j nc
    have x1 := fx.go g1
    have g2 : Fr (W.fix [(D, .dT kv)]) (upd H3 c (.tup [.str a, .str u])) (upd (upd H3 c (.tup [.str a, .str u])) z (.tup [.str b, .str u])) := .new x1.j nz
    have x2 := x1.go g2
    have cz : c ≠ z := fun e => by rw [← e, upd_same] at nz; cases nz
    have hc5 : (upd (upd H3 c (.tup [.str a, .str u])) z (.tup [.str b, .str u])) c = some (.tup [.str a, .str u]) := by rw [upd_ne cz, upd_same]
    have ll : kv.length = i := by rw [hd.len, List.length_map, List.length_take]; omega
    refine ⟨kv, [.inr a, .inr u], c, rfl, hc5, x2.j.2 _ (.head _), by rw [ll]; exact Nat.lt_of_le_of_lt (Nat.le_trans hi small) (by decide), putK kv [.inr a, .inr u] (.ref z), ?_, ?_⟩
    · have := x2.put (o' := .dT (putK kv [.inr a, .inr u] (.ref z))) (.head _)
      rwa [put_hdN x2.nd] at this
    · have dz : Dt K (hid (W.fix [(D, .dT kv)]).M (upd (upd H3 c (.tup [.str a, .str u])) z (.tup [.str b, .str u]))) (.ref z) (.tuple [.str b, .str u]) := .tup (.inl (.inl (hid_new x1.j nz))) (.cons (.str _) (.cons (.str _) .nil))
      have h1 := DtT.put (k := [.inr a, .inr u]) (hd.ext (g1.trans g2).same) dz
      have h2 := h1.ext (gr_put (W := W) (S := [(D, .dT kv)]) (o' := .dT (putK kv [.inr a, .inr u] (.ref z))) (.head _))
      rw [put_hdN x2.nd] at h2
      have e : md (i + 1) = putT (md i) [.inr a, .inr u] (.tuple [.str b, .str u]) := by
        have nin : u ∉ ws.take i := fun hm => by
          obtain ⟨jj, hj⟩ := List.getElem?_of_mem hm
          rw [List.getElem?_take] at hj
          split at hj
          · rename_i lj
            have h3 : ws[jj]? = ws[i]? := by rw [hj, List.getElem?_eq_getElem l, hw]
            have := (List.getElem?_inj (i := jj) (by omega) nd).mp h3
            omega
          · cases hj
        show (ws.take (i + 1)).map _ = _
        rw [List.take_add_one, List.getElem?_eq_getElem l, hw, List.map_append]
        unfold putT
        rw [if_neg]
        · rfl
        · intro hany
          obtain ⟨p, hp, ep⟩ := List.any_eq_true.mp hany
          obtain ⟨x, hx, rfl⟩ := List.mem_map.mp hp
          have ep : [Sum.inr a, Sum.inr x] = ([Sum.inr a, Sum.inr u] : List Key) := of_decide_eq_true ep
          simp at ep
          exact nin (ep ▸ hx)
      rw [e]
      exact h2
  · obtain rfl : i = ws.length := by omega
    have e : md ws.length = ws.map fun w => ([.inr a, .inr w], PyData.tuple [.str b, .str w]) := by
      show (ws.take ws.length).map _ = _
      rw [List.take_length]
    rw [e] at hd
    exact .inl ⟨(w H2 fx.fr _).2 (Nat.le_refl _), q D H2 kv (FX.pre f1 fx) hd⟩
end
end V2

set_option Elab.async false
set_option linter.all false
set_option maxRecDepth 100000
set_option maxHeartbeats 2000000
namespace V2
open PySem PySem.Spec PyProof.Rows L2
/-! ### what is seen at a known place -/
def atV (x : V) (R : Vis) : Vis := ⟨fun v H => v = x ∧ R.r v H, fun v H H' s h => ⟨h.1, R.ext _ _ _ s h.2⟩⟩
section
variable {K : PySem.W.Frag} {W : Wd} {H0 H H' : Hp} {S S1 : Frg} {σ : L2.St} {Δ Δ' : Env} {te td ty : TE} {ts : TS} {D : Ends} {x : V} {R : Vis} {N : Env → Prop} {Rt : A → Prop}
theorem xe_at (h : XV K W te Δ (.o (atV x R))) : XV K W te Δ (.o R) := fun σ H j st Q q => h σ H j st Q fun v H1 a f e i => by
  subst e
  exact q v H1 _ f rfl i.2
theorem is_at {M : Addr → Prop} {v : V} (h : Is K M H v (.o (atV x R))) : v = x := h.1
/-- a statement over a part of the fragment, the rest seen -/
theorem FS.partS (s : FS K W H0 H σ Δ S) (h1 : ∀ p ∈ S1, p ∈ S) (st' : StOk K (W.fix S1).M H σ Δ') (hx : XS K (W.fix S1) ts Δ' N Rt No No)
    (nx : ∀ σ' H' Δ2, N Δ2 → StOk K (W.fix S1).M H' σ' Δ2 → FX W H0 H' S → Gr W H S H' S → D.nx σ' H') (rt : ∀ v H' a, Rt a → Is K (W.fix S1).M H' v a → FX W H0 H' S → Gr W H S H' S → D.rt v H') : ts D σ H :=
  hx σ H ⟨s.f.j.1, fun p hp => s.f.j.2 p (h1 p hp)⟩ st' D (fun σ' H' Δ2 f s2 n => nx σ' H' Δ2 n s2 (s.f.sub h1 f) (gr_sub h1 f)) (fun v H' a f r i => rt v H' a r i (s.f.sub h1 f) (gr_sub h1 f)) (fun _ _ _ _ _ z => z.elim) fun _ _ _ _ _ z => z.elim
/-- .. what it makes anew joins the whole -/
theorem FX.joinP {S2 : Frg} (f : FX W H0 H S) (h1 : ∀ p ∈ S1, p ∈ S) (g : FX (W.fix S1) H H' S2) : FX W H0 H' (S2 ++ S) := by
  have nn : ∀ p ∈ S2, H p.1 = none := fun p hp => (g.new p hp).1
  have ns : ∀ p ∈ S, ∀ q ∈ S2, q.1 ≠ p.1 := fun p hp q hq e => by
    have a := nn q hq
    rw [e, f.j.2 p hp] at a
    cases a
  have kp : ∀ p ∈ S, H' p.1 = some p.2 := fun p hp => by
    by_cases z : (W.fix S1).M p.1
    · rcases z with z | ⟨r, hr, e⟩
      · exact absurd z (f.new p hp).2
      · have a1 := g.j.1.2 r hr
        have a2 := f.j.2 r (h1 r hr)
        have a3 := f.j.2 p hp
        rw [e] at a1 a2
        rw [a2] at a3
        rw [a1, a3]
    · exact g.keep _ _ (fun w => w.elim z fun ⟨q, hq, e⟩ => ns p hp q hq e) (f.j.2 p hp)
  refine ⟨fun a o n e => ?_, ⟨g.j.1.1, fun p hp => ?_⟩, fun p hp => ?_, ?_⟩
  · rw [fix_app] at n
    refine g.keep a o (fun z => n ?_) (f.keep a o (fun z => n (.inl z)) e)
    rcases z with (z | ⟨q, hq, e⟩) | ⟨q, hq, e⟩
    · exact .inl (.inl z)
    · exact .inl (.inr ⟨q, h1 q hq, e⟩)
    · exact .inr ⟨q, hq, e⟩
  · rcases List.mem_append.mp hp with h | h
    · exact g.j.2 p h
    · exact kp p h
  · rcases List.mem_append.mp hp with h | h
    · obtain ⟨n0, nm⟩ := f.none0 (nn p h)
      exact ⟨n0, fun z => nm (.inl z)⟩
    · exact f.new p h
  · rw [List.map_append, List.nodup_append]
    refine ⟨g.nd, f.nd, fun a ha b hb e => ?_⟩
    obtain ⟨p, hp, rfl⟩ := List.mem_map.mp ha
    obtain ⟨q, hq, rfl⟩ := List.mem_map.mp hb
    exact ns q hq p hp e
end
/-! ### a dict whose keys are texts, its values data -/
abbrev Sdt := List (Str × PyData)
inductive DtS (K : PySem.W.Frag) (H : Hp) : List (Key × V) → Sdt → Prop
  | nil : DtS K H [] []
  | cons {k : Str} {v : V} {d : PyData} {kv : List (Key × V)} {sd : Sdt} : Dt K H v d → DtS K H kv sd → DtS K H ((.inr k, v) :: kv) ((k, d) :: sd)
def getS (sd : Sdt) (k : Str) : Option PyData := (sd.find? fun p => decide (p.1 = k)).map (·.2)
def putD (sd : Sdt) (k : Str) (d : PyData) : Sdt := if (sd.any fun p => decide (p.1 = k)) = true then sd.map (fun p => if p.1 = k then (p.1, d) else p) else sd ++ [(k, d)]
section
variable {K : PySem.W.Frag} {H H' : Hp} {kv : List (Key × V)} {sd : Sdt} {k : Str} {v : V} {d : PyData}
theorem DtS.ext (s : Same H H') (h : DtS K H kv sd) : DtS K H' kv sd := by
  induction h with
  | nil => exact .nil
  | cons h _ ih => exact .cons (Dt.ext s _ _ h) ih
theorem DtS.len (h : DtS K H kv sd) : kv.length = sd.length := by
  induction h with
  | nil => rfl
  | cons _ _ ih => rw [List.length_cons, List.length_cons, ih]
theorem inr_eq {a b : Str} : ((Sum.inr a : Key) = Sum.inr b) ↔ a = b := ⟨Sum.inr.inj, fun e => by rw [e]⟩
theorem DtS.val (h : DtS K H kv sd) : (valV kv (.inr k) = none ∧ getS sd k = none) ∨ ∃ v d, valV kv (.inr k) = some v ∧ getS sd k = some d ∧ Dt K H v d := by
  induction h with
  | nil => exact .inl ⟨rfl, rfl⟩
  | @cons k1 v1 d1 kv1 kp1 hd _ ih =>
    by_cases e : k1 = k
    · exact .inr ⟨v1, d1, by simp [valV, List.find?_cons, e], by simp [getS, List.find?_cons, e], hd⟩
    · have e1 : valV ((.inr k1, v1) :: kv1) (.inr k) = valV kv1 (.inr k) := valV_neg fun z => e (Sum.inr.inj z)
      have e2 : getS ((k1, d1) :: kp1) k = getS kp1 k := by simp [getS, List.find?_cons, e]
      rw [e1, e2]
      exact ih
theorem DtS.any (h : DtS K H kv sd) : (kv.any fun p => decide (p.1 = (.inr k : Key))) = sd.any fun p => decide (p.1 = k) := by
  induction h with
  | nil => rfl
  | @cons k1 v1 d1 kv1 kp1 hd _ ih =>
    rw [List.any_cons, List.any_cons, ih]
    congr 1
    by_cases e : k1 = k
    · rw [decide_eq_true e, decide_eq_true (by rw [e])]
    · rw [decide_eq_false e, decide_eq_false fun z => e (Sum.inr.inj z)]
theorem DtS.snoc (h : DtS K H kv sd) (hd : Dt K H v d) : DtS K H (kv ++ [(.inr k, v)]) (sd ++ [(k, d)]) := by
  induction h with
  | nil => exact .cons hd .nil
  | cons h1 _ ih => exact .cons h1 ih
theorem DtS.put (h : DtS K H kv sd) (hd : Dt K H v d) : DtS K H (putK kv (.inr k) v) (putD sd k d) := by
  unfold putK putD
  rw [h.any]
  by_cases z : (sd.any fun p => decide (p.1 = k)) = true
  · rw [if_pos z, if_pos z]
    clear z
    induction h with
    | nil => exact .nil
    | @cons k1 v1 d1 kv1 kp1 h1 _ ih =>
      rw [List.map_cons, List.map_cons]
      by_cases e : k1 = k
      · rw [if_pos (by rw [e]), if_pos e]
        exact .cons hd ih
      · rw [if_neg fun z => e (Sum.inr.inj z), if_neg e]
        exact .cons h1 ih
  · rw [if_neg z, if_neg z]
    exact h.snoc hd
end
def dictV (K : PySem.W.Frag) (sd : Sdt) : Vis := ⟨fun v H => ∃ a kv, v = .ref a ∧ H a = some (.dK kv) ∧ DtS K H kv sd, fun v H H' s ⟨a, kv, e, h, d⟩ => ⟨a, kv, e, s _ _ h, d.ext s⟩⟩
section
variable {K : PySem.W.Frag} {W : Wd} {H0 H : Hp} {S : Frg} {σ : L2.St} {Δ : Env} {te td ty tv to tk : TE} {ta : TA} {sd : Sdt} {c : Str} {d : PyData} {D : Ends} {t : Addr}
/-- kept[c] -/
theorem xe_dgetS (h : XV K W td Δ (.o (dictV K sd))) (hy : XV K W ty Δ (.d (.str c))) (hd : getS sd c = some d) : XV K W (tDGet td ty) Δ (.d d) := fun σ H j s Q q =>
  h σ H j s _ fun v H1 a f1 e i1 => by
    subst e
    obtain ⟨k, kv, rfl, hk, dt⟩ := i1
    have hk1 := hid_some hk
    refine hy σ H1 f1.j (s.fr f1) _ fun w2 H2 b f2 e i2 => ?_
    subst e
    cases i2
    rcases (DtS.ext f2.same dt).val (k := c) with ⟨e1, e2⟩ | ⟨v, d', e1, e2, hv⟩
    · rw [hd] at e2; cases e2
    · rw [hd] at e2
      cases e2
      have g := DGet.k (k := Sum.inr c) (f2.keep _ _ hk1.1 hk1.2)
      rw [e1] at g
      exact ⟨k, v, rfl, g, q _ H2 _ (f1.trans f2) rfl hv⟩
/-- kept[c] = e, of the fragment -/
theorem fs_dputS {kv : List (Key × V)} (s : FS K W H0 H σ Δ S) (h : (t, HO.dK kv) ∈ S) (l : kv.length < sizeLine) (dt : DtS K (hid (W.fix S).M H) kv sd) (hv : XV K (W.fix S) tv Δ (.d d)) (ho : XV K (W.fix S) to Δ (.v (.ref t))) (hk : XV K (W.fix S) tk Δ (.d (.str c)))
    (q : ∀ H' kv', FS K W H0 H' σ Δ (S.put t (.dK kv')) → Gr W H S H' (S.put t (.dK kv')) → DtS K (hid (W.fix (S.put t (.dK kv'))).M H') kv' (putD sd c d) → D.nx σ H') : sDPut to tk tv D σ H :=
  s.in hv fun u H1 a e s1 g1 i1 => by
    subst e
    refine s1.in ho fun u2 H2 a e s2 g2 i2 => ?_
    subst e
    have e : u2 = .ref t := i2
    subst e
    refine s2.in hk fun u3 H3 a e s3 g3 i3 => ?_
    subst e
    cases i3
    refine ⟨t, _, rfl, DPut.k (k := .inr c) (s3.f.j.2 _ h) l, q _ (putK kv (.inr c) u) (s3.to (s3.f.put h) (gr_put h)) (gr_trans (gr_trans (gr_trans g1 g2) g3) (gr_put h)) ?_⟩
    exact (DtS.put (dt.ext (gr_trans (gr_trans g1 g2) g3)) (Dt.ext (gr_trans g2 g3) _ _ i1)).ext (gr_put h)
/-- isinstance and list of a list of one's own -/
theorem xe_isiO {p : Addr} {vs : List V} {ds : List PyData} {k : Nat} {T : String} {b : Bool} (h : (p, HO.lst vs) ∈ S) (hk : Δ[k]? = some (some (.w (.ref p) vs ds))) (kt : kitB "list" T = some b) : XV K (W.fix S) (tCB (rIsi K) (tCons (tVar k) (tCons (tC (.ty T)) tNil))) Δ (.d (.bool b)) := fun σ H j st Q q => by
  obtain ⟨v0, e0, i0⟩ := st.get k _ hk
  obtain ⟨e, dd⟩ := is_w i0
  subst e
  exact ⟨_, e0, _, _, _, _, b, rfl, .ty T, .base (.lst (j.2 _ h)), kit_ty kt, q _ H _ (.refl j) rfl (.bl _)⟩
theorem xe_lstO {p : Addr} {vs : List V} {ds : List PyData} {k : Nat} (h : (p, HO.lst vs) ∈ S) (hk : Δ[k]? = some (some (.w (.ref p) vs ds))) : XV K (W.fix S) (tCB (rLstOf K) (tCons (tVar k) tNil)) Δ (.d (.list ds)) := fun σ H j st Q q => by
  obtain ⟨v0, e0, i0⟩ := st.get k _ hk
  obtain ⟨e, dd⟩ := is_w i0
  subst e
  exact ⟨_, e0, p, _, rfl, .inl (.inl (.inl (j.2 _ h))), fun l nl => q _ _ _ (.new j nl) rfl (Dt.lst (hid_new j nl) (DtAll.ext (Fr.same (.new j nl)) _ _ dd))⟩
end
end V2

set_option Elab.async false
set_option linter.all false
set_option maxRecDepth 100000
set_option maxHeartbeats 4000000
namespace V2
open PySem PySem.Spec PyProof.Rows L2

/-! ### the text -/
def topS (i : Nat) : Stmt := PySem.Challenge.pw_mouthrules_k21_books_have_worths.main.body.getD i (.Pass ⟨0, 0, 0, 0⟩)
abbrev s_is_sign : Stmt := topS 12
theorem sc_is_sign : FnScope ["thing"] ["thing"] (defScope s_is_sign) := ⟨rfl, rfl, rfl, by decide +kernel, rfl, by decide +kernel, by decide +kernel⟩
abbrev s_is_whole : Stmt := topS 13
theorem sc_is_whole : FnScope ["thing"] ["thing"] (defScope s_is_whole) := ⟨rfl, rfl, rfl, by decide +kernel, rfl, by decide +kernel, by decide +kernel⟩
abbrev s_is_kind : Stmt := topS 14
theorem sc_is_kind : FnScope ["thing"] ["thing"] (defScope s_is_kind) := ⟨rfl, rfl, rfl, by decide +kernel, rfl, by decide +kernel, by decide +kernel⟩
abbrev s_first_kinds : Stmt := topS 15
theorem sc_first_kinds : FnScope ["kinds", "sign"] [] (defScope s_first_kinds) := ⟨rfl, rfl, rfl, by decide +kernel, rfl, by decide +kernel, by decide +kernel⟩
abbrev s_kind_in : Stmt := topS 16
theorem sc_kind_in : FnScope ["kinds", "sign"] ["kinds", "sign"] (defScope s_kind_in) := ⟨rfl, rfl, rfl, by decide +kernel, rfl, by decide +kernel, by decide +kernel⟩
abbrev s_is_name : Stmt := topS 17
theorem sc_is_name : FnScope ["thing", "sign"] ["thing"] (defScope s_is_name) := ⟨rfl, rfl, rfl, by decide +kernel, rfl, by decide +kernel, by decide +kernel⟩
abbrev s_is_piece : Stmt := topS 18
theorem sc_is_piece : FnScope ["thing", "word", "signs"] ["thing"] (defScope s_is_piece) := ⟨rfl, rfl, rfl, by decide +kernel, rfl, by decide +kernel, by decide +kernel⟩
abbrev s_turn_of : Stmt := topS 19
theorem sc_turn_of : FnScope ["piece"] ["piece"] (defScope s_turn_of) := ⟨rfl, rfl, rfl, by decide +kernel, rfl, by decide +kernel, by decide +kernel⟩
abbrev s_is_row : Stmt := topS 20
theorem sc_is_row : FnScope ["thing", "piece"] ["thing"] (defScope s_is_row) := ⟨rfl, rfl, rfl, by decide +kernel, rfl, by decide +kernel, by decide +kernel⟩
abbrev s_is_balanced : Stmt := topS 21
theorem sc_is_balanced : FnScope ["thing", "depth", "piece"] ["thing"] (defScope s_is_balanced) := ⟨rfl, rfl, rfl, by decide +kernel, rfl, by decide +kernel, by decide +kernel⟩
abbrev s_hands_among : Stmt := topS 25
theorem sc_hands_among : FnScope ["pieces", "word", "number"] ["pieces"] (defScope s_hands_among) := ⟨rfl, rfl, rfl, by decide +kernel, rfl, by decide +kernel, by decide +kernel⟩
abbrev s_are_marks : Stmt := topS 26
theorem sc_are_marks : FnScope ["thing", "hands", "piece"] ["thing"] (defScope s_are_marks) := ⟨rfl, rfl, rfl, by decide +kernel, rfl, by decide +kernel, by decide +kernel⟩
abbrev s_is_body : Stmt := topS 27
theorem sc_is_body : FnScope ["thing", "many", "number"] ["thing", "many"] (defScope s_is_body) := ⟨rfl, rfl, rfl, by decide +kernel, rfl, by decide +kernel, by decide +kernel⟩
abbrev s_is_rule : Stmt := topS 28
theorem sc_is_rule : FnScope ["thing", "marks", "body"] ["thing"] (defScope s_is_rule) := ⟨rfl, rfl, rfl, by decide +kernel, rfl, by decide +kernel, by decide +kernel⟩
abbrev s_is_box : Stmt := topS 36
theorem sc_is_box : FnScope ["thing"] ["thing"] (defScope s_is_box) := ⟨rfl, rfl, rfl, by decide +kernel, rfl, by decide +kernel, by decide +kernel⟩
abbrev s_is_key : Stmt := topS 37
theorem sc_is_key : FnScope ["thing", "word", "part"] ["thing"] (defScope s_is_key) := ⟨rfl, rfl, rfl, by decide +kernel, rfl, by decide +kernel, by decide +kernel⟩
abbrev s_is_sign_piece : Stmt := topS 38
theorem sc_is_sign_piece : FnScope ["thing"] ["thing"] (defScope s_is_sign_piece) := ⟨rfl, rfl, rfl, by decide +kernel, rfl, by decide +kernel, by decide +kernel⟩
abbrev s_is_meaning : Stmt := topS 39
theorem sc_is_meaning : FnScope ["thing", "word", "parts"] ["thing"] (defScope s_is_meaning) := ⟨rfl, rfl, rfl, by decide +kernel, rfl, by decide +kernel, by decide +kernel⟩
abbrev s_is_number_worth : Stmt := topS 40
theorem sc_is_number_worth : FnScope ["thing"] ["thing"] (defScope s_is_number_worth) := ⟨rfl, rfl, rfl, by decide +kernel, rfl, by decide +kernel, by decide +kernel⟩
abbrev s_is_row_worth : Stmt := topS 41
theorem sc_is_row_worth : FnScope ["thing"] ["thing"] (defScope s_is_row_worth) := ⟨rfl, rfl, rfl, by decide +kernel, rfl, by decide +kernel, by decide +kernel⟩
abbrev s_is_worth : Stmt := topS 42
theorem sc_is_worth : FnScope ["key", "thing", "word"] ["key", "thing"] (defScope s_is_worth) := ⟨rfl, rfl, rfl, by decide +kernel, rfl, by decide +kernel, by decide +kernel⟩
abbrev s_first_meanings : Stmt := topS 43
theorem sc_first_meanings : FnScope ["word"] [] (defScope s_first_meanings) := ⟨rfl, rfl, rfl, by decide +kernel, rfl, by decide +kernel, by decide +kernel⟩
abbrev s_Book_init : Stmt := inClass (topS 44) 0
theorem sc_Book_init : FnScope ["self"] ["self"] (defScope s_Book_init) := ⟨rfl, rfl, rfl, by decide +kernel, rfl, by decide +kernel, by decide +kernel⟩
abbrev s_Book_worth : Stmt := inClass (topS 44) 1
theorem sc_Book_worth : FnScope ["self", "key", "worth"] ["self", "key"] (defScope s_Book_worth) := ⟨rfl, rfl, rfl, by decide +kernel, rfl, by decide +kernel, by decide +kernel⟩
abbrev s_Book_put : Stmt := inClass (topS 44) 2
theorem sc_Book_put : FnScope ["self", "key", "worth", "for_all"] ["self", "key", "worth", "for_all"] (defScope s_Book_put) := ⟨rfl, rfl, rfl, by decide +kernel, rfl, by decide +kernel, by decide +kernel⟩
abbrev s_Book_kinds : Stmt := inClass (topS 44) 6
theorem sc_Book_kinds : FnScope ["self"] ["self"] (defScope s_Book_kinds) := ⟨rfl, rfl, rfl, by decide +kernel, rfl, by decide +kernel, by decide +kernel⟩
abbrev s_Book_depth : Stmt := inClass (topS 44) 7
theorem sc_Book_depth : FnScope ["self"] ["self"] (defScope s_Book_depth) := ⟨rfl, rfl, rfl, by decide +kernel, rfl, by decide +kernel, by decide +kernel⟩
abbrev s_Book_kept_at : Stmt := inClass (topS 44) 10
theorem sc_Book_kept_at : FnScope ["self", "key", "word", "part"] ["self", "key"] (defScope s_Book_kept_at) := ⟨rfl, rfl, rfl, by decide +kernel, rfl, by decide +kernel, by decide +kernel⟩
abbrev s_Book_keep : Stmt := inClass (topS 44) 11
theorem sc_Book_keep : FnScope ["self", "key", "worth", "word", "part"] ["self", "key", "worth"] (defScope s_Book_keep) := ⟨rfl, rfl, rfl, by decide +kernel, rfl, by decide +kernel, by decide +kernel⟩
abbrev s_l_pool : Stmt := topS 46
theorem sc_l_pool : FnScope ["_law_script", "_law_k", "_law_cell", "_law_number", "_law_seed"] ["_law_script", "_law_k"] (defScope s_l_pool) := ⟨rfl, rfl, rfl, by decide +kernel, rfl, by decide +kernel, by decide +kernel⟩
abbrev s_l_take : Stmt := topS 47
theorem sc_l_take : FnScope ["_law_pool_here", "_law_many", "_law_digit"] ["_law_pool_here", "_law_many"] (defScope s_l_take) := ⟨rfl, rfl, rfl, by decide +kernel, rfl, by decide +kernel, by decide +kernel⟩
abbrev s_l_key : Stmt := topS 48
theorem sc_l_key : FnScope ["_law_pool_here", "_law_some"] ["_law_pool_here"] (defScope s_l_key) := ⟨rfl, rfl, rfl, by decide +kernel, rfl, by decide +kernel, by decide +kernel⟩
abbrev s_l_worth : Stmt := topS 49
theorem sc_l_worth : FnScope ["_law_pool_here", "_law_word", "_law_words", "_law_rule", "_law_some"] ["_law_pool_here", "_law_word"] (defScope s_l_worth) := ⟨rfl, rfl, rfl, by decide +kernel, rfl, by decide +kernel, by decide +kernel⟩
abbrev s_l_first : Stmt := topS 50
theorem sc_l_first : FnScope ["_law_key_here", "_law_word", "_law_what"] ["_law_key_here"] (defScope s_l_first) := ⟨rfl, rfl, rfl, by decide +kernel, rfl, by decide +kernel, by decide +kernel⟩
abbrev s_l_every : Stmt := topS 51
theorem sc_l_every : FnScope ["_law_some"] [] (defScope s_l_every) := ⟨rfl, rfl, rfl, by decide +kernel, rfl, by decide +kernel, by decide +kernel⟩
abbrev s_l_begun_right : Stmt := topS 52
theorem sc_l_begun_right : FnScope ["_law_ahead", "_law_rest", "_law_book", "_law_table", "_law_some", "_law_number", "_law_sign", "_law_key_here", "_law_word"] [] (defScope s_l_begun_right) := ⟨rfl, rfl, rfl, by decide +kernel, rfl, by decide +kernel, by decide +kernel⟩
abbrev s_l_right : Stmt := topS 53
theorem sc_l_right : FnScope ["_law_pool_here", "_law_book", "_law_kept", "_law_turn", "_law_key_here", "_law_worth_here", "_law_other", "_law_told", "_law_table", "_law_sign"] ["_law_pool_here"] (defScope s_l_right) := ⟨rfl, rfl, rfl, by decide +kernel, rfl, by decide +kernel, by decide +kernel⟩
abbrev s_law : Stmt := topS 54
theorem sc_law : FnScope ["_law_script", "_law_k"] ["_law_script"] (defScope s_law) := ⟨rfl, rfl, rfl, by decide +kernel, rfl, by decide +kernel, by decide +kernel⟩
structure Top (w : World) (K : PySem.W.Frag) (mg : Str → Option Value) (f : Nat → Addr) (fd : Nat → FuncData) : Prop where
  F_is_sign : Fun K "is_sign" "is_sign" s_is_sign (f 0) (fd 0)
  g_is_sign : mg "is_sign" = some (.ref (f 0))
  F_is_whole : Fun K "is_whole" "is_whole" s_is_whole (f 1) (fd 1)
  g_is_whole : mg "is_whole" = some (.ref (f 1))
  F_is_kind : Fun K "is_kind" "is_kind" s_is_kind (f 2) (fd 2)
  g_is_kind : mg "is_kind" = some (.ref (f 2))
  F_first_kinds : Fun K "first_kinds" "first_kinds" s_first_kinds (f 3) (fd 3)
  g_first_kinds : mg "first_kinds" = some (.ref (f 3))
  F_kind_in : Fun K "kind_in" "kind_in" s_kind_in (f 4) (fd 4)
  g_kind_in : mg "kind_in" = some (.ref (f 4))
  F_is_name : Fun K "is_name" "is_name" s_is_name (f 5) (fd 5)
  g_is_name : mg "is_name" = some (.ref (f 5))
  F_is_piece : Fun K "is_piece" "is_piece" s_is_piece (f 6) (fd 6)
  g_is_piece : mg "is_piece" = some (.ref (f 6))
  F_turn_of : Fun K "turn_of" "turn_of" s_turn_of (f 7) (fd 7)
  g_turn_of : mg "turn_of" = some (.ref (f 7))
  F_is_row : Fun K "is_row" "is_row" s_is_row (f 8) (fd 8)
  g_is_row : mg "is_row" = some (.ref (f 8))
  F_is_balanced : Fun K "is_balanced" "is_balanced" s_is_balanced (f 9) (fd 9)
  g_is_balanced : mg "is_balanced" = some (.ref (f 9))
  F_hands_among : Fun K "hands_among" "hands_among" s_hands_among (f 10) (fd 10)
  g_hands_among : mg "hands_among" = some (.ref (f 10))
  F_are_marks : Fun K "are_marks" "are_marks" s_are_marks (f 11) (fd 11)
  g_are_marks : mg "are_marks" = some (.ref (f 11))
  F_is_body : Fun K "is_body" "is_body" s_is_body (f 12) (fd 12)
  g_is_body : mg "is_body" = some (.ref (f 12))
  F_is_rule : Fun K "is_rule" "is_rule" s_is_rule (f 13) (fd 13)
  g_is_rule : mg "is_rule" = some (.ref (f 13))
  F_is_box : Fun K "is_box" "is_box" s_is_box (f 14) (fd 14)
  g_is_box : mg "is_box" = some (.ref (f 14))
  F_is_key : Fun K "is_key" "is_key" s_is_key (f 15) (fd 15)
  g_is_key : mg "is_key" = some (.ref (f 15))
  F_is_sign_piece : Fun K "is_sign_piece" "is_sign_piece" s_is_sign_piece (f 16) (fd 16)
  g_is_sign_piece : mg "is_sign_piece" = some (.ref (f 16))
  F_is_meaning : Fun K "is_meaning" "is_meaning" s_is_meaning (f 17) (fd 17)
  g_is_meaning : mg "is_meaning" = some (.ref (f 17))
  F_is_number_worth : Fun K "is_number_worth" "is_number_worth" s_is_number_worth (f 18) (fd 18)
  g_is_number_worth : mg "is_number_worth" = some (.ref (f 18))
  F_is_row_worth : Fun K "is_row_worth" "is_row_worth" s_is_row_worth (f 19) (fd 19)
  g_is_row_worth : mg "is_row_worth" = some (.ref (f 19))
  F_is_worth : Fun K "is_worth" "is_worth" s_is_worth (f 20) (fd 20)
  g_is_worth : mg "is_worth" = some (.ref (f 20))
  F_first_meanings : Fun K "first_meanings" "first_meanings" s_first_meanings (f 21) (fd 21)
  g_first_meanings : mg "first_meanings" = some (.ref (f 21))
  F_Book_init : Fun K "__init__" "Book.__init__" s_Book_init (f 22) (fd 22)
  F_Book_worth : Fun K "worth" "Book.worth" s_Book_worth (f 23) (fd 23)
  F_Book_put : FunD K "put" "Book.put" (defArgs s_Book_put) (defBody s_Book_put) (defScope s_Book_put) [] [("for_all", .bl false)] (f 24) (fd 24)
  F_Book_kinds : Fun K "kinds" "Book.kinds" s_Book_kinds (f 25) (fd 25)
  F_Book_depth : Fun K "depth" "Book.depth" s_Book_depth (f 26) (fd 26)
  F_Book_kept_at : Fun K "kept_at" "Book.kept_at" s_Book_kept_at (f 27) (fd 27)
  F_Book_keep : Fun K "keep" "Book.keep" s_Book_keep (f 28) (fd 28)
  F_l_pool : Fun K "_law_pool" "_law_pool" s_l_pool (f 29) (fd 29)
  g_l_pool : mg "_law_pool" = some (.ref (f 29))
  F_l_take : Fun K "_law_take" "_law_take" s_l_take (f 30) (fd 30)
  g_l_take : mg "_law_take" = some (.ref (f 30))
  F_l_key : Fun K "_law_key" "_law_key" s_l_key (f 31) (fd 31)
  g_l_key : mg "_law_key" = some (.ref (f 31))
  F_l_worth : Fun K "_law_worth" "_law_worth" s_l_worth (f 32) (fd 32)
  g_l_worth : mg "_law_worth" = some (.ref (f 32))
  F_l_first : Fun K "_law_first" "_law_first" s_l_first (f 33) (fd 33)
  g_l_first : mg "_law_first" = some (.ref (f 33))
  F_l_every : Fun K "_law_every" "_law_every" s_l_every (f 34) (fd 34)
  g_l_every : mg "_law_every" = some (.ref (f 34))
  F_l_begun_right : Fun K "_law_begun_right" "_law_begun_right" s_l_begun_right (f 35) (fd 35)
  g_l_begun_right : mg "_law_begun_right" = some (.ref (f 35))
  F_l_right : Fun K "_law_right" "_law_right" s_l_right (f 36) (fd 36)
  g_l_right : mg "_law_right" = some (.ref (f 36))
  F_law : Fun K "law" "law" s_law (f 37) (fd 37)
  g_law : mg "law" = some (.ref (f 37))
  z_isinstance : mg "isinstance" = none
  z_str : mg "str" = none
  z_len : mg "len" = none
  z_int : mg "int" = none
  z_bool : mg "bool" = none
  z_all : mg "all" = none
  z_tuple : mg "tuple" = none
  z_list : mg "list" = none
  z_range : mg "range" = none
  z_dict : mg "dict" = none
  z_max : mg "max" = none
  z_repr : mg "repr" = none
  z_min : mg "min" = none
  g_KINDS : ∃ u, mg "KINDS" = some u ∧ RelV (.ref (f 38)) u
  k_KINDS : ∀ H, SqT K H (f 38) [.str "escape", .str "open", .str "shut", .str "mark", .str "letter", .str "other", .str "blank", .str "active", .str "remark", .str "gone"]
  g_FIRST_BUT_LETTERS : ∃ u, mg "FIRST_BUT_LETTERS" = some u ∧ RelV (.ref (f 39)) u
  k_FIRST_BUT_LETTERS : KDic K w (f 39) [(" ", "blank"), ("\t", "blank"), ("\n", "blank"), ("\\", "escape"), ("{", "open"), ("}", "shut"), ("#", "mark"), ("~", "active"), ("!", "remark")]
  g_LETTERS : ∃ u, mg "LETTERS" = some u ∧ RelV (.str "abcdefghijklmnopqrstuvwxyzABCDEFGHIJKLMNOPQRSTUVWXYZ") u
  g_MOST_SIGNS_OF_NAME : ∃ u, mg "MOST_SIGNS_OF_NAME" = some u ∧ RelV (.int 30) u
  g_WORDS_OF_ANY_SIGN : ∃ u, mg "WORDS_OF_ANY_SIGN" = some u ∧ RelV (.ref (f 40)) u
  k_WORDS_OF_ANY_SIGN : ∀ H, SqT K H (f 40) [.str "open", .str "shut", .str "mark", .str "letter", .str "other", .str "active"]
  g_MOST_HANDS : ∃ u, mg "MOST_HANDS" = some u ∧ RelV (.int 9) u
  g_MOST_MARKS : ∃ u, mg "MOST_MARKS" = some u ∧ RelV (.int 30) u
  g_WORDS_OF_NO_MARKS : ∃ u, mg "WORDS_OF_NO_MARKS" = some u ∧ RelV (.ref (f 41)) u
  k_WORDS_OF_NO_MARKS : ∀ H, SqT K H (f 41) [.str "open", .str "shut", .str "mark"]
  g_MOST_BOX : ∃ u, mg "MOST_BOX" = some u ∧ RelV (.int 255) u
  g_WORDS_OF_NO_SIGN_PIECE : ∃ u, mg "WORDS_OF_NO_SIGN_PIECE" = some u ∧ RelV (.ref (f 42)) u
  k_WORDS_OF_NO_SIGN_PIECE : ∀ H, SqT K H (f 42) [.str "name", .str "active", .str "hand"]
  g_DEEDS : ∃ u, mg "DEEDS" = some u ∧ RelV (.ref (f 43)) u
  k_DEEDS : ∀ H, SqT K H (f 43) [.str "behind", .str "name", .str "iflike", .str "ifsame", .str "ifkind", .str "ifless", .str "else", .str "fi", .str "figures", .str "row", .str "text", .str "rule", .str "through", .str "like", .str "kind", .str "set", .str "add", .str "keep", .str "all", .str "open", .str "shut", .str "later", .str "skip", .str "stay", .str "box", .str "endname"]
  g_GREAT : ∃ u, mg "GREAT" = some u ∧ RelV (.int 1000000000000) u
  k_BARE_WORTHS_3 : ∀ H, SqT K H (f 44) []
  g_BARE_WORTHS : ∃ u, mg "BARE_WORTHS" = some u ∧ RelV (.ref (f 45)) u
  k_BARE_WORTHS : KMix K w (f 45) [("name", .non), ("active", .non), ("box", .int 0), ("row", .ref (f 44))]
  g_EXCHANGED : ∃ u, mg "EXCHANGED" = some u ∧ RelV (.ref (f 46)) u
  k_EXCHANGED : ∀ H, SqT K H (f 46) [.str "behind", .str "name", .str "iflike", .str "ifsame", .str "ifkind", .str "ifless", .str "else", .str "fi", .str "figures", .str "row", .str "text"]
  g_Book : mg "Book" = some (.ref (f 47))
  cl_Book : Cls K (f 47)
  n_Book_table : NoAttr K (f 47) "table"
  n_Book_kept : NoAttr K (f 47) "kept"
  n_Book_groups : NoAttr K (f 47) "groups"
  M_Book : Mk K (f 47) (f 22)
  m_Book_worth : Meth K (f 47) "worth" (f 23)
  m_Book_put : Meth K (f 47) "put" (f 24)
  m_Book_kinds : Meth K (f 47) "kinds" (f 25)
  m_Book_depth : Meth K (f 47) "depth" (f 26)
  m_Book_kept_at : Meth K (f 47) "kept_at" (f 27)
  m_Book_keep : Meth K (f 47) "keep" (f 28)
section
variable {P : Program} {w : World} {K : PySem.W.Frag} {mg : Str → Option Value} {base : Heap} {f : Nat → Addr} {fd : Nat → FuncData}
theorem b_is_sign (T : Top w K mg f fd) : Binds K (fd 0) ["thing"] [] := T.F_is_sign.binds (ps := ["thing"]) fun _ _ _ _ _ _ us hl => match us, hl with | [_], _ => rfl
theorem b_is_whole (T : Top w K mg f fd) : Binds K (fd 1) ["thing"] [] := T.F_is_whole.binds (ps := ["thing"]) fun _ _ _ _ _ _ us hl => match us, hl with | [_], _ => rfl
theorem b_is_kind (T : Top w K mg f fd) : Binds K (fd 2) ["thing"] [] := T.F_is_kind.binds (ps := ["thing"]) fun _ _ _ _ _ _ us hl => match us, hl with | [_], _ => rfl
theorem b_first_kinds (T : Top w K mg f fd) : Binds K (fd 3) [] [] := T.F_first_kinds.binds (ps := []) fun _ _ _ _ _ _ us hl => match us, hl with | [], _ => rfl
theorem b_kind_in (T : Top w K mg f fd) : Binds K (fd 4) ["kinds", "sign"] [] := T.F_kind_in.binds (ps := ["kinds", "sign"]) fun _ _ _ _ _ _ us hl => match us, hl with | [_, _], _ => rfl
theorem b_is_name (T : Top w K mg f fd) : Binds K (fd 5) ["thing"] [] := T.F_is_name.binds (ps := ["thing"]) fun _ _ _ _ _ _ us hl => match us, hl with | [_], _ => rfl
theorem b_is_piece (T : Top w K mg f fd) : Binds K (fd 6) ["thing"] [] := T.F_is_piece.binds (ps := ["thing"]) fun _ _ _ _ _ _ us hl => match us, hl with | [_], _ => rfl
theorem b_turn_of (T : Top w K mg f fd) : Binds K (fd 7) ["piece"] [] := T.F_turn_of.binds (ps := ["piece"]) fun _ _ _ _ _ _ us hl => match us, hl with | [_], _ => rfl
theorem b_is_row (T : Top w K mg f fd) : Binds K (fd 8) ["thing"] [] := T.F_is_row.binds (ps := ["thing"]) fun _ _ _ _ _ _ us hl => match us, hl with | [_], _ => rfl
theorem b_is_balanced (T : Top w K mg f fd) : Binds K (fd 9) ["thing"] [] := T.F_is_balanced.binds (ps := ["thing"]) fun _ _ _ _ _ _ us hl => match us, hl with | [_], _ => rfl
theorem b_hands_among (T : Top w K mg f fd) : Binds K (fd 10) ["pieces"] [] := T.F_hands_among.binds (ps := ["pieces"]) fun _ _ _ _ _ _ us hl => match us, hl with | [_], _ => rfl
theorem b_are_marks (T : Top w K mg f fd) : Binds K (fd 11) ["thing"] [] := T.F_are_marks.binds (ps := ["thing"]) fun _ _ _ _ _ _ us hl => match us, hl with | [_], _ => rfl
theorem b_is_body (T : Top w K mg f fd) : Binds K (fd 12) ["thing", "many"] [] := T.F_is_body.binds (ps := ["thing", "many"]) fun _ _ _ _ _ _ us hl => match us, hl with | [_, _], _ => rfl
theorem b_is_rule (T : Top w K mg f fd) : Binds K (fd 13) ["thing"] [] := T.F_is_rule.binds (ps := ["thing"]) fun _ _ _ _ _ _ us hl => match us, hl with | [_], _ => rfl
theorem b_is_box (T : Top w K mg f fd) : Binds K (fd 14) ["thing"] [] := T.F_is_box.binds (ps := ["thing"]) fun _ _ _ _ _ _ us hl => match us, hl with | [_], _ => rfl
theorem b_is_key (T : Top w K mg f fd) : Binds K (fd 15) ["thing"] [] := T.F_is_key.binds (ps := ["thing"]) fun _ _ _ _ _ _ us hl => match us, hl with | [_], _ => rfl
theorem b_is_sign_piece (T : Top w K mg f fd) : Binds K (fd 16) ["thing"] [] := T.F_is_sign_piece.binds (ps := ["thing"]) fun _ _ _ _ _ _ us hl => match us, hl with | [_], _ => rfl
theorem b_is_meaning (T : Top w K mg f fd) : Binds K (fd 17) ["thing"] [] := T.F_is_meaning.binds (ps := ["thing"]) fun _ _ _ _ _ _ us hl => match us, hl with | [_], _ => rfl
theorem b_is_number_worth (T : Top w K mg f fd) : Binds K (fd 18) ["thing"] [] := T.F_is_number_worth.binds (ps := ["thing"]) fun _ _ _ _ _ _ us hl => match us, hl with | [_], _ => rfl
theorem b_is_row_worth (T : Top w K mg f fd) : Binds K (fd 19) ["thing"] [] := T.F_is_row_worth.binds (ps := ["thing"]) fun _ _ _ _ _ _ us hl => match us, hl with | [_], _ => rfl
theorem b_is_worth (T : Top w K mg f fd) : Binds K (fd 20) ["key", "thing"] [] := T.F_is_worth.binds (ps := ["key", "thing"]) fun _ _ _ _ _ _ us hl => match us, hl with | [_, _], _ => rfl
theorem b_first_meanings (T : Top w K mg f fd) : Binds K (fd 21) [] [] := T.F_first_meanings.binds (ps := []) fun _ _ _ _ _ _ us hl => match us, hl with | [], _ => rfl
theorem b_Book_init (T : Top w K mg f fd) : Binds K (fd 22) ["self"] [] := T.F_Book_init.binds (ps := ["self"]) fun _ _ _ _ _ _ us hl => match us, hl with | [_], _ => rfl
theorem b_Book_worth (T : Top w K mg f fd) : Binds K (fd 23) ["self", "key"] [] := T.F_Book_worth.binds (ps := ["self", "key"]) fun _ _ _ _ _ _ us hl => match us, hl with | [_, _], _ => rfl
theorem bk_Book_put (T : Top w K mg f fd) : ∃ mv : List Value, KBn K (fd 24) ["self", "key", "worth", "for_all"] 3 ["for_all"] (fun us ws => us ++ ws) (fun vs zs => vs ++ zs) := T.F_Book_put.kbinds0 (ps := ["self", "key", "worth", "for_all"]) 3 ["for_all"] [] (fun us _ zs => us ++ zs) (fun z => by cases z) (fun q z => by cases z) (fun r1 _ r3 => r1.append r3) fun _ _ _ _ _ _ us _ ws h1 _ h3 => match us, ws, h1, h3 with | [_, _, _], [_], _, _ => rfl
theorem b_Book_put (T : Top w K mg f fd) : ∃ ds, Vals [V.bl false] ds ∧ Binds K (fd 24) ["self", "key", "worth", "for_all"] ds := T.F_Book_put.binds0 (ps := ["self", "key", "worth", "for_all"]) 3 (fun z => by cases z) rfl fun _ _ _ _ _ _ us ks h1 h2 => match us, ks, h1, h2 with | [_, _, _], [_], _, _ => ⟨_, _, _, _, _, _, rfl, rfl, rfl⟩
theorem b_Book_kinds (T : Top w K mg f fd) : Binds K (fd 25) ["self"] [] := T.F_Book_kinds.binds (ps := ["self"]) fun _ _ _ _ _ _ us hl => match us, hl with | [_], _ => rfl
theorem b_Book_depth (T : Top w K mg f fd) : Binds K (fd 26) ["self"] [] := T.F_Book_depth.binds (ps := ["self"]) fun _ _ _ _ _ _ us hl => match us, hl with | [_], _ => rfl
theorem b_Book_kept_at (T : Top w K mg f fd) : Binds K (fd 27) ["self", "key"] [] := T.F_Book_kept_at.binds (ps := ["self", "key"]) fun _ _ _ _ _ _ us hl => match us, hl with | [_, _], _ => rfl
theorem b_Book_keep (T : Top w K mg f fd) : Binds K (fd 28) ["self", "key", "worth"] [] := T.F_Book_keep.binds (ps := ["self", "key", "worth"]) fun _ _ _ _ _ _ us hl => match us, hl with | [_, _, _], _ => rfl
theorem b_l_pool (T : Top w K mg f fd) : Binds K (fd 29) ["_law_script", "_law_k"] [] := T.F_l_pool.binds (ps := ["_law_script", "_law_k"]) fun _ _ _ _ _ _ us hl => match us, hl with | [_, _], _ => rfl
theorem b_l_take (T : Top w K mg f fd) : Binds K (fd 30) ["_law_pool_here", "_law_many"] [] := T.F_l_take.binds (ps := ["_law_pool_here", "_law_many"]) fun _ _ _ _ _ _ us hl => match us, hl with | [_, _], _ => rfl
theorem b_l_key (T : Top w K mg f fd) : Binds K (fd 31) ["_law_pool_here"] [] := T.F_l_key.binds (ps := ["_law_pool_here"]) fun _ _ _ _ _ _ us hl => match us, hl with | [_], _ => rfl
theorem b_l_worth (T : Top w K mg f fd) : Binds K (fd 32) ["_law_pool_here", "_law_word"] [] := T.F_l_worth.binds (ps := ["_law_pool_here", "_law_word"]) fun _ _ _ _ _ _ us hl => match us, hl with | [_, _], _ => rfl
theorem b_l_first (T : Top w K mg f fd) : Binds K (fd 33) ["_law_key_here"] [] := T.F_l_first.binds (ps := ["_law_key_here"]) fun _ _ _ _ _ _ us hl => match us, hl with | [_], _ => rfl
theorem b_l_every (T : Top w K mg f fd) : Binds K (fd 34) [] [] := T.F_l_every.binds (ps := []) fun _ _ _ _ _ _ us hl => match us, hl with | [], _ => rfl
theorem b_l_begun_right (T : Top w K mg f fd) : Binds K (fd 35) [] [] := T.F_l_begun_right.binds (ps := []) fun _ _ _ _ _ _ us hl => match us, hl with | [], _ => rfl
theorem b_l_right (T : Top w K mg f fd) : Binds K (fd 36) ["_law_pool_here"] [] := T.F_l_right.binds (ps := ["_law_pool_here"]) fun _ _ _ _ _ _ us hl => match us, hl with | [_], _ => rfl
theorem b_law (T : Top w K mg f fd) : Binds K (fd 37) ["_law_script"] [] := T.F_law.binds (ps := ["_law_script"]) fun _ _ _ _ _ _ us hl => match us, hl with | [_], _ => rfl
/-! ### the mirror -/
def isSignS (s : Str) : Bool := ((!decide (s.cps.toList < (" " : Str).cps.toList)) && (!decide (("~" : Str).cps.toList < s.cps.toList))) || inF (.str s) [.str "\t", .str "\n"]
def isSignD : PyData → Bool
  | .str s => if s.length = 1 then isSignS s else false
  | _ => false
def isWholeD : PyData → Bool
  | .int _ => true
  | _ => false
def isNameD : PyData → Bool
  | .str s => decide (1 ≤ (s.length : Int)) && decide ((s.length : Int) ≤ 30) && (s.cps.toList.map fun c => isSignD (.str (oneS c))).all id
  | _ => false
def handRange : PyData → Bool
  | .int i => decide (1 ≤ i) && decide (i ≤ 9)
  | _ => false
abbrev wordsAny : List PyData := [.str "open", .str "shut", .str "mark", .str "letter", .str "other", .str "active"]
def isPieceD : PyData → Bool
  | .tuple [.str w, s] => if inF (.str w) wordsAny then isSignD s else
      if eqF (.str w) (.str "blank") then isSignD s && eqF s (.str " ") else if eqF (.str w) (.str "name") then isNameD s else
      eqF (.str w) (.str "hand") && (isWholeD s && handRange s)
  | _ => false
def strS (n : Nat) (d : PyData) : Prop := ∀ s, d = .str s → s.length ≤ n
def strT (n : Nat) (d : PyData) : Prop := ∀ xs, d = .tuple xs → ∀ s, .str s ∈ xs → s.length ≤ n
theorem kit_str : ∀ d : PyData, kitB (tyN d) "str" = some (match d with | .str _ => true | _ => false)
  | .none => (by decide +kernel : kitB "NoneType" "str" = some false)
  | .bool _ => (by decide +kernel : kitB "bool" "str" = some false)
  | .int _ => (by decide +kernel : kitB "int" "str" = some false)
  | .str _ => (by decide +kernel : kitB "str" "str" = some true)
  | .list _ => (by decide +kernel : kitB "list" "str" = some false)
  | .tuple _ => (by decide +kernel : kitB "tuple" "str" = some false)
  | .dict _ => (by decide +kernel : kitB "dict" "str" = some false)
theorem kit_tuple : ∀ d : PyData, kitB (tyN d) "tuple" = some (match d with | .tuple _ => true | _ => false)
  | .none => (by decide +kernel : kitB "NoneType" "tuple" = some false)
  | .bool _ => (by decide +kernel : kitB "bool" "tuple" = some false)
  | .int _ => (by decide +kernel : kitB "int" "tuple" = some false)
  | .str _ => (by decide +kernel : kitB "str" "tuple" = some false)
  | .list _ => (by decide +kernel : kitB "list" "tuple" = some false)
  | .tuple _ => (by decide +kernel : kitB "tuple" "tuple" = some true)
  | .dict _ => (by decide +kernel : kitB "dict" "tuple" = some false)
theorem kit_list : ∀ d : PyData, kitB (tyN d) "list" = some (match d with | .list _ => true | _ => false)
  | .none => (by decide +kernel : kitB "NoneType" "list" = some false)
  | .bool _ => (by decide +kernel : kitB "bool" "list" = some false)
  | .int _ => (by decide +kernel : kitB "int" "list" = some false)
  | .str _ => (by decide +kernel : kitB "str" "list" = some false)
  | .list _ => (by decide +kernel : kitB "list" "list" = some true)
  | .tuple _ => (by decide +kernel : kitB "tuple" "list" = some false)
  | .dict _ => (by decide +kernel : kitB "dict" "list" = some false)
theorem kit_int : ∀ d : PyData, kitB (tyN d) "int" = some (match d with | .int _ => true | .bool _ => true | _ => false)
  | .none => (by decide +kernel : kitB "NoneType" "int" = some false)
  | .bool _ => (by decide +kernel : kitB "bool" "int" = some true)
  | .int _ => (by decide +kernel : kitB "int" "int" = some true)
  | .str _ => (by decide +kernel : kitB "str" "int" = some false)
  | .list _ => (by decide +kernel : kitB "list" "int" = some false)
  | .tuple _ => (by decide +kernel : kitB "tuple" "int" = some false)
  | .dict _ => (by decide +kernel : kitB "dict" "int" = some false)
theorem kit_bool : ∀ d : PyData, kitB (tyN d) "bool" = some (match d with | .bool _ => true | _ => false)
  | .none => (by decide +kernel : kitB "NoneType" "bool" = some false)
  | .bool _ => (by decide +kernel : kitB "bool" "bool" = some true)
  | .int _ => (by decide +kernel : kitB "int" "bool" = some false)
  | .str _ => (by decide +kernel : kitB "str" "bool" = some false)
  | .list _ => (by decide +kernel : kitB "list" "bool" = some false)
  | .tuple _ => (by decide +kernel : kitB "tuple" "bool" = some false)
  | .dict _ => (by decide +kernel : kitB "dict" "bool" = some false)
theorem xe_isi {K : PySem.W.Frag} {W : Wd} {Δ : Env} {te : TE} {d : PyData} {T : String} {b : Bool} (h : XV K W te Δ (.d d)) (k : kitB (tyN d) T = some b) : XV K W (tCB (rIsi K) (tCons te (tCons (tC (.ty T)) tNil))) Δ (.d (.bool b)) :=
  xe_cb (xa_cons h (xa_cons xe_c xa_nil)) (cx_isi k)
def isRowD : PyData → Bool
  | .list ds => (ds.map isPieceD).all id
  | _ => false
def depthOf : PyData → Int
  | .tuple [.str w, _] => if eqF (.str w) (.str "open") then 1 else if eqF (.str w) (.str "shut") then -1 else 0
  | _ => 0
def balFrom (n : Int) : List PyData → Bool
  | [] => decide (n = 0)
  | d :: r => if n + depthOf d < 0 then false else balFrom (n + depthOf d) r
def isBalD (d : PyData) : Bool := isRowD d && match d with | .list ds => balFrom 0 ds | _ => false
abbrev Pc (w s : String) : PyData := .tuple [.str w, .str s]
abbrev menu6 : List PyData := [Pc "letter" "a", Pc "letter" "b", Pc "other" ".", Pc "other" ";", Pc "blank" " ", Pc "name" "x"]
abbrev menuB : List PyData := [Pc "active" "~", Pc "other" "1", Pc "name" "."]
abbrev menuC : List PyData := [Pc "mark" "#", Pc "letter" "Z", Pc "other" "a"]
def menu : List PyData := menu6 ++ menuB ++ menuC
def menu2 : List PyData := Pc "open" "{" :: Pc "shut" "}" :: menu
def rowLen : Nat → Nat
  | 0 => 0
  | n + 1 => 8 * (2 + rowLen n)
theorem rowLen_le : ∀ {n : Nat}, n ≤ 3 → rowLen n ≤ 1168
  | 0, _ => by decide
  | 1, _ => by decide
  | 2, _ => by decide
  | 3, _ => by decide
  | n + 4, h => by omega
structure RowOk (n : Nat) (ds : List PyData) : Prop where
  mem : ∀ d ∈ ds, d ∈ menu2
  len : ds.length ≤ n
def preRow (n : Nat) (W : Wd) (as : List A) : Prop := ∃ pa m deep, as = [.v (.ref pa), .d (.int m), .d (.int deep)] ∧ HasPool W pa ∧ 0 ≤ m ∧ m ≤ 8 ∧ 0 ≤ deep ∧ deep < (n : Int)
def postRow (n : Nat) (_ : List A) (a : A) : Prop := ∃ ds, a = .d (.list ds) ∧ RowOk (rowLen n) ds
theorem piece_shape {x : PyData} (px : isPieceD x = true) : ∃ w s, x = .tuple [.str w, s] := by
  unfold isPieceD at px
  split at px
  · exact ⟨_, _, rfl⟩
  · cases px
def dep (ds : List PyData) : Int := (ds.map depthOf).sum
theorem depth_eq (w : Str) (s : PyData) : depthOf (.tuple [.str w, s]) = (if eqF (.str w) (.str "open") then 1 else 0) - (if eqF (.str w) (.str "shut") then 1 else 0) := by
  show (if _ then _ else if _ then _ else _) = _
  by_cases c : eqF (.str w) (.str "open") = true
  · have e : w = "open" := V.str.inj (of_decide_eq_true c)
    subst e
    rfl
  · rw [if_neg c, if_neg c]
    by_cases c' : eqF (.str w) (.str "shut") = true
    · rw [if_pos c', if_pos c']; rfl
    · rw [if_neg c', if_neg c']; rfl
theorem bal_all : ∀ (ds : List PyData) (n : Int), balFrom n ds = ((List.range ds.length).all (fun i => decide (0 ≤ n + dep (ds.take (i + 1)))) && decide (n + dep ds = 0))
  | [], n => by
    show decide (n = 0) = (true && decide (n + 0 = 0))
    rw [Int.add_zero, Bool.true_and]
  | d :: r, n => by
    have ih := bal_all r (n + depthOf d)
    have e1 : ∀ i, dep ((d :: r).take (i + 1)) = depthOf d + dep (r.take i) := fun i => by simp [dep]
    have e2 : dep (d :: r) = depthOf d + dep r := by simp [dep]
    show (if n + depthOf d < 0 then false else balFrom (n + depthOf d) r) = _
    rw [List.length_cons, List.range_succ_eq_map, List.all_cons, List.all_map, e2, e1 0]
    have z : dep (r.take 0) = 0 := by simp [dep]
    rw [z, Int.add_zero]
    by_cases c : n + depthOf d < 0
    · rw [if_pos c, decide_eq_false (by omega)]
      rfl
    · rw [if_neg c, decide_eq_true (by omega), ih, Bool.true_and]
      congr 1
      · congr 1
        funext i
        show _ = decide (0 ≤ n + dep ((d :: r).take (i + 1 + 1)))
        rw [e1, Int.add_assoc]
      · rw [Int.add_assoc]
def depths (ds : List PyData) (m : Nat) : List Int := (List.range (m + 1)).map fun i => dep (ds.take i)
theorem depths_snoc (ds : List PyData) (m : Nat) : depths ds (m + 1) = depths ds m ++ [dep (ds.take (m + 1))] := by
  unfold depths
  rw [List.range_succ, List.map_append]
  rfl
theorem depths_last (ds : List PyData) (m : Nat) : ∃ ys, depths ds m = ys ++ [dep (ds.take m)] := by
  cases m with
  | zero => exact ⟨[], rfl⟩
  | succ m => exact ⟨_, depths_snoc ds m⟩
theorem depths_bal (ds : List PyData) : ((depths ds ds.length).all (fun y => decide (0 ≤ y)) && decide (dep ds = 0)) = balFrom 0 ds := by
  rw [bal_all]
  unfold depths
  rw [List.range_succ_eq_map, List.map_cons, List.all_cons, List.map_map, List.all_map]
  have z : dep (ds.take 0) = 0 := by simp [dep]
  rw [z, Int.zero_add, decide_eq_true (Int.le_refl 0), Bool.true_and]
  congr 2
  funext i
  show decide (0 ≤ dep (ds.take (i + 1))) = decide (0 ≤ 0 + dep (ds.take (i + 1)))
  rw [Int.zero_add]
def dueD (d : PyData) (g : Bool) : PyData := .list (match d, g with | .list ds, true => [.bool true, .bool (balFrom 0 ds)] | _, _ => [.bool false, .bool false])
theorem dep_take {ds : List PyData} {m : Nat} {x : PyData} (h : ds[m]? = some x) : dep (ds.take (m + 1)) = dep (ds.take m) + depthOf x := by
  unfold dep
  rw [List.take_add_one, h, List.map_append, List.sum_append]
  show _ + (depthOf x + 0) = _
  rw [Int.add_zero]
theorem one_len (c : Nat) : (oneS c).length = 1 := rfl
def pre_is_sign (K : PySem.W.Frag) (W : Wd) (as : List A) : Prop := ∃ d, as = [.d d] ∧ strS 100000 d
def post_is_sign (as : List A) (a : A) : Prop := match as with | [.d d] => a = .d (.bool (isSignD d)) | _ => False
theorem ok_is_sign (T : Top w K mg f fd) : FnOk P w K mg base CX0 1 (f 0) (fd 0) ["thing"] (spD K (pre_is_sign K) post_is_sign) := by
  refine okD T.F_is_sign sc_is_sign (fun W as p => ?_) (fun cdv Ar outer s H E hr => ⟨_, (pss_cons (ps_if (PW.pt (pw_or (pt_not (pt_val (pe_callB call_isi (by rfl) T.z_isinstance (by decide +kernel) (pa_cons (pv 0) (pa_cons (pe_bltn (v := .ty "str") (by rfl) T.z_str (by decide +kernel) rfl) pa_nil))))) (pw_or1 (pt_cmpR op_ne (pe_callB c_lenS (by rfl) T.z_len (by decide +kernel) (pa_cons (pv 0) pa_nil)) pe_int (nomark _))))) (pss_one (ps_ret pe_bl)) pss_nil)
      (pss_one (ps_ret (pe_or (pe_chain o_leS o_leS pe_str (pv 0) pe_str) (pe_one (pe_cmpR op_in_seq (pv 0) (pe_tup (pa_cons pe_str (pa_cons pe_str pa_nil))) (by rfl))))))), fun W as p => ?_⟩)
  · obtain ⟨_, rfl, _⟩ := p; rfl
  obtain ⟨d, rfl, hs⟩ := p
  have var : ∀ W, XV K W (tVar 0) (startE ["thing"] [.d d]) (.d d) := fun W => xe_var rfl
  cases d with
  | str s =>
    have hs := hs s rfl
    have hz : s.length ≤ sizeLine := Nat.le_trans hs (by decide)
    refine xs_seq (N1 := fun Δ => s.length = 1 ∧ Δ = startE ["thing"] [.d (.str s)]) ?_ ?_
    · refine xs_if (xt_or (xt_not (xt_B (xe_isi (var W) (kit_str _)))) fun _ => xt_test (xe_op (xe_cb (xa_cons (var W) xa_nil) (cx_lenS hz)) xe_int (ox_ne rfl rfl rfl))) (fun c => ?_) fun c => ?_
      · refine xs_ret xe_bl fun a e => ?_
        subst e
        have h1 : ¬ s.length = 1 := fun z => by
          rw [z] at c
          simp [eqF, vOf] at c
        show A.d (.bool false) = .d (.bool (if s.length = 1 then isSignS s else false))
        rw [if_neg h1]
      · refine xs_next ⟨?_, rfl⟩
        have h2 : (s.length : Int) = 1 := by simpa [eqF, vOf] using c
        omega
    · rintro Δ' ⟨h1, rfl⟩
      refine xs_ret (xe_orV (xe_chain xe_str (var W) ox_leS (fun _ => xe_str) fun _ => ox_leS) fun _ => xe_op (var W) (xe_tup (ds := [.str "\t", .str "\n"]) (xa_cons xe_str (xa_cons xe_str xa_nil))) (ox_inT rfl rfl)) fun a e => ?_
      subst e
      show A.d (.bool _) = .d (.bool (if s.length = 1 then isSignS s else false))
      rw [if_pos h1]
      rfl
  | _ =>
    refine xs_seq (N1 := fun _ => False) (xs_if (xt_or (b := false) (xt_not (xt_B (xe_isi (var W) (kit_str _)))) fun z => by simp at z) (fun _ => xs_ret xe_bl fun a e => e) fun z => by simp at z) fun _ z => z.elim
def pre_is_whole (K : PySem.W.Frag) (W : Wd) (as : List A) : Prop := ∃ d, as = [.d d]
def post_is_whole (as : List A) (a : A) : Prop := match as with | [.d d] => a = .d (.bool (isWholeD d)) | _ => False
theorem ok_is_whole (T : Top w K mg f fd) : FnOk P w K mg base CX0 1 (f 1) (fd 1) ["thing"] (spD K (pre_is_whole K) post_is_whole) := by
  refine okD T.F_is_whole sc_is_whole (fun W as p => ?_) (fun cdv Ar outer s H E hr => ⟨_, (pss_one (ps_ret (pe_and (pe_callB call_isi (by rfl) T.z_isinstance (by decide +kernel) (pa_cons (pv 0) (pa_cons (pe_bltn (v := .ty "int") (by rfl) T.z_int (by decide +kernel) rfl) pa_nil))) (pe_one (pe_not (pe_callB call_isi (by rfl) T.z_isinstance (by decide +kernel) (pa_cons (pv 0) (pa_cons (pe_bltn (v := .ty "bool") (by rfl) T.z_bool (by decide +kernel) rfl) pa_nil)))))))), fun W as p => ?_⟩)
  · obtain ⟨_, rfl, _⟩ := p; rfl
  obtain ⟨d, rfl⟩ := p
  have var : XV K W (tVar 0) (startE ["thing"] [.d d]) (.d d) := xe_var rfl
  refine xs_ret (xe_andV (xe_isi var (kit_int d)) fun _ => xe_notV (xe_isi var (kit_bool d))) fun a e => ?_
  subst e
  cases d <;> rfl
def pre_is_name (K : PySem.W.Frag) (W : Wd) (as : List A) : Prop := ∃ d, as = [.d d] ∧ strS 100000 d
def post_is_name (as : List A) (a : A) : Prop := match as with | [.d d] => a = .d (.bool (isNameD d)) | _ => False
theorem ok_is_name (T : Top w K mg f fd) : FnOk P w K mg base CX0 2 (f 5) (fd 5) ["thing"] (spD K (pre_is_name K) post_is_name) := by
  refine okD T.F_is_name sc_is_name (fun W as p => ?_) (fun cdv Ar outer s H E hr => ⟨_, (pss_cons (ps_if (PW.pt (pw_or (pt_not (pt_val (pe_callB call_isi (by rfl) T.z_isinstance (by decide +kernel) (pa_cons (pv 0) (pa_cons (pe_bltn (v := .ty "str") (by rfl) T.z_str (by decide +kernel) rfl) pa_nil))))) (pw_or1 (pt_not (pt_chain o_le o_le pe_int (pe_callB c_lenS (by rfl) T.z_len (by decide +kernel) (pa_cons (pv 0) pa_nil)) (pe_const (by rfl) T.g_MOST_SIGNS_OF_NAME)))))) (pss_one (ps_ret pe_bl)) pss_nil)
      (pss_one (ps_ret (pe_callB (cr_all rfl) (by rfl) T.z_all (by decide +kernel) (pa_cons (pe_lc (own := [("sign", 1)]) (g := gName 1) (tt := tYes) (by rfl) sc_is_name.nd (pi_str (pv 0)) (blkOk_by (own := [("sign", 1)]) (N := ["thing", "sign"]) (sc := defScope s_is_name) (by decide +kernel)) (fun _ _ _ _ _ => pg_name (i := 1) sc_is_name.nd rfl (Or.inl rfl)) (fun _ _ _ _ _ => pts_nil) (fun _ _ _ _ _ => (pe_call (ok_is_sign T) hr (by rfl) T.g_is_sign T.F_is_sign.kp (b_is_sign T) .nil pass0 (pa_cons (pv 1) pa_nil)))) pa_nil))))), fun W as p => ?_⟩)
  · obtain ⟨_, rfl, _⟩ := p; rfl
  obtain ⟨d, rfl, hs⟩ := p
  have var : XV K W (tVar 0) (startE ["thing", "sign"] [.d d]) (.d d) := xe_var rfl
  cases d with
  | str s =>
    have hs := hs s rfl
    have hz : s.length ≤ sizeLine := Nat.le_trans hs (by decide)
    let ok := decide (1 ≤ (s.length : Int)) && decide ((s.length : Int) ≤ 30)
    refine xs_seq (N1 := fun Δ => ok = true ∧ Δ = startE ["thing", "sign"] [.d (.str s)]) ?_ ?_
    · refine xs_if (xt_or (xt_not (xt_B (xe_isi var (kit_str _)))) fun _ => xt_not (xt_test (xe_chain xe_int (xe_cb (xa_cons var xa_nil) (cx_lenS hz)) ox_IB (fun _ => xe_int) fun _ => ox_IB))) (fun c => ?_) fun c => ?_
      · refine xs_ret xe_bl fun a e => ?_
        subst e
        have h1 : ok = false := by
          cases hok : ok with
          | false => rfl
          | true =>
            have c' : (!true || !ok) = true := c
            rw [hok] at c'
            exact absurd c' (by decide)
        show A.d (.bool false) = .d (.bool (ok && _))
        rw [h1]
        rfl
      · refine xs_next ⟨?_, rfl⟩
        cases hok : ok with
        | true => rfl
        | false =>
          have c' : (!true || !ok) = false := c
          rw [hok] at c'
          exact absurd c' (by decide)
    · rintro Δ' ⟨h1, rfl⟩
      have lc := xe_lcS (W := W) (k := 1) (g := fun c => .bool (isSignD (.str (oneS c)))) var hs fun D φ c mD => xe_call (K := K) (pre := pre_is_sign K) (post := post_is_sign) (E := E0) (xa_cons (xe_var (i := 1) rfl) xa_nil) ⟨_, rfl, fun s e => by cases e; exact (by decide : 1 ≤ 100000)⟩
      rw [bools_of] at lc
      refine xs_ret (xe_cb (xa_cons lc xa_nil) cx_all) fun a e => ?_
      subst e
      show A.d (.bool _) = .d (.bool (ok && _))
      rw [h1]
      rfl
  | _ =>
    refine xs_seq (N1 := fun _ => False) (xs_if (xt_or (b := false) (xt_not (xt_B (xe_isi var (kit_str _)))) fun z => by simp at z) (fun _ => xs_ret xe_bl fun a e => e) fun z => by simp at z) fun _ z => z.elim
def pre_is_piece (K : PySem.W.Frag) (W : Wd) (as : List A) : Prop := ∃ d, as = [.d d] ∧ strT 100000 d
def post_is_piece (as : List A) (a : A) : Prop := match as with | [.d d] => a = .d (.bool (isPieceD d)) | _ => False
theorem ok_is_piece (T : Top w K mg f fd) : FnOk P w K mg base CX0 3 (f 6) (fd 6) ["thing"] (spD K (pre_is_piece K) post_is_piece) := by
  refine okD T.F_is_piece sc_is_piece (fun W as p => ?_) (fun cdv Ar outer s H E hr => ⟨_, (pss_cons (ps_if (PW.pt (pw_or (pt_not (pt_val (pe_callB call_isi (by rfl) T.z_isinstance (by decide +kernel) (pa_cons (pv 0) (pa_cons (pe_bltn (v := .ty "tuple") (by rfl) T.z_tuple (by decide +kernel) rfl) pa_nil))))) (pw_or1 (pt_cmpR op_ne (pe_callB c_len (by rfl) T.z_len (by decide +kernel) (pa_cons (pv 0) pa_nil)) pe_int (nomark _))))) (pss_one (ps_ret pe_bl)) pss_nil)
      (pss_cons (ps_asg (pv 0) (pg_tup rfl (pgs_cons (pg_name (i := 1) sc_is_piece.nd rfl (Or.inl rfl)) (pgs_cons (pg_name (i := 2) sc_is_piece.nd rfl (Or.inl rfl)) pgs_nil))))
      (pss_cons (ps_if (pt_not (pt_val (pe_callB call_isi (by rfl) T.z_isinstance (by decide +kernel) (pa_cons (pv 1) (pa_cons (pe_bltn (v := .ty "str") (by rfl) T.z_str (by decide +kernel) rfl) pa_nil))))) (pss_one (ps_ret pe_bl)) pss_nil)
      (pss_cons (ps_if (pt_cmpR op_in_seq (pv 1) (pe_const (by rfl) T.g_WORDS_OF_ANY_SIGN) (by rfl)) (pss_one (ps_ret (pe_call (ok_is_sign T) (hr.mono (by omega)) (by rfl) T.g_is_sign T.F_is_sign.kp (b_is_sign T) .nil pass0 (pa_cons (pv 2) pa_nil)))) pss_nil)
      (pss_cons (ps_if (pt_cmpR op_eq (pv 1) pe_str (nomark _)) (pss_one (ps_ret (pe_and (pe_call (ok_is_sign T) (hr.mono (by omega)) (by rfl) T.g_is_sign T.F_is_sign.kp (b_is_sign T) .nil pass0 (pa_cons (pv 2) pa_nil)) (pe_one (pe_cmpR op_eq (pv 2) pe_str (nomark _)))))) pss_nil)
      (pss_cons (ps_if (pt_cmpR op_eq (pv 1) pe_str (nomark _)) (pss_one (ps_ret (pe_call (ok_is_name T) hr (by rfl) T.g_is_name T.F_is_name.kp (b_is_name T) .nil pass0 (pa_cons (pv 2) pa_nil)))) pss_nil)
      (pss_one (ps_ret (pe_and (pe_cmpR op_eq (pv 1) pe_str (nomark _)) (pe_and (pe_call (ok_is_whole T) (hr.mono (by omega)) (by rfl) T.g_is_whole T.F_is_whole.kp (b_is_whole T) .nil pass0 (pa_cons (pv 2) pa_nil)) (pe_one (pe_chain o_le o_le pe_int (pv 2) (pe_const (by rfl) T.g_MOST_HANDS))))))))))))), fun W as p => ?_⟩)
  · obtain ⟨_, rfl, _⟩ := p; rfl
  obtain ⟨d, rfl, hs⟩ := p
  have var : XV K W (tVar 0) (startE ["thing", "word", "signs"] [.d d]) (.d d) := xe_var rfl
  cases d with
  | tuple xs =>
    by_cases h2 : xs.length = 2
    · obtain ⟨x, y, rfl⟩ : ∃ x y, xs = [x, y] := by
        match xs, h2 with
        | [x, y], _ => exact ⟨x, y, rfl⟩
      have hy : ∀ s, y = .str s → s.length ≤ 100000 := fun s e => hs _ rfl s (by rw [e]; simp)
      refine xs_seq (N1 := fun Δ => Δ = startE ["thing", "word", "signs"] [.d (.tuple [x, y])]) (xs_if (xt_or (xt_not (xt_B (xe_isi var (kit_tuple _)))) fun _ => xt_test (xe_op (xe_cb (xa_cons var xa_nil) cx_lenT) xe_int (ox_ne rfl rfl rfl))) (fun z => ?_) fun _ => xs_next rfl) ?_
      · simp [eqF, vOf] at z
      rintro Δ' rfl
      refine xs_seq (N1 := fun Δ => Δ = [some (.d (.tuple [x, y])), some (.d x), some (.d y)]) (xs_asg var gx_tup2 rfl) ?_
      rintro Δ' rfl
      have vw : XV K W (tVar 1) [some (.d (.tuple [x, y])), some (.d x), some (.d y)] (.d x) := xe_var rfl
      have vs : XV K W (tVar 2) [some (.d (.tuple [x, y])), some (.d x), some (.d y)] (.d y) := xe_var rfl
      cases x with
      | str w =>
        refine xs_seq (N1 := fun Δ => Δ = [some (.d (.tuple [.str w, y])), some (.d (.str w)), some (.d y)]) (xs_if (xt_not (xt_B (xe_isi vw (kit_str _)))) (fun z => by simp at z) fun _ => xs_next rfl) ?_
        rintro Δ' rfl
        have pre : strS 100000 y := hy
        have sgn : XV K W (tCall (spD K (pre_is_sign K) post_is_sign) [] E0 (tCons (tVar 2) tNil)) _ (.d (.bool (isSignD y))) := xe_call (xa_cons vs xa_nil) ⟨_, rfl, pre⟩
        have nam : XV K W (tCall (spD K (pre_is_name K) post_is_name) [] E0 (tCons (tVar 2) tNil)) _ (.d (.bool (isNameD y))) := xe_call (xa_cons vs xa_nil) ⟨_, rfl, pre⟩
        have who : XV K W (tCall (spD K (pre_is_whole K) post_is_whole) [] E0 (tCons (tVar 2) tNil)) _ (.d (.bool (isWholeD y))) := xe_call (xa_cons vs xa_nil) ⟨_, rfl⟩
        refine xs_seq (N1 := fun Δ => inF (.str w) wordsAny = false ∧ Δ = [some (.d (.tuple [.str w, y])), some (.d (.str w)), some (.d y)]) (xs_if (xt_test (xe_op vw (xe_ktup T.k_WORDS_OF_ANY_SIGN (ds := wordsAny) rfl rfl) (ox_inT rfl rfl))) (fun z => ?_) fun z => xs_next ⟨z, rfl⟩) ?_
        · refine xs_ret sgn fun a e => ?_
          subst e
          show A.d _ = A.d (.bool (if _ then _ else _))
          rw [if_pos (show inF (.str w) wordsAny = true from z)]
        rintro Δ' ⟨z1, rfl⟩
        refine xs_seq (N1 := fun Δ => eqF (.str w) (.str "blank") = false ∧ Δ = [some (.d (.tuple [.str w, y])), some (.d (.str w)), some (.d y)]) (xs_if (xt_test (xe_op vw xe_str (ox_eq rfl rfl rfl))) (fun z => ?_) fun z => xs_next ⟨z, rfl⟩) ?_
        · refine xs_ret (xe_andV sgn (b := eqF y (.str " ")) fun sy => ?_) fun a e => ?_
          · obtain ⟨s, rfl⟩ : ∃ s, y = .str s := by cases y <;> first | exact ⟨_, rfl⟩ | (simp [isSignD] at sy)
            exact xe_op vs xe_str (ox_eq rfl rfl rfl)
          · subst e
            show A.d _ = A.d (.bool (if _ then _ else if _ then _ else _))
            rw [if_neg (by rw [z1]; decide), if_pos z]
        rintro Δ' ⟨z2, rfl⟩
        refine xs_seq (N1 := fun Δ => eqF (.str w) (.str "name") = false ∧ Δ = [some (.d (.tuple [.str w, y])), some (.d (.str w)), some (.d y)]) (xs_if (xt_test (xe_op vw xe_str (ox_eq rfl rfl rfl))) (fun z => ?_) fun z => xs_next ⟨z, rfl⟩) ?_
        · refine xs_ret nam fun a e => ?_
          subst e
          show A.d _ = A.d (.bool (if _ then _ else if _ then _ else if _ then _ else _))
          rw [if_neg (by rw [z1]; decide), if_neg (by rw [z2]; decide), if_pos z]
        rintro Δ' ⟨z3, rfl⟩
        refine xs_ret (xe_andV (xe_op vw xe_str (ox_eq rfl rfl rfl)) fun _ => xe_andV who (b := handRange y) fun sy => ?_) fun a e => ?_
        · obtain ⟨i, rfl⟩ : ∃ i, y = .int i := by cases y <;> first | exact ⟨_, rfl⟩ | (simp [isWholeD] at sy)
          exact xe_chain xe_int vs ox_IB (fun _ => xe_int) fun _ => ox_IB
        · subst e
          show A.d _ = A.d (.bool (if _ then _ else if _ then _ else if _ then _ else _))
          rw [if_neg (by rw [z1]; decide), if_neg (by rw [z2]; decide), if_neg (by rw [z3]; decide)]
      | _ =>
        refine xs_seq (N1 := fun _ => False) (xs_if (xt_not (xt_B (xe_isi vw (kit_str _)))) (fun _ => xs_ret xe_bl fun a e => e) fun z => by simp at z) fun _ z => z.elim
    · refine xs_seq (N1 := fun _ => False) (xs_if (xt_or (xt_not (xt_B (xe_isi var (kit_tuple _)))) fun _ => xt_test (xe_op (xe_cb (xa_cons var xa_nil) cx_lenT) xe_int (ox_ne rfl rfl rfl))) (fun z => xs_ret xe_bl fun a e => ?_) fun z => ?_) fun _ z => z.elim
      · subst e
        match xs, h2 with
        | [], _ => rfl
        | [x], _ => cases x <;> rfl
        | x :: y :: z :: r, _ => cases x <;> rfl
      · have z' : (xs.length : Int) = 2 := by simpa [eqF, vOf] using z
        omega
  | _ =>
    refine xs_seq (N1 := fun _ => False) (xs_if (xt_or (b := false) (xt_not (xt_B (xe_isi var (kit_tuple _)))) fun z => by simp at z) (fun _ => xs_ret xe_bl fun a e => e) fun z => by simp at z) fun _ z => z.elim
def pre_is_row (K : PySem.W.Frag) (W : Wd) (as : List A) : Prop := ∃ d, as = [.d d] ∧ ∀ ds, d = .list ds → ds.length ≤ 10000 ∧ ∀ x ∈ ds, strT 100000 x
def post_is_row (as : List A) (a : A) : Prop := match as with | [.d d] => a = .d (.bool (isRowD d)) | _ => False
theorem ok_is_row (T : Top w K mg f fd) : FnOk P w K mg base CX0 4 (f 8) (fd 8) ["thing"] (spD K (pre_is_row K) post_is_row) := by
  refine okD T.F_is_row sc_is_row (fun W as p => ?_) (fun cdv Ar outer s H E hr => ⟨_, (pss_one (ps_ret (pe_and (pe_callB call_isi (by rfl) T.z_isinstance (by decide +kernel) (pa_cons (pv 0) (pa_cons (pe_bltn (v := .ty "list") (by rfl) T.z_list (by decide +kernel) rfl) pa_nil))) (pe_one (pe_callB (cr_all rfl) (by rfl) T.z_all (by decide +kernel) (pa_cons (pe_lc (own := [("piece", 1)]) (g := gName 1) (tt := tYes) (by rfl) sc_is_row.nd (pi_list (pv 0)) (blkOk_by (own := [("piece", 1)]) (N := ["thing", "piece"]) (sc := defScope s_is_row) (by decide +kernel)) (fun _ _ _ _ _ => pg_name (i := 1) sc_is_row.nd rfl (Or.inl rfl)) (fun _ _ _ _ _ => pts_nil) (fun _ _ _ _ _ => (pe_call (ok_is_piece T) hr (by rfl) T.g_is_piece T.F_is_piece.kp (b_is_piece T) .nil pass0 (pa_cons (pv 1) pa_nil)))) pa_nil)))))), fun W as p => ?_⟩)
  · obtain ⟨_, rfl, _⟩ := p; rfl
  obtain ⟨d, rfl, hs⟩ := p
  have var : XV K W (tVar 0) (startE ["thing", "piece"] [.d d]) (.d d) := xe_var rfl
  cases d with
  | list ds =>
    obtain ⟨hl, hp⟩ := hs ds rfl
    have lc := xe_lcL (W := W) (k := 1) (g := fun c => .bool (isPieceD c)) var (by omega) fun D φ c mD hc => xe_call (K := K) (pre := pre_is_piece K) (post := post_is_piece) (E := E0) (xa_cons (xe_var (i := 1) rfl) xa_nil) ⟨_, rfl, hp c hc⟩
    rw [bools_of] at lc
    refine xs_ret (xe_andV (xe_isi var (kit_list _)) fun _ => xe_cb (xa_cons lc xa_nil) cx_all) fun a e => ?_
    subst e
    rfl
  | _ => exact xs_ret (xe_andV (b := false) (xe_isi var (kit_list _)) fun z => by simp at z) fun a e => e
def pre_turn_of (K : PySem.W.Frag) (W : Wd) (as : List A) : Prop := ∃ w s, as = [.d (.tuple [.str w, s])]
def post_turn_of (as : List A) (a : A) : Prop := match as with | [.d d] => a = .d (.int (depthOf d)) | _ => False
theorem ok_turn_of (T : Top w K mg f fd) : FnOk P w K mg base CX0 1 (f 7) (fd 7) ["piece"] (spD K (pre_turn_of K) post_turn_of) := by
  refine okD T.F_turn_of sc_turn_of (fun W as p => ?_) (fun cdv Ar outer s H E hr => ⟨_, (pss_cons (ps_if (pt_cmpR op_eq (pe_ix ix_tup (pv 0) pe_int (fun _ _ => rfl)) pe_str (nomark _)) (pss_one (ps_ret pe_int)) pss_nil)
      (pss_one (ps_ret (pe_ifExp (pt_cmpR op_eq (pe_ix ix_tup (pv 0) pe_int (fun _ _ => rfl)) pe_str (nomark _)) (pe_un o_neg pe_int) pe_int)))), fun W as p => ?_⟩)
  · obtain ⟨_, _, rfl⟩ := p; rfl
  obtain ⟨w, s, rfl⟩ := p
  have ix : XV K W (tOp (rIxT K) (tVar 0) (tC (.int 0))) (startE ["piece"] [.d (.tuple [.str w, s])]) (.d (.str w)) := xe_op (xe_var rfl) xe_int (ox_ixT (by decide) rfl)
  refine xs_seq (N1 := fun Δ => eqF (.str w) (.str "open") = false ∧ Δ = startE ["piece"] [.d (.tuple [.str w, s])]) (xs_if (xt_test (xe_op ix xe_str (ox_eq rfl rfl rfl))) (fun c => xs_ret xe_int fun a e => ?_) fun c => xs_next ⟨c, rfl⟩) ?_
  · subst e
    show A.d (.int 1) = A.d (.int (if _ then _ else _))
    rw [if_pos c]
  rintro Δ' ⟨c, rfl⟩
  refine xs_ret (xe_if (R := fun a => a = A.d (.int (depthOf (.tuple [.str w, s])))) (xt_test (xe_op ix xe_str (ox_eq rfl rfl rfl))) (fun c' => XE.is (xe_neg xe_int) ?_) fun c' => XE.is xe_int ?_) fun a e => e
  · show A.d (.int (-1)) = A.d (.int (if _ then _ else if _ then _ else _))
    rw [if_neg (by rw [c]; decide), if_pos c']
  · show A.d (.int 0) = A.d (.int (if _ then _ else if _ then _ else _))
    rw [if_neg (by rw [c]; decide), if_neg (by rw [c']; decide)]
def pre_is_balanced (K : PySem.W.Frag) (W : Wd) (as : List A) : Prop := ∃ d, as = [.d d] ∧ ∀ ds, d = .list ds → ds.length ≤ 10000 ∧ ∀ x ∈ ds, strT 100000 x
def post_is_balanced (as : List A) (a : A) : Prop := match as with | [.d d] => a = .d (.bool (isBalD d)) | _ => False
theorem ok_is_balanced (T : Top w K mg f fd) : FnOk P w K mg base CX0 5 (f 9) (fd 9) ["thing"] (spD K (pre_is_balanced K) post_is_balanced) := by
  refine okD T.F_is_balanced sc_is_balanced (fun W as p => ?_) (fun cdv Ar outer s H E hr => ⟨_, (pss_cons (ps_if (pt_not (pt_val (pe_call (ok_is_row T) hr (by rfl) T.g_is_row T.F_is_row.kp (b_is_row T) .nil pass0 (pa_cons (pv 0) pa_nil)))) (pss_one (ps_ret pe_bl)) pss_nil)
      (pss_cons (ps_set (i := 1) sc_is_balanced.nd rfl (Or.inl rfl) pe_int)
      (pss_cons (ps_for PassesOwn.never rfl (pi_list (pv 0)) (pg_name (i := 2) sc_is_balanced.nd rfl (Or.inl rfl)) (pss_cons (ps_aug (i := 1) sc_is_balanced.nd rfl (Or.inl rfl) (pe_call (ok_turn_of T) (hr.mono (by omega)) (by rfl) T.g_turn_of T.F_turn_of.kp (b_turn_of T) .nil pass0 (pa_cons (pv 2) pa_nil)) ip_add)
      (pss_one (ps_if (pt_cmpR o_lt (pv 1) pe_int (nomark _)) (pss_one (ps_ret pe_bl)) pss_nil))))
      (pss_one (ps_ret (pe_cmpR op_eq (pv 1) pe_int (nomark _))))))), fun W as p => ?_⟩)
  · obtain ⟨_, rfl, _⟩ := p; rfl
  obtain ⟨d, rfl, hs⟩ := p
  have var : XV K W (tVar 0) (startE ["thing", "depth", "piece"] [.d d]) (.d d) := xe_var rfl
  have row : XV K W (tCall (spD K (pre_is_row K) post_is_row) [] E0 (tCons (tVar 0) tNil)) _ (.d (.bool (isRowD d))) := xe_call (xa_cons var xa_nil) ⟨_, rfl, hs⟩
  refine xs_seq (N1 := fun Δ => isRowD d = true ∧ Δ = startE ["thing", "depth", "piece"] [.d d]) (xs_if (xt_not (xt_B row)) (fun z => xs_ret xe_bl fun a e => ?_) fun z => xs_next ⟨by simpa using z, rfl⟩) ?_
  · subst e
    have z' : isRowD d = false := by simpa using z
    show A.d _ = A.d (.bool (isRowD d && _))
    rw [z']
    rfl
  rintro Δ' ⟨z, rfl⟩
  obtain ⟨ds, rfl⟩ : ∃ ds, d = .list ds := by cases d <;> first | exact ⟨_, rfl⟩ | (simp [isRowD] at z)
  have bal : isBalD (.list ds) = balFrom 0 ds := by
    show (isRowD (.list ds) && balFrom 0 ds) = _
    rw [z]
    rfl
  refine xs_seq (N1 := fun Δ => Δ = [some (.d (.list ds)), some (.d (.int 0)), none]) (xs_set xe_int rfl) ?_
  rintro Δ' rfl
  refine xs_seq (N1 := fun Δ => ∃ m s2, Δ = [some (.d (.list ds)), some (.d (.int m)), s2] ∧ isBalD (.list ds) = decide (m = 0)) ?_ ?_
  · refine xs_for (g := gName 2) (fun n i Δ => ∃ m s2, Δ = [some (.d (.list ds)), some (.d (.int m)), s2] ∧ isBalD (.list ds) = balFrom m (ds.drop i)) (xi_list (xe_var rfl)) (fun n hn => ⟨0, none, rfl, bal⟩) ?_ ?_
    · rintro n i a Δ1 hn hi ⟨x, hx, rfl⟩ ⟨m, s2, rfl, hb⟩
      have px : isPieceD x = true := by
        have al : ∀ y ∈ ds.map isPieceD, y = true := by simpa [isRowD, List.all_eq_true] using z
        exact al _ (List.mem_map.mpr ⟨x, List.mem_of_getElem? hx, rfl⟩)
      obtain ⟨w, s, rfl⟩ : ∃ w s, x = .tuple [.str w, s] := by
        unfold isPieceD at px
        split at px
        · exact ⟨_, _, rfl⟩
        · cases px
      have hd : ds.drop i = .tuple [.str w, s] :: ds.drop (i + 1) := by
        obtain ⟨hl, e⟩ := List.getElem?_eq_some_iff.mp hx
        rw [List.drop_eq_getElem_cons hl, e]
      rw [hd] at hb
      refine ⟨_, gx_name, ?_⟩
      refine xs_seq (N1 := fun Δ => Δ = [some (.d (.list ds)), some (.d (.int (m + depthOf (.tuple [.str w, s])))), some (.d (.tuple [.str w, s]))]) ?_ ?_
      · exact xs_aug rfl (XE.mono (xe_call (pre := pre_turn_of K) (post := post_turn_of) (E := E0) (xa_cons (xe_var (i := 2) rfl) xa_nil) ⟨_, _, rfl⟩) fun a e => e) ox_ipI rfl
      · rintro Δ' rfl
        refine xs_if (xt_test (xe_op (xe_var rfl) xe_int ox_IB)) (fun c => xs_ret xe_bl fun a e => ?_) fun c => xs_next ⟨_, _, rfl, ?_⟩
        · subst e
          show A.d _ = A.d (.bool (isBalD (.list ds)))
          rw [hb]
          show _ = A.d (.bool (if _ then _ else _))
          rw [if_pos (of_decide_eq_true c)]
        · rw [hb]
          show (if _ then _ else _) = _
          rw [if_neg (of_decide_eq_false c)]
    · rintro n Δ1 rfl ⟨m, s2, rfl, hb⟩
      refine ⟨m, s2, rfl, ?_⟩
      rw [hb, List.drop_length]
      rfl
  · rintro Δ' ⟨m, s2, rfl, hb⟩
    refine xs_ret (xe_op (xe_var rfl) xe_int (ox_eq rfl rfl rfl)) fun a e => ?_
    subst e
    show A.d (.bool (decide (V.int m = V.int 0))) = A.d (.bool (isBalD (.list ds)))
    rw [hb]
    congr 2
    by_cases q : m = 0
    · rw [q]; rfl
    · rw [decide_eq_false q, decide_eq_false fun e => q (V.int.inj e)]

def noWords : List PyData := [.str "open", .str "shut", .str "mark"]
def isHandP : PyData → Bool
  | .tuple [.str w, _] => eqF (.str w) (.str "hand")
  | _ => false
def sndP : PyData → PyData
  | .tuple [_, s] => s
  | d => d
def noMark : PyData → Bool
  | .tuple [.str w, _] => !inF (.str w) noWords
  | _ => false
def hI : PyData → Int
  | .tuple [_, .int k] => k
  | _ => 0
def handsD (ds : List PyData) : List PyData := (ds.filter isHandP).map sndP
def handsI (ds : List PyData) : List Int := (ds.filter isHandP).map hI
def rangeI (n : Nat) : List Int := (List.range n).map fun (i : Nat) => 1 + (i : Int)
def areMarksD : PyData → Bool
  | .tuple ds => (!decide (30 < (ds.length : Int))) && (ds.all fun p => isPieceD p && noMark p) && decide (handsI ds = rangeI (handsI ds).length)
  | _ => false
def isBodyD (d : PyData) (m : Int) : Bool := match d with
  | .tuple ds => isBalD (.list ds) && (handsI ds).all fun k => decide (k ≤ m)
  | _ => false
def marksOf : PyData → List PyData
  | .tuple ds => ds
  | _ => []
def isRuleD : PyData → Bool
  | .tuple [m, b] => areMarksD m && isBodyD b ((handsI (marksOf m)).length : Int)
  | _ => false
theorem hand_int {x : PyData} (h : isPieceD x = true) (hh : isHandP x = true) : ∃ k : Int, x = .tuple [.str "hand", .int k] ∧ 1 ≤ k ∧ k ≤ 9 := by
  obtain ⟨w, s, rfl⟩ := piece_shape h
  have e : w = "hand" := V.str.inj (of_decide_eq_true hh)
  subst e
  have h' : (eqF (.str "hand") (.str "hand") && (isWholeD s && handRange s)) = true := h
  simp only [Bool.and_eq_true] at h'
  obtain ⟨_, hw, hr⟩ := h'
  cases s <;> simp [isWholeD] at hw
  simp only [handRange, Bool.and_eq_true, decide_eq_true_eq] at hr
  exact ⟨_, rfl, hr.1, hr.2⟩
theorem handsD_eq {ds : List PyData} (h : ∀ d ∈ ds, isPieceD d = true) : handsD ds = (handsI ds).map PyData.int := by
  unfold handsD handsI
  rw [List.map_map]
  refine List.map_congr_left fun d hd => ?_
  obtain ⟨h1, h2⟩ := List.mem_filter.mp hd
  obtain ⟨k, rfl, _⟩ := hand_int (h d h1) h2
  rfl
theorem eqvAll_ints : ∀ ns ms : List Int, PyData.eqvAll (ns.map PyData.int) (ms.map PyData.int) = decide (ns = ms)
  | [], [] => by simp [PyData.eqvAll]
  | [], m :: ms => by simp [PyData.eqvAll]
  | n :: ns, [] => by simp [PyData.eqvAll]
  | n :: ns, m :: ms => by
    rw [List.map_cons, List.map_cons]
    simp only [PyData.eqvAll, eqvAll_ints ns ms, PyData.eqv]
    by_cases e : n = m <;> by_cases e2 : ns = ms <;> simp [e, e2]
theorem eqv_ints (ns ms : List Int) : PyData.eqv (.list (ns.map PyData.int)) (.list (ms.map PyData.int)) = decide (ns = ms) := by
  show PyData.eqv _ _ = _
  simp only [PyData.eqv]
  exact eqvAll_ints ns ms
theorem ints_nd : ∀ ns : List Int, (PyData.list (ns.map PyData.int)).hasDict = false := by
  have h : ∀ ns : List Int, PyData.hasDictAll (ns.map PyData.int) = false := fun ns => by
    induction ns with
    | nil => simp [PyData.hasDictAll]
    | cons n r ih => simp [PyData.hasDictAll, PyData.hasDict, ih]
  exact fun ns => by simpa [PyData.hasDict] using h ns
theorem ints_shp : ∀ ns : List Int, SeqAt.shaped (.list (ns.map PyData.int)) = true := by
  have h : ∀ ns : List Int, PyData.canLayAll0 (ns.map PyData.int) = true ∧ PyData.depthAll (ns.map PyData.int) ≤ 0 := fun ns => by
    induction ns with
    | nil => simp [PyData.canLayAll0, PyData.depthAll]
    | cons n r ih => simp [PyData.canLayAll0, PyData.canLay0, PyData.depthAll, PyData.depth, ih.1, ih.2]
  intro ns
  have := h ns
  unfold SeqAt.shaped
  rw [Bool.and_eq_true]
  refine ⟨by simpa [PyData.canLay0] using this.1, decide_eq_true ?_⟩
  simp only [PyData.depth]
  omega
def TOk (x : PyData) : Prop := ∀ ds, x = .tuple ds → ds.length ≤ 10000 ∧ ∀ y ∈ ds, strT 100000 y
def pre_hands_among (K : PySem.W.Frag) (W : Wd) (as : List A) : Prop := ∃ ds, (as = [.d (.tuple ds)] ∨ as = [.d (.list ds)]) ∧ ds.length ≤ 10000 ∧ ∀ d ∈ ds, isPieceD d = true
def post_hands_among (as : List A) (a : A) : Prop := match as with | [.d (.tuple ds)] | [.d (.list ds)] => a = .d (.list (handsD ds)) | _ => False
theorem ok_hands_among (T : Top w K mg f fd) : FnOk P w K mg base CX0 1 (f 10) (fd 10) ["pieces"] (spD K (pre_hands_among K) post_hands_among) := by
  refine okD T.F_hands_among sc_hands_among (fun W as p => ?_) (fun cdv Ar outer s H E hr => ⟨_, (pss_one (ps_ret (pe_lc (own := [("word", 1), ("number", 2)]) (g := gTup K 2 (gCons (gName 1) (gCons (gName 2) gNil))) (by rfl) sc_hands_among.nd (pi_seq (pv 0)) (blkOk_by (own := [("word", 1), ("number", 2)]) (N := ["pieces", "word", "number"]) (sc := defScope s_hands_among) (by decide +kernel)) (fun _ _ _ _ _ => pg_tup rfl (pgs_cons (pg_name (i := 1) sc_hands_among.nd rfl (Or.inl rfl)) (pgs_cons (pg_name (i := 2) sc_hands_among.nd rfl (Or.inl rfl)) pgs_nil))) (fun _ _ _ _ _ => (pts_one (pt_cmpR op_eq (pv 1) pe_str (nomark _)))) (fun _ _ _ _ _ => (pv 2))))), fun W as p => ?_⟩)
  · obtain ⟨_, rfl | rfl, _⟩ := p <;> rfl
  obtain ⟨ds, he, hl, hp⟩ := p
  rcases he with rfl | rfl
  · refine xs_ret (xe_lcF (b := isHandP) (h := sndP) (xi_seqT (xe_var rfl)) (by omega) fun d hd => ?_) fun a e => e
    obtain ⟨w, s, rfl⟩ := piece_shape (hp d hd)
    exact ⟨_, gt_pair (by decide), fun D φ mD => xt_test (xe_op (xe_var rfl) xe_str (ox_eq rfl rfl rfl)), fun _ D φ mD => xe_var rfl⟩
  · refine xs_ret (xe_lcF (b := isHandP) (h := sndP) (xi_seqL (xe_var rfl)) (by omega) fun d hd => ?_) fun a e => e
    obtain ⟨w, s, rfl⟩ := piece_shape (hp d hd)
    exact ⟨_, gt_pair (by decide), fun D φ mD => xt_test (xe_op (xe_var rfl) xe_str (ox_eq rfl rfl rfl)), fun _ D φ mD => xe_var rfl⟩
theorem filt_true {α β : Type} (g : α → β) (ds : List α) : (ds.filter fun _ => true).map g = ds.map g := by
  rw [List.filter_eq_self.mpr fun _ _ => rfl]
theorem rangeI_eq (n : Nat) : ((List.range ((n : Int) + 1 - 1).toNat).map fun i => PyData.int (1 + ((i : Nat) : Int))) = (rangeI n).map PyData.int := by
  have e : ((n : Int) + 1 - 1).toNat = n := by omega
  rw [e]
  unfold rangeI
  rw [List.map_map]
  rfl
theorem handsI_len (ds : List PyData) : (handsI ds).length ≤ ds.length := by
  unfold handsI
  rw [List.length_map]
  exact List.length_filter_le _ _
def pre_are_marks (K : PySem.W.Frag) (W : Wd) (as : List A) : Prop := ∃ d, as = [.d d] ∧ TOk d
def post_are_marks (as : List A) (a : A) : Prop := match as with | [.d d] => a = .d (.bool (areMarksD d)) | _ => False
theorem ok_are_marks (T : Top w K mg f fd) : FnOk P w K mg base CX0 4 (f 11) (fd 11) ["thing"] (spD K (pre_are_marks K) post_are_marks) := by
  refine okD T.F_are_marks sc_are_marks (fun W as p => ?_) (fun cdv Ar outer s H E hr => ⟨_, (pss_cons (ps_if (PW.pt (pw_or (pt_not (pt_val (pe_callB call_isi (by rfl) T.z_isinstance (by decide +kernel) (pa_cons (pv 0) (pa_cons (pe_bltn (v := .ty "tuple") (by rfl) T.z_tuple (by decide +kernel) rfl) pa_nil))))) (pw_or1 (pt_cmpR o_gt (pe_callB c_len (by rfl) T.z_len (by decide +kernel) (pa_cons (pv 0) pa_nil)) (pe_const (by rfl) T.g_MOST_MARKS) (nomark _))))) (pss_one (ps_ret pe_bl)) pss_nil)
      (pss_cons (ps_if (pt_not (pt_val (pe_callB (cr_all rfl) (by rfl) T.z_all (by decide +kernel) (pa_cons (pe_lc (own := [("piece", 2)]) (g := gName 2) (tt := tYes) (by rfl) sc_are_marks.nd (pi_tup (pv 0)) (blkOk_by (own := [("piece", 2)]) (N := ["thing", "hands", "piece"]) (sc := defScope s_are_marks) (by decide +kernel)) (fun _ _ _ _ _ => pg_name (i := 2) sc_are_marks.nd rfl (Or.inl rfl)) (fun _ _ _ _ _ => pts_nil) (fun _ _ _ _ _ => (pe_and (pe_call (ok_is_piece T) hr (by rfl) T.g_is_piece T.F_is_piece.kp (b_is_piece T) .nil pass0 (pa_cons (pv 2) pa_nil)) (pe_one (pe_cmpR (show OpR _ (compareOp .NotIn) (rIn K true) from op_notIn_seq) (pe_ix (show IxR _ (rIxT K) from ix_tup) (pv 2) pe_int (fun _ _ => rfl)) (pe_const (by rfl) T.g_WORDS_OF_NO_MARKS) (by rfl)))))) pa_nil)))) (pss_one (ps_ret pe_bl)) pss_nil)
      (pss_cons (ps_set (i := 1) sc_are_marks.nd rfl (Or.inl rfl) (pe_call (ok_hands_among T) (hr.mono (by omega)) (by rfl) T.g_hands_among T.F_hands_among.kp (b_hands_among T) .nil pass0 (pa_cons (pv 0) pa_nil)))
      (pss_one (ps_ret (pe_cmpR (op_eqD hr.units) (pv 1) (pe_listRg (by rfl) (by rfl) T.z_list (prg_2 (by rfl) T.z_range pe_int (pe_op o_add (pe_callB c_len (by rfl) T.z_len (by decide +kernel) (pa_cons (pv 1) pa_nil)) pe_int))) (nomark _))))))), fun W as p => ?_⟩)
  · obtain ⟨_, rfl, _⟩ := p; rfl
  obtain ⟨d, rfl, hs⟩ := p
  have var : XV K W (tVar 0) (startE ["thing", "hands", "piece"] [.d d]) (.d d) := xe_var rfl
  cases d with
  | tuple ds =>
    obtain ⟨hl, hp⟩ := hs ds rfl
    refine xs_seq (N1 := fun Δ => decide (30 < (ds.length : Int)) = false ∧ Δ = startE ["thing", "hands", "piece"] [.d (.tuple ds)]) (xs_if (xt_or (xt_not (xt_B (xe_isi var (kit_tuple _)))) fun _ => xt_test (xe_op (xe_cb (xa_cons var xa_nil) cx_lenT) xe_int ox_IB)) (fun c => ?_) fun c => xs_next ⟨by simpa using c, rfl⟩) ?_
    · refine xs_ret xe_bl fun a e => ?_
      subst e
      have c' : decide (30 < (ds.length : Int)) = true := by simpa using c
      show A.d (.bool false) = .d (.bool ((!decide (30 < (ds.length : Int))) && _ && _))
      rw [c']
      rfl
    rintro Δ' ⟨h30, rfl⟩
    let g : PyData → Bool := fun p => isPieceD p && noMark p
    refine xs_seq (N1 := fun Δ => (ds.map g).all id = true ∧ Δ = startE ["thing", "hands", "piece"] [.d (.tuple ds)]) (xs_if (xt_not (xt_B (xe_cb (xa_cons (XE.is (xe_lcF (b := fun _ => true) (h := fun p => .bool (g p)) (xi_tup var) (by omega) fun d hd => ⟨_, gt_name, fun D φ mD => xt_yes, fun _ D φ mD => xe_andV (a := isPieceD d) (b := noMark d) (XE.mono (xe_call (pre := pre_is_piece K) (post := post_is_piece) (E := E0) (xa_cons (xe_var (i := 2) rfl) xa_nil) ⟨_, rfl, hp d hd⟩) fun a e => e) fun z => ?_⟩) ?_) xa_nil) (cx_all (bs := ds.map g))))) (fun c => ?_) fun c => xs_next ⟨by simpa using c, rfl⟩) ?_
    · obtain ⟨w, s, rfl⟩ := piece_shape z
      exact xe_op (xe_op (xe_var rfl) xe_int (ox_ixT (by decide) rfl)) (xe_ktup T.k_WORDS_OF_NO_MARKS (ds := noWords) rfl rfl) (ox_inT (n := true) rfl rfl)
    · rw [filt_true, List.map_map]
      rfl
    · refine xs_ret xe_bl fun a e => ?_
      subst e
      have c' : (ds.map g).all id = false := by simpa using c
      have c2 : ds.all g = false := by rw [List.all_map] at c'; exact c'
      show A.d (.bool false) = .d (.bool ((!decide (30 < (ds.length : Int))) && ds.all g && _))
      rw [c2, Bool.and_false, Bool.false_and]
    rintro Δ' ⟨hall, rfl⟩
    have hg : ds.all g = true := by rw [List.all_map] at hall; exact hall
    have pcs : ∀ d ∈ ds, isPieceD d = true := fun d hd => (Bool.and_eq_true_iff.mp (List.all_eq_true.mp hg d hd)).1
    have hE := handsD_eq pcs
    have hL := handsI_len ds
    refine xs_seq (N1 := fun Δ => Δ = [some (.d (.tuple ds)), some (.d (.list ((handsI ds).map PyData.int))), none]) (xs_set (XE.is (XE.mono (xe_call (pre := pre_hands_among K) (post := post_hands_among) (E := E0) (xa_cons (xe_var rfl) xa_nil) ⟨ds, .inl rfl, hl, pcs⟩) fun a e => e) (by rw [hE])) rfl) ?_
    rintro Δ' rfl
    refine xs_ret (xe_op (xe_var rfl) (XE.is (xe_listRg xe_int (xe_op (xe_cb (xa_cons (xe_var rfl) xa_nil) cx_lenL) xe_int ox_II) (RgOk.of_le (by decide) (by rw [List.length_map]; omega) (by decide) (by omega))) (show _ = A.d (.list ((rangeI (handsI ds).length).map PyData.int)) from by rw [← rangeI_eq, List.length_map])) (ox_eqD (ints_nd _) (ints_nd _) (ints_shp _) (ints_shp _))) fun a e => ?_
    subst e
    rw [eqv_ints]
    show A.d (.bool _) = .d (.bool ((!decide (30 < (ds.length : Int))) && ds.all g && decide (handsI ds = rangeI (handsI ds).length)))
    rw [h30, hg]
    rfl
  | _ =>
    refine xs_seq (N1 := fun _ => False) (xs_if (xt_or (b := false) (xt_not (xt_B (xe_isi var (kit_tuple _)))) fun z => by simp at z) (fun _ => xs_ret xe_bl fun a e => e) fun z => by simp at z) fun _ z => z.elim
def pre_is_body (K : PySem.W.Frag) (W : Wd) (as : List A) : Prop := ∃ d m, as = [.d d, .d (.int m)] ∧ TOk d
def post_is_body (as : List A) (a : A) : Prop := match as with | [.d d, .d (.int m)] => a = .d (.bool (isBodyD d m)) | _ => False
theorem ok_is_body (T : Top w K mg f fd) : FnOk P w K mg base CX0 6 (f 12) (fd 12) ["thing", "many"] (spD K (pre_is_body K) post_is_body) := by
  refine okD T.F_is_body sc_is_body (fun W as p => ?_) (fun cdv Ar outer s H E hr => ⟨_, (pss_cons (ps_if (PW.pt (pw_or (pt_not (pt_val (pe_callB call_isi (by rfl) T.z_isinstance (by decide +kernel) (pa_cons (pv 0) (pa_cons (pe_bltn (v := .ty "tuple") (by rfl) T.z_tuple (by decide +kernel) rfl) pa_nil))))) (pw_or1 (pt_not (pt_val (pe_call (ok_is_balanced T) hr (by rfl) T.g_is_balanced T.F_is_balanced.kp (b_is_balanced T) .nil pass0 (pa_cons (pe_callTy c_lst (by rfl) T.z_list (by decide +kernel) (pa_cons (pv 0) pa_nil)) pa_nil))))))) (pss_one (ps_ret pe_bl)) pss_nil)
      (pss_one (ps_ret (pe_callB (cr_all rfl) (by rfl) T.z_all (by decide +kernel) (pa_cons (pe_lc (own := [("number", 2)]) (g := gName 2) (tt := tYes) (by rfl) sc_is_body.nd (pi_list (pe_call (ok_hands_among T) (hr.mono (by omega)) (by rfl) T.g_hands_among T.F_hands_among.kp (b_hands_among T) .nil pass0 (pa_cons (pv 0) pa_nil))) (blkOk_by (own := [("number", 2)]) (N := ["thing", "many", "number"]) (sc := defScope s_is_body) (by decide +kernel)) (fun _ _ _ _ _ => pg_name (i := 2) sc_is_body.nd rfl (Or.inl rfl)) (fun _ _ _ _ _ => pts_nil) (fun _ _ _ _ _ => (pe_cmpR o_le (pv 2) (pv 1) (nomark _)))) pa_nil))))), fun W as p => ?_⟩)
  · obtain ⟨_, _, rfl, _⟩ := p; rfl
  obtain ⟨d, m, rfl, hs⟩ := p
  have var : XV K W (tVar 0) (startE ["thing", "many", "number"] [.d d, .d (.int m)]) (.d d) := xe_var rfl
  cases d with
  | tuple ds =>
    obtain ⟨hl, hp⟩ := hs ds rfl
    refine xs_seq (N1 := fun Δ => isBalD (.list ds) = true ∧ Δ = startE ["thing", "many", "number"] [.d (.tuple ds), .d (.int m)]) (xs_if (xt_or (xt_not (xt_B (xe_isi var (kit_tuple _)))) fun _ => xt_not (xt_B (XE.mono (xe_call (pre := pre_is_balanced K) (post := post_is_balanced) (E := E0) (xa_cons (xe_cb (xa_cons var xa_nil) cx_lstT) xa_nil) ⟨_, rfl, fun es e => by cases e; exact ⟨hl, hp⟩⟩) fun a e => e))) (fun c => ?_) fun c => xs_next ⟨by simpa using c, rfl⟩) ?_
    · refine xs_ret xe_bl fun a e => ?_
      subst e
      have c' : isBalD (.list ds) = false := by simpa using c
      show A.d (.bool false) = .d (.bool (isBalD (.list ds) && _))
      rw [c']
      rfl
    rintro Δ' ⟨hb, rfl⟩
    have pcs : ∀ d ∈ ds, isPieceD d = true := fun d hd => by
      have h1 : (isRowD (.list ds) && balFrom 0 ds) = true := hb
      have h2 : (ds.map isPieceD).all id = true := (Bool.and_eq_true_iff.mp h1).1
      exact List.all_eq_true.mp h2 _ (List.mem_map.mpr ⟨d, hd, rfl⟩)
    have hE := handsD_eq pcs
    have hL := handsI_len ds
    refine xs_ret (xe_cb (xa_cons (XE.is (xe_lcL (xs := (handsI ds).map PyData.int) (g := fun d => .bool (decide (hI (.tuple [.none, d]) ≤ m))) (XE.is (XE.mono (xe_call (pre := pre_hands_among K) (post := post_hands_among) (E := E0) (xa_cons var xa_nil) ⟨ds, .inl rfl, hl, pcs⟩) fun a e => e) (by rw [hE])) (by rw [List.length_map]; omega) fun D φ d mD hd => ?_) ?_) xa_nil) (cx_all (bs := (handsI ds).map fun k => decide (k ≤ m)))) fun a e => ?_
    · obtain ⟨k, _, rfl⟩ := List.mem_map.mp hd
      exact xe_op (xe_var rfl) (xe_var rfl) ox_IB
    · rw [List.map_map, List.map_map]
      rfl
    · subst e
      show A.d (.bool _) = .d (.bool (isBalD (.list ds) && (handsI ds).all fun k => decide (k ≤ m)))
      rw [hb, List.all_map]
      rfl
  | _ =>
    refine xs_seq (N1 := fun _ => False) (xs_if (xt_or (b := false) (xt_not (xt_B (xe_isi var (kit_tuple _)))) fun z => by simp at z) (fun _ => xs_ret xe_bl fun a e => e) fun z => by simp at z) fun _ z => z.elim
def pre_is_rule (K : PySem.W.Frag) (W : Wd) (as : List A) : Prop := ∃ d, as = [.d d] ∧ ∀ xs, d = .tuple xs → ∀ x ∈ xs, TOk x
def post_is_rule (as : List A) (a : A) : Prop := match as with | [.d d] => a = .d (.bool (isRuleD d)) | _ => False
theorem ok_is_rule (T : Top w K mg f fd) : FnOk P w K mg base CX0 7 (f 13) (fd 13) ["thing"] (spD K (pre_is_rule K) post_is_rule) := by
  refine okD T.F_is_rule sc_is_rule (fun W as p => ?_) (fun cdv Ar outer s H E hr => ⟨_, (pss_cons (ps_if (PW.pt (pw_or (pt_not (pt_val (pe_callB call_isi (by rfl) T.z_isinstance (by decide +kernel) (pa_cons (pv 0) (pa_cons (pe_bltn (v := .ty "tuple") (by rfl) T.z_tuple (by decide +kernel) rfl) pa_nil))))) (pw_or1 (pt_cmpR op_ne (pe_callB c_len (by rfl) T.z_len (by decide +kernel) (pa_cons (pv 0) pa_nil)) pe_int (nomark _))))) (pss_one (ps_ret pe_bl)) pss_nil)
      (pss_cons (ps_asg (pv 0) (pg_tup rfl (pgs_cons (pg_name (i := 1) sc_is_rule.nd rfl (Or.inl rfl)) (pgs_cons (pg_name (i := 2) sc_is_rule.nd rfl (Or.inl rfl)) pgs_nil))))
      (pss_one (ps_ret (pe_and (pe_call (ok_are_marks T) (hr.mono (by omega)) (by rfl) T.g_are_marks T.F_are_marks.kp (b_are_marks T) .nil pass0 (pa_cons (pv 1) pa_nil)) (pe_one (pe_call (ok_is_body T) hr (by rfl) T.g_is_body T.F_is_body.kp (b_is_body T) .nil pass0 (pa_cons (pv 2) (pa_cons (pe_callB c_len (by rfl) T.z_len (by decide +kernel) (pa_cons (pe_call (ok_hands_among T) (hr.mono (by omega)) (by rfl) T.g_hands_among T.F_hands_among.kp (b_hands_among T) .nil pass0 (pa_cons (pv 1) pa_nil)) pa_nil)) pa_nil))))))))), fun W as p => ?_⟩)
  · obtain ⟨_, rfl, _⟩ := p; rfl
  obtain ⟨d, rfl, hs⟩ := p
  have var : XV K W (tVar 0) (startE ["thing", "marks", "body"] [.d d]) (.d d) := xe_var rfl
  cases d with
  | tuple xs =>
    by_cases h2 : xs.length = 2
    · obtain ⟨x, y, rfl⟩ : ∃ x y, xs = [x, y] := by
        match xs, h2 with
        | [x, y], _ => exact ⟨x, y, rfl⟩
      have hx := hs _ rfl x (.head _)
      have hy := hs _ rfl y (.tail _ (.head _))
      refine xs_seq (N1 := fun Δ => Δ = startE ["thing", "marks", "body"] [.d (.tuple [x, y])]) (xs_if (xt_or (xt_not (xt_B (xe_isi var (kit_tuple _)))) fun _ => xt_test (xe_op (xe_cb (xa_cons var xa_nil) cx_lenT) xe_int (ox_ne rfl rfl rfl))) (fun z => ?_) fun _ => xs_next rfl) ?_
      · simp [eqF, vOf] at z
      rintro Δ' rfl
      refine xs_seq (N1 := fun Δ => Δ = [some (.d (.tuple [x, y])), some (.d x), some (.d y)]) (xs_asg var gx_tup2 rfl) ?_
      rintro Δ' rfl
      refine xs_ret (xe_andV (a := areMarksD x) (b := isBodyD y ((handsI (marksOf x)).length : Int)) (XE.mono (xe_call (pre := pre_are_marks K) (post := post_are_marks) (E := E0) (xa_cons (xe_var rfl) xa_nil) ⟨x, rfl, hx⟩) fun a e => e) fun hm => ?_) fun a e => e
      obtain ⟨ms, rfl⟩ : ∃ ms, x = .tuple ms := by cases x <;> first | exact ⟨_, rfl⟩ | (simp [areMarksD] at hm)
      obtain ⟨hl, _⟩ := hx ms rfl
      have pcs : ∀ d ∈ ms, isPieceD d = true := fun d hd => by
        have h1 : ((!decide (30 < (ms.length : Int))) && (ms.all fun p => isPieceD p && noMark p) && decide (handsI ms = rangeI (handsI ms).length)) = true := hm
        have h2 := (Bool.and_eq_true_iff.mp (Bool.and_eq_true_iff.mp h1).1).2
        exact (Bool.and_eq_true_iff.mp (List.all_eq_true.mp h2 d hd)).1
      have hE := handsD_eq pcs
      have lE : (handsD ms).length = (handsI ms).length := by rw [hE, List.length_map]
      refine XE.mono (xe_call (pre := pre_is_body K) (post := post_is_body) (E := E0) (xa_cons (xe_var rfl) (xa_cons (XE.is (xe_cb (xa_cons (XE.mono (xe_call (pre := pre_hands_among K) (post := post_hands_among) (E := E0) (xa_cons (xe_var rfl) xa_nil) ⟨ms, .inl rfl, hl, pcs⟩) fun a e => e) xa_nil) cx_lenL) (show _ = A.d (.int ((handsI ms).length : Int)) from by rw [lE])) xa_nil)) ⟨y, _, rfl, hy⟩) fun a e => e
    · refine xs_seq (N1 := fun _ => False) (xs_if (xt_or (xt_not (xt_B (xe_isi var (kit_tuple _)))) fun _ => xt_test (xe_op (xe_cb (xa_cons var xa_nil) cx_lenT) xe_int (ox_ne rfl rfl rfl))) (fun z => xs_ret xe_bl fun a e => ?_) fun z => ?_) fun _ z => z.elim
      · subst e
        match xs, h2 with
        | [], _ => rfl
        | [x], _ => rfl
        | x :: y :: z :: r, _ => rfl
      · have z' : (xs.length : Int) = 2 := by simpa [eqF, vOf] using z
        omega
  | _ =>
    refine xs_seq (N1 := fun _ => False) (xs_if (xt_or (b := false) (xt_not (xt_B (xe_isi var (kit_tuple _)))) fun z => by simp at z) (fun _ => xs_ret xe_bl fun a e => e) fun z => by simp at z) fun _ z => z.elim

def strsD (xs : List Str) : List PyData := xs.map PyData.str
def kindsK : List PyData := strsD ["escape", "open", "shut", "mark", "letter", "other", "blank", "active", "remark", "gone"]
def deedsS : List Str := ["behind", "name", "iflike", "ifsame", "ifkind", "ifless", "else", "fi", "figures", "row", "text", "rule", "through", "like", "kind", "set", "add", "keep", "all", "open", "shut", "later", "skip", "stay", "box", "endname"]
def deedsK : List PyData := strsD deedsS
def noSignK : List PyData := strsD ["name", "active", "hand"]
def isStrD : PyData → Bool
  | .str _ => true
  | _ => false
def isKindD : PyData → Bool
  | .str s => inF (.str s) kindsK
  | _ => false
def boxRange : PyData → Bool
  | .int i => decide (0 ≤ i) && decide (i ≤ 255)
  | _ => false
def isBoxD (d : PyData) : Bool := isWholeD d && boxRange d
def isKeyD : PyData → Bool
  | .tuple [.str w, p] => if inF (.str w) [.str "kind", .str "active"] then isSignD p else if eqF (.str w) (.str "name") then isNameD p else inF (.str w) [.str "box", .str "row"] && isBoxD p
  | _ => false
def wordNo : PyData → Bool
  | .tuple [.str w, _] => !inF (.str w) noSignK
  | _ => false
def isSignPieceD (d : PyData) : Bool := isPieceD d && wordNo d
def isDeedD : PyData → Bool
  | .str s => inF (.str s) deedsK
  | _ => false
def isMeaningD : PyData → Bool
  | .tuple (.str w :: p :: ps) => if eqF (.str w) (.str "rule") then isRuleD (.tuple (p :: ps)) else if ps.isEmpty then (if eqF (.str w) (.str "deed") then isDeedD p else eqF (.str w) (.str "piece") && isSignPieceD p) else false
  | _ => false
def numRange : PyData → Bool
  | .int i => decide (-1000000000000 < i) && decide (i < 1000000000000)
  | _ => false
def isNumD (d : PyData) : Bool := isWholeD d && numRange d
def rowBare : PyData → Bool
  | .list ds => (handsD ds).isEmpty
  | _ => false
def isRowWorthD (d : PyData) : Bool := isRowD d && rowBare d
def isWorthD (w : Str) (d : PyData) : Bool := if eqF (.str w) (.str "kind") then isKindD d else if eqF (.str w) (.str "box") then isNumD d else if eqF (.str w) (.str "row") then isRowWorthD d else isNo d || isMeaningD d
def LOk (x : PyData) : Prop := ∀ ds, x = .list ds → ds.length ≤ 10000 ∧ ∀ y ∈ ds, strT 100000 y
/-- what may be asked whether it is a meaning -/
def MOk (x : PyData) : Prop := ∀ ds, x = .tuple ds → ds.length ≤ 10000 ∧ ∀ y ∈ ds, strT 100000 y ∧ TOk y
theorem if_pos' {α : Sort _} {c : Bool} {a b : α} (h : c = true) : (if c then a else b) = a := if_pos h
theorem if_neg' {α : Sort _} {c : Bool} {a b : α} (h : c = false) : (if c then a else b) = b := if_neg (by rw [h]; decide)
def pre_is_kind (K : PySem.W.Frag) (W : Wd) (as : List A) : Prop := ∃ d, as = [.d d]
def post_is_kind (as : List A) (a : A) : Prop := match as with | [.d d] => a = .d (.bool (isKindD d)) | _ => False
theorem ok_is_kind (T : Top w K mg f fd) : FnOk P w K mg base CX0 1 (f 2) (fd 2) ["thing"] (spD K (pre_is_kind K) post_is_kind) := by
  refine okD T.F_is_kind sc_is_kind (fun W as p => ?_) (fun cdv Ar outer s H E hr => ⟨_, (pss_one (ps_ret (pe_and (pe_callB call_isi (by rfl) T.z_isinstance (by decide +kernel) (pa_cons (pv 0) (pa_cons (pe_bltn (v := .ty "str") (by rfl) T.z_str (by decide +kernel) rfl) pa_nil))) (pe_one (pe_cmpR op_in_seq (pv 0) (pe_const (by rfl) T.g_KINDS) (by rfl)))))), fun W as p => ?_⟩)
  · obtain ⟨_, rfl, _⟩ := p; rfl
  obtain ⟨d, rfl⟩ := p
  have var : XV K W (tVar 0) (startE ["thing"] [.d d]) (.d d) := xe_var rfl
  cases d with
  | str s => exact xs_ret (xe_andV (xe_isi var (kit_str _)) fun _ => xe_op var (xe_ktup T.k_KINDS (ds := kindsK) rfl rfl) (ox_inT rfl rfl)) fun a e => e
  | _ => exact xs_ret (xe_andV (b := false) (xe_isi var (kit_str _)) fun z => by simp at z) fun a e => e
def pre_is_box (K : PySem.W.Frag) (W : Wd) (as : List A) : Prop := ∃ d, as = [.d d]
def post_is_box (as : List A) (a : A) : Prop := match as with | [.d d] => a = .d (.bool (isBoxD d)) | _ => False
theorem ok_is_box (T : Top w K mg f fd) : FnOk P w K mg base CX0 2 (f 14) (fd 14) ["thing"] (spD K (pre_is_box K) post_is_box) := by
  refine okD T.F_is_box sc_is_box (fun W as p => ?_) (fun cdv Ar outer s H E hr => ⟨_, (pss_one (ps_ret (pe_and (pe_call (ok_is_whole T) hr (by rfl) T.g_is_whole T.F_is_whole.kp (b_is_whole T) .nil pass0 (pa_cons (pv 0) pa_nil)) (pe_one (pe_chain o_le o_le pe_int (pv 0) (pe_const (by rfl) T.g_MOST_BOX)))))), fun W as p => ?_⟩)
  · obtain ⟨_, rfl, _⟩ := p; rfl
  obtain ⟨d, rfl⟩ := p
  have var : XV K W (tVar 0) (startE ["thing"] [.d d]) (.d d) := xe_var rfl
  refine xs_ret (xe_andV (a := isWholeD d) (b := boxRange d) (XE.mono (xe_call (pre := pre_is_whole K) (post := post_is_whole) (E := E0) (xa_cons var xa_nil) ⟨_, rfl⟩) fun a e => e) fun sy => ?_) fun a e => e
  obtain ⟨i, rfl⟩ : ∃ i, d = .int i := by cases d <;> first | exact ⟨_, rfl⟩ | (simp [isWholeD] at sy)
  exact xe_chain xe_int var ox_IB (fun _ => xe_int) fun _ => ox_IB
def pre_is_key (K : PySem.W.Frag) (W : Wd) (as : List A) : Prop := ∃ d, as = [.d d] ∧ strT 100000 d
def post_is_key (as : List A) (a : A) : Prop := match as with | [.d d] => a = .d (.bool (isKeyD d)) | _ => False
theorem ok_is_key (T : Top w K mg f fd) : FnOk P w K mg base CX0 3 (f 15) (fd 15) ["thing"] (spD K (pre_is_key K) post_is_key) := by
  refine okD T.F_is_key sc_is_key (fun W as p => ?_) (fun cdv Ar outer s H E hr => ⟨_, (pss_cons (ps_if (PW.pt (pw_or (pt_not (pt_val (pe_callB call_isi (by rfl) T.z_isinstance (by decide +kernel) (pa_cons (pv 0) (pa_cons (pe_bltn (v := .ty "tuple") (by rfl) T.z_tuple (by decide +kernel) rfl) pa_nil))))) (pw_or1 (pt_cmpR op_ne (pe_callB c_len (by rfl) T.z_len (by decide +kernel) (pa_cons (pv 0) pa_nil)) pe_int (nomark _))))) (pss_one (ps_ret pe_bl)) pss_nil)
      (pss_cons (ps_asg (pv 0) (pg_tup rfl (pgs_cons (pg_name (i := 1) sc_is_key.nd rfl (Or.inl rfl)) (pgs_cons (pg_name (i := 2) sc_is_key.nd rfl (Or.inl rfl)) pgs_nil))))
      (pss_cons (ps_if (pt_not (pt_val (pe_callB call_isi (by rfl) T.z_isinstance (by decide +kernel) (pa_cons (pv 1) (pa_cons (pe_bltn (v := .ty "str") (by rfl) T.z_str (by decide +kernel) rfl) pa_nil))))) (pss_one (ps_ret pe_bl)) pss_nil)
      (pss_cons (ps_if (pt_cmpR op_in_seq (pv 1) (pe_tup (pa_cons pe_str (pa_cons pe_str pa_nil))) (by rfl)) (pss_one (ps_ret (pe_call (ok_is_sign T) (hr.mono (by omega)) (by rfl) T.g_is_sign T.F_is_sign.kp (b_is_sign T) .nil pass0 (pa_cons (pv 2) pa_nil)))) pss_nil)
      (pss_cons (ps_if (pt_cmpR op_eq (pv 1) pe_str (nomark _)) (pss_one (ps_ret (pe_call (ok_is_name T) hr (by rfl) T.g_is_name T.F_is_name.kp (b_is_name T) .nil pass0 (pa_cons (pv 2) pa_nil)))) pss_nil)
      (pss_one (ps_ret (pe_and (pe_cmpR op_in_seq (pv 1) (pe_tup (pa_cons pe_str (pa_cons pe_str pa_nil))) (by rfl)) (pe_one (pe_call (ok_is_box T) hr (by rfl) T.g_is_box T.F_is_box.kp (b_is_box T) .nil pass0 (pa_cons (pv 2) pa_nil))))))))))), fun W as p => ?_⟩)
  · obtain ⟨_, rfl, _⟩ := p; rfl
  obtain ⟨d, rfl, hs⟩ := p
  have var : XV K W (tVar 0) (startE ["thing", "word", "part"] [.d d]) (.d d) := xe_var rfl
  cases d with
  | tuple xs =>
    by_cases h2 : xs.length = 2
    · obtain ⟨x, y, rfl⟩ : ∃ x y, xs = [x, y] := by
        match xs, h2 with
        | [x, y], _ => exact ⟨x, y, rfl⟩
      have hy : ∀ s, y = .str s → s.length ≤ 100000 := fun s e => hs _ rfl s (by rw [e]; simp)
      refine xs_seq (N1 := fun Δ => Δ = startE ["thing", "word", "part"] [.d (.tuple [x, y])]) (xs_if (xt_or (xt_not (xt_B (xe_isi var (kit_tuple _)))) fun _ => xt_test (xe_op (xe_cb (xa_cons var xa_nil) cx_lenT) xe_int (ox_ne rfl rfl rfl))) (fun z => ?_) fun _ => xs_next rfl) ?_
      · simp [eqF, vOf] at z
      rintro Δ' rfl
      refine xs_seq (N1 := fun Δ => Δ = [some (.d (.tuple [x, y])), some (.d x), some (.d y)]) (xs_asg var gx_tup2 rfl) ?_
      rintro Δ' rfl
      have vw : XV K W (tVar 1) [some (.d (.tuple [x, y])), some (.d x), some (.d y)] (.d x) := xe_var rfl
      have vs : XV K W (tVar 2) [some (.d (.tuple [x, y])), some (.d x), some (.d y)] (.d y) := xe_var rfl
      cases x with
      | str w =>
        refine xs_seq (N1 := fun Δ => Δ = [some (.d (.tuple [.str w, y])), some (.d (.str w)), some (.d y)]) (xs_if (xt_not (xt_B (xe_isi vw (kit_str _)))) (fun z => by simp at z) fun _ => xs_next rfl) ?_
        rintro Δ' rfl
        have pre : strS 100000 y := hy
        have sgn : XV K W (tCall (spD K (pre_is_sign K) post_is_sign) [] E0 (tCons (tVar 2) tNil)) _ (.d (.bool (isSignD y))) := xe_call (xa_cons vs xa_nil) ⟨_, rfl, pre⟩
        have nam : XV K W (tCall (spD K (pre_is_name K) post_is_name) [] E0 (tCons (tVar 2) tNil)) _ (.d (.bool (isNameD y))) := xe_call (xa_cons vs xa_nil) ⟨_, rfl, pre⟩
        have box : XV K W (tCall (spD K (pre_is_box K) post_is_box) [] E0 (tCons (tVar 2) tNil)) _ (.d (.bool (isBoxD y))) := xe_call (xa_cons vs xa_nil) ⟨_, rfl⟩
        refine xs_seq (N1 := fun Δ => inF (.str w) [.str "kind", .str "active"] = false ∧ Δ = [some (.d (.tuple [.str w, y])), some (.d (.str w)), some (.d y)]) (xs_if (xt_test (xe_op vw (xe_tup (ds := [.str "kind", .str "active"]) (xa_cons xe_str (xa_cons xe_str xa_nil))) (ox_inT rfl rfl))) (fun z => ?_) fun z => xs_next ⟨z, rfl⟩) ?_
        · refine xs_ret sgn fun a e => ?_
          subst e
          show A.d _ = A.d (.bool (if _ then _ else _))
          rw [if_pos (show inF (.str w) [.str "kind", .str "active"] = true from z)]
        rintro Δ' ⟨z1, rfl⟩
        refine xs_seq (N1 := fun Δ => eqF (.str w) (.str "name") = false ∧ Δ = [some (.d (.tuple [.str w, y])), some (.d (.str w)), some (.d y)]) (xs_if (xt_test (xe_op vw xe_str (ox_eq rfl rfl rfl))) (fun z => ?_) fun z => xs_next ⟨z, rfl⟩) ?_
        · refine xs_ret nam fun a e => ?_
          subst e
          show A.d _ = A.d (.bool (if _ then _ else if _ then _ else _))
          rw [if_neg (by rw [z1]; decide), if_pos z]
        rintro Δ' ⟨z2, rfl⟩
        refine xs_ret (xe_andV (xe_op vw (xe_tup (ds := [.str "box", .str "row"]) (xa_cons xe_str (xa_cons xe_str xa_nil))) (ox_inT rfl rfl)) fun _ => box) fun a e => ?_
        subst e
        show A.d (.bool (inF (.str w) [.str "box", .str "row"] && isBoxD y)) = A.d (.bool (if _ then _ else if _ then _ else _))
        rw [if_neg (by rw [z1]; decide), if_neg (by rw [z2]; decide)]
      | _ =>
        refine xs_seq (N1 := fun _ => False) (xs_if (xt_not (xt_B (xe_isi vw (kit_str _)))) (fun _ => xs_ret xe_bl fun a e => e) fun z => by simp at z) fun _ z => z.elim
    · refine xs_seq (N1 := fun _ => False) (xs_if (xt_or (xt_not (xt_B (xe_isi var (kit_tuple _)))) fun _ => xt_test (xe_op (xe_cb (xa_cons var xa_nil) cx_lenT) xe_int (ox_ne rfl rfl rfl))) (fun z => xs_ret xe_bl fun a e => ?_) fun z => ?_) fun _ z => z.elim
      · subst e
        match xs, h2 with
        | [], _ => rfl
        | [x], _ => cases x <;> rfl
        | x :: y :: z :: r, _ => cases x <;> rfl
      · have z' : (xs.length : Int) = 2 := by simpa [eqF, vOf] using z
        omega
  | _ =>
    refine xs_seq (N1 := fun _ => False) (xs_if (xt_or (b := false) (xt_not (xt_B (xe_isi var (kit_tuple _)))) fun z => by simp at z) (fun _ => xs_ret xe_bl fun a e => e) fun z => by simp at z) fun _ z => z.elim
def pre_is_sign_piece (K : PySem.W.Frag) (W : Wd) (as : List A) : Prop := ∃ d, as = [.d d] ∧ strT 100000 d
def post_is_sign_piece (as : List A) (a : A) : Prop := match as with | [.d d] => a = .d (.bool (isSignPieceD d)) | _ => False
theorem ok_is_sign_piece (T : Top w K mg f fd) : FnOk P w K mg base CX0 4 (f 16) (fd 16) ["thing"] (spD K (pre_is_sign_piece K) post_is_sign_piece) := by
  refine okD T.F_is_sign_piece sc_is_sign_piece (fun W as p => ?_) (fun cdv Ar outer s H E hr => ⟨_, (pss_one (ps_ret (pe_and (pe_call (ok_is_piece T) hr (by rfl) T.g_is_piece T.F_is_piece.kp (b_is_piece T) .nil pass0 (pa_cons (pv 0) pa_nil)) (pe_one (pe_cmpR op_notIn_seq (pe_ix ix_tup (pv 0) pe_int (fun _ _ => rfl)) (pe_const (by rfl) T.g_WORDS_OF_NO_SIGN_PIECE) (by rfl)))))), fun W as p => ?_⟩)
  · obtain ⟨_, rfl, _⟩ := p; rfl
  obtain ⟨d, rfl, hs⟩ := p
  have var : XV K W (tVar 0) (startE ["thing"] [.d d]) (.d d) := xe_var rfl
  refine xs_ret (xe_andV (a := isPieceD d) (b := wordNo d) (XE.mono (xe_call (pre := pre_is_piece K) (post := post_is_piece) (E := E0) (xa_cons var xa_nil) ⟨_, rfl, hs⟩) fun a e => e) fun px => ?_) fun a e => e
  obtain ⟨w, s, rfl⟩ := piece_shape px
  exact xe_op (xe_op var xe_int (ox_ixT (by decide) rfl)) (xe_ktup T.k_WORDS_OF_NO_SIGN_PIECE (ds := noSignK) rfl rfl) (ox_inT (n := true) rfl rfl)
def pre_is_number_worth (K : PySem.W.Frag) (W : Wd) (as : List A) : Prop := ∃ d, as = [.d d]
def post_is_number_worth (as : List A) (a : A) : Prop := match as with | [.d d] => a = .d (.bool (isNumD d)) | _ => False
theorem ok_is_number_worth (T : Top w K mg f fd) : FnOk P w K mg base CX0 2 (f 18) (fd 18) ["thing"] (spD K (pre_is_number_worth K) post_is_number_worth) := by
  refine okD T.F_is_number_worth sc_is_number_worth (fun W as p => ?_) (fun cdv Ar outer s H E hr => ⟨_, (pss_one (ps_ret (pe_and (pe_call (ok_is_whole T) hr (by rfl) T.g_is_whole T.F_is_whole.kp (b_is_whole T) .nil pass0 (pa_cons (pv 0) pa_nil)) (pe_one (pe_chain o_lt o_lt (pe_un o_neg (pe_const (by rfl) T.g_GREAT)) (pv 0) (pe_const (by rfl) T.g_GREAT)))))), fun W as p => ?_⟩)
  · obtain ⟨_, rfl, _⟩ := p; rfl
  obtain ⟨d, rfl⟩ := p
  have var : XV K W (tVar 0) (startE ["thing"] [.d d]) (.d d) := xe_var rfl
  refine xs_ret (xe_andV (a := isWholeD d) (b := numRange d) (XE.mono (xe_call (pre := pre_is_whole K) (post := post_is_whole) (E := E0) (xa_cons var xa_nil) ⟨_, rfl⟩) fun a e => e) fun sy => ?_) fun a e => e
  obtain ⟨i, rfl⟩ : ∃ i, d = .int i := by cases d <;> first | exact ⟨_, rfl⟩ | (simp [isWholeD] at sy)
  exact xe_chain (xe_neg xe_int) var ox_IB (fun _ => xe_int) fun _ => ox_IB
def pre_is_row_worth (K : PySem.W.Frag) (W : Wd) (as : List A) : Prop := ∃ d, as = [.d d] ∧ LOk d
def post_is_row_worth (as : List A) (a : A) : Prop := match as with | [.d d] => a = .d (.bool (isRowWorthD d)) | _ => False
theorem ok_is_row_worth (T : Top w K mg f fd) : FnOk P w K mg base CX0 5 (f 19) (fd 19) ["thing"] (spD K (pre_is_row_worth K) post_is_row_worth) := by
  refine okD T.F_is_row_worth sc_is_row_worth (fun W as p => ?_) (fun cdv Ar outer s H E hr => ⟨_, (pss_one (ps_ret (pe_and (pe_call (ok_is_row T) hr (by rfl) T.g_is_row T.F_is_row.kp (b_is_row T) .nil pass0 (pa_cons (pv 0) pa_nil)) (pe_one (pe_notT (pe_call (ok_hands_among T) (hr.mono (by omega)) (by rfl) T.g_hands_among T.F_hands_among.kp (b_hands_among T) .nil pass0 (pa_cons (pv 0) pa_nil))))))), fun W as p => ?_⟩)
  · obtain ⟨_, rfl, _⟩ := p; rfl
  obtain ⟨d, rfl, hs⟩ := p
  have var : XV K W (tVar 0) (startE ["thing"] [.d d]) (.d d) := xe_var rfl
  refine xs_ret (xe_andV (a := isRowD d) (b := rowBare d) (XE.mono (xe_call (pre := pre_is_row K) (post := post_is_row) (E := E0) (xa_cons var xa_nil) ⟨_, rfl, hs⟩) fun a e => e) fun px => ?_) fun a e => e
  obtain ⟨ds, rfl⟩ : ∃ ds, d = .list ds := by cases d <;> first | exact ⟨_, rfl⟩ | (simp [isRowD] at px)
  have pcs : ∀ d ∈ ds, isPieceD d = true := fun d hd => by
    have h2 : (ds.map isPieceD).all id = true := px
    exact List.all_eq_true.mp h2 _ (List.mem_map.mpr ⟨d, hd, rfl⟩)
  exact xe_notTL (XE.mono (xe_call (pre := pre_hands_among K) (post := post_hands_among) (E := E0) (xa_cons var xa_nil) ⟨ds, .inr rfl, (hs ds rfl).1, pcs⟩) fun a e => e)
def pre_is_meaning (K : PySem.W.Frag) (W : Wd) (as : List A) : Prop := ∃ d, as = [.d d] ∧ MOk d
def post_is_meaning (as : List A) (a : A) : Prop := match as with | [.d d] => a = .d (.bool (isMeaningD d)) | _ => False
theorem ok_is_meaning (T : Top w K mg f fd) : FnOk P w K mg base CX0 8 (f 17) (fd 17) ["thing"] (spD K (pre_is_meaning K) post_is_meaning) := by
  refine okD T.F_is_meaning sc_is_meaning (fun W as p => ?_) (fun cdv Ar outer s H E hr => ⟨_, (pss_cons (ps_if (PW.pt (pw_or (pt_not (pt_val (pe_callB call_isi (by rfl) T.z_isinstance (by decide +kernel) (pa_cons (pv 0) (pa_cons (pe_bltn (v := .ty "tuple") (by rfl) T.z_tuple (by decide +kernel) rfl) pa_nil))))) (pw_or (pt_cmpR o_lt (pe_callB c_len (by rfl) T.z_len (by decide +kernel) (pa_cons (pv 0) pa_nil)) pe_int (nomark _)) (pw_or1 (pt_not (pt_val (pe_callB call_isi (by rfl) T.z_isinstance (by decide +kernel) (pa_cons (pe_ix ix_tup (pv 0) pe_int (fun _ _ => rfl)) (pa_cons (pe_bltn (v := .ty "str") (by rfl) T.z_str (by decide +kernel) rfl) pa_nil))))))))) (pss_one (ps_ret pe_bl)) pss_nil)
      (pss_cons (ps_asg (pv 0) (pg_hdT rfl (pgs_cons (pg_name (i := 1) sc_is_meaning.nd rfl (Or.inl rfl)) (pgs_star (pg_name (i := 2) sc_is_meaning.nd rfl (Or.inl rfl)) pgs_nil))))
      (pss_cons (ps_if (pt_cmpR op_eq (pv 1) pe_str (nomark _)) (pss_one (ps_ret (pe_call (ok_is_rule T) hr (by rfl) T.g_is_rule T.F_is_rule.kp (b_is_rule T) .nil pass0 (pa_cons (pe_callTy c_tup (by rfl) T.z_tuple (by decide +kernel) (pa_cons (pv 2) pa_nil)) pa_nil)))) pss_nil)
      (pss_cons (ps_if (pt_cmpR op_ne (pe_callB c_len (by rfl) T.z_len (by decide +kernel) (pa_cons (pv 2) pa_nil)) pe_int (nomark _)) (pss_one (ps_ret pe_bl)) pss_nil)
      (pss_cons (ps_if (pt_cmpR op_eq (pv 1) pe_str (nomark _)) (pss_one (ps_ret (pe_and (pe_callB call_isi (by rfl) T.z_isinstance (by decide +kernel) (pa_cons (pe_ix ix_list (pv 2) pe_int (fun _ _ => rfl)) (pa_cons (pe_bltn (v := .ty "str") (by rfl) T.z_str (by decide +kernel) rfl) pa_nil))) (pe_one (pe_cmpR op_in_seq (pe_ix ix_list (pv 2) pe_int (fun _ _ => rfl)) (pe_const (by rfl) T.g_DEEDS) (by rfl)))))) pss_nil)
      (pss_one (ps_ret (pe_and (pe_cmpR op_eq (pv 1) pe_str (nomark _)) (pe_one (pe_call (ok_is_sign_piece T) (hr.mono (by omega)) (by rfl) T.g_is_sign_piece T.F_is_sign_piece.kp (b_is_sign_piece T) .nil pass0 (pa_cons (pe_ix ix_list (pv 2) pe_int (fun _ _ => rfl)) pa_nil))))))))))), fun W as p => ?_⟩)
  · obtain ⟨_, rfl, _⟩ := p; rfl
  obtain ⟨d, rfl, hs⟩ := p
  have var : XV K W (tVar 0) (startE ["thing", "word", "parts"] [.d d]) (.d d) := xe_var rfl
  cases d with
  | tuple xs =>
    match xs, hs with
    | [], _ =>
      refine xs_seq (N1 := fun _ => False) (xs_if (xt_or (xt_not (xt_B (xe_isi var (kit_tuple _)))) fun _ => xt_or (b := false) (xt_test (xe_op (xe_cb (xa_cons var xa_nil) cx_lenT) xe_int ox_IB)) fun z => by simp at z) (fun _ => xs_ret xe_bl fun a e => e) fun z => by simp at z) fun _ z => z.elim
    | [x], _ =>
      refine xs_seq (N1 := fun _ => False) (xs_if (xt_or (xt_not (xt_B (xe_isi var (kit_tuple _)))) fun _ => xt_or (b := false) (xt_test (xe_op (xe_cb (xa_cons var xa_nil) cx_lenT) xe_int ox_IB)) fun z => by simp at z) (fun _ => xs_ret xe_bl fun a e => ?_) fun z => by simp at z) fun _ z => z.elim
      subst e
      cases x <;> rfl
    | x :: y :: r, hs =>
      have h0 : XV K W (tOp (rIxT K) (tVar 0) (tC (.int 0))) (startE ["thing", "word", "parts"] [.d (.tuple (x :: y :: r))]) (.d x) := xe_op var xe_int (ox_ixT (by decide) rfl)
      obtain ⟨hl, hp⟩ := hs _ rfl
      have lt : decide (((x :: y :: r).length : Int) < 2) = false := decide_eq_false (by rw [List.length_cons, List.length_cons]; omega)
      cases x with
      | str w =>
        refine xs_seq (N1 := fun Δ => Δ = startE ["thing", "word", "parts"] [.d (.tuple (.str w :: y :: r))]) (xs_if (xt_or (xt_not (xt_B (xe_isi var (kit_tuple _)))) fun _ => xt_or (xt_test (xe_op (xe_cb (xa_cons var xa_nil) cx_lenT) xe_int ox_IB)) fun _ => xt_not (xt_B (xe_isi h0 (kit_str _)))) (fun z => ?_) fun _ => xs_next rfl) ?_
        · rw [lt] at z
          simp at z
        rintro Δ' rfl
        refine xs_seq (N1 := fun Δ => Δ = [some (.d (.tuple (.str w :: y :: r))), some (.d (.str w)), some (.d (.list (y :: r)))]) (xs_asg var (gx_hd (by rw [List.length_cons] at hl; omega)) rfl) ?_
        rintro Δ' rfl
        have vw : XV K W (tVar 1) [some (.d (.tuple (.str w :: y :: r))), some (.d (.str w)), some (.d (.list (y :: r)))] (.d (.str w)) := xe_var rfl
        have vp : XV K W (tVar 2) [some (.d (.tuple (.str w :: y :: r))), some (.d (.str w)), some (.d (.list (y :: r)))] (.d (.list (y :: r))) := xe_var rfl
        refine xs_seq (N1 := fun Δ => eqF (.str w) (.str "rule") = false ∧ Δ = [some (.d (.tuple (.str w :: y :: r))), some (.d (.str w)), some (.d (.list (y :: r)))]) (xs_if (xt_test (xe_op vw xe_str (ox_eq rfl rfl rfl))) (fun z => ?_) fun z => xs_next ⟨z, rfl⟩) ?_
        · refine xs_ret (xe_call (pre := pre_is_rule K) (post := post_is_rule) (E := E0) (xa_cons (xe_cb (xa_cons vp xa_nil) cx_tup) xa_nil) ⟨_, rfl, fun zs e x hx => by cases e; exact (hp x (.tail _ hx)).2⟩) fun a e => ?_
          have e : a = .d (.bool (isRuleD (.tuple (y :: r)))) := e
          subst e
          show A.d _ = A.d (.bool (if _ then _ else _))
          rw [if_pos z]
        rintro Δ' ⟨z1, rfl⟩
        have p0 : XV K W (tOp (rIxL K) (tVar 2) (tC (.int 0))) [some (.d (.tuple (.str w :: y :: r))), some (.d (.str w)), some (.d (.list (y :: r)))] (.d y) := xe_op vp xe_int (ox_ixL (by decide) rfl)
        refine xs_seq (N1 := fun Δ => r = [] ∧ Δ = [some (.d (.tuple (.str w :: y :: r))), some (.d (.str w)), some (.d (.list (y :: r)))]) (xs_if (xt_test (xe_op (xe_cb (xa_cons vp xa_nil) cx_lenL) xe_int (ox_ne rfl rfl rfl))) (fun z => ?_) fun z => xs_next ⟨?_, rfl⟩) ?_
        · refine xs_ret xe_bl fun a e => ?_
          subst e
          cases r with
          | nil => simp [eqF, vOf] at z
          | cons u us =>
            show A.d _ = A.d (.bool (if _ then _ else if _ then _ else false))
            rw [if_neg (by rw [z1]; decide), if_neg (by simp)]
        · cases r with
          | nil => rfl
          | cons u us =>
            have z' : ((y :: u :: us).length : Int) = 1 := by simpa [eqF, vOf] using z
            rw [List.length_cons, List.length_cons] at z'
            omega
        rintro Δ' ⟨rfl, rfl⟩
        refine xs_seq (N1 := fun Δ => eqF (.str w) (.str "deed") = false ∧ Δ = [some (.d (.tuple [.str w, y])), some (.d (.str w)), some (.d (.list [y]))]) (xs_if (xt_test (xe_op vw xe_str (ox_eq rfl rfl rfl))) (fun z => ?_) fun z => xs_next ⟨z, rfl⟩) ?_
        · have fin : ∀ a, a = A.d (.bool (isDeedD y)) → a = A.d (.bool (isMeaningD (.tuple [.str w, y]))) := fun a e => by
            subst e
            show A.d _ = A.d (.bool (if _ then _ else if _ then (if _ then _ else _) else _))
            rw [if_neg (by rw [z1]; decide), if_pos (by rfl), if_pos z]
          cases y with
          | str s => exact xs_ret (xe_andV (xe_isi p0 (kit_str _)) fun _ => xe_op p0 (xe_ktup T.k_DEEDS (ds := deedsK) rfl rfl) (ox_inT rfl rfl)) fun a e => fin a e
          | _ => exact xs_ret (xe_andV (b := false) (xe_isi p0 (kit_str _)) fun z => by simp at z) fun a e => fin a e
        rintro Δ' ⟨z2, rfl⟩
        refine xs_ret (xe_andV (xe_op vw xe_str (ox_eq rfl rfl rfl)) fun _ => XE.mono (xe_call (pre := pre_is_sign_piece K) (post := post_is_sign_piece) (E := E0) (xa_cons p0 xa_nil) ⟨_, rfl, (hp y (.tail _ (.head _))).1⟩) fun a e => e) fun a e => ?_
        subst e
        show A.d _ = A.d (.bool (if _ then _ else if _ then (if _ then _ else _) else _))
        rw [if_neg (by rw [z1]; decide), if_pos (by rfl), if_neg (by rw [z2]; decide)]
      | _ =>
        refine xs_seq (N1 := fun _ => False) (xs_if (xt_or (xt_not (xt_B (xe_isi var (kit_tuple _)))) fun _ => xt_or (xt_test (xe_op (xe_cb (xa_cons var xa_nil) cx_lenT) xe_int ox_IB)) fun _ => xt_not (xt_B (xe_isi h0 (kit_str _)))) (fun _ => xs_ret xe_bl fun a e => e) fun z => ?_) fun _ z => z.elim
        rw [lt] at z
        simp at z
  | _ =>
    refine xs_seq (N1 := fun _ => False) (xs_if (xt_or (b := false) (xt_not (xt_B (xe_isi var (kit_tuple _)))) fun z => by simp at z) (fun _ => xs_ret xe_bl fun a e => e) fun z => by simp at z) fun _ z => z.elim
def pre_is_worth (K : PySem.W.Frag) (W : Wd) (as : List A) : Prop := ∃ w p d, as = [.d (.tuple [.str w, p]), .d d] ∧ MOk d ∧ LOk d
def post_is_worth (as : List A) (a : A) : Prop := match as with | [.d (.tuple [.str w, p]), .d d] => a = .d (.bool (isWorthD w d)) | _ => False
theorem ok_is_worth (T : Top w K mg f fd) : FnOk P w K mg base CX0 9 (f 20) (fd 20) ["key", "thing"] (spD K (pre_is_worth K) post_is_worth) := by
  refine okD T.F_is_worth sc_is_worth (fun W as p => ?_) (fun cdv Ar outer s H E hr => ⟨_, (pss_cons (ps_set (i := 2) sc_is_worth.nd rfl (Or.inl rfl) (pe_ix ix_tup (pv 0) pe_int (fun _ _ => rfl)))
      (pss_cons (ps_if (pt_cmpR op_eq (pv 2) pe_str (nomark _)) (pss_one (ps_ret (pe_call (ok_is_kind T) (hr.mono (by omega)) (by rfl) T.g_is_kind T.F_is_kind.kp (b_is_kind T) .nil pass0 (pa_cons (pv 1) pa_nil)))) pss_nil)
      (pss_cons (ps_if (pt_cmpR op_eq (pv 2) pe_str (nomark _)) (pss_one (ps_ret (pe_call (ok_is_number_worth T) (hr.mono (by omega)) (by rfl) T.g_is_number_worth T.F_is_number_worth.kp (b_is_number_worth T) .nil pass0 (pa_cons (pv 1) pa_nil)))) pss_nil)
      (pss_cons (ps_if (pt_cmpR op_eq (pv 2) pe_str (nomark _)) (pss_one (ps_ret (pe_call (ok_is_row_worth T) (hr.mono (by omega)) (by rfl) T.g_is_row_worth T.F_is_row_worth.kp (b_is_row_worth T) .nil pass0 (pa_cons (pv 1) pa_nil)))) pss_nil)
      (pss_one (ps_ret (pe_or (pe_cmpR o_isN (pv 1) pe_non (nomark _)) (pe_one (pe_call (ok_is_meaning T) hr (by rfl) T.g_is_meaning T.F_is_meaning.kp (b_is_meaning T) .nil pass0 (pa_cons (pv 1) pa_nil)))))))))), fun W as p => ?_⟩)
  · obtain ⟨_, _, _, rfl, _⟩ := p; rfl
  obtain ⟨w, p, d, rfl, hm, hl⟩ := p
  refine xs_seq (N1 := fun Δ => Δ = [some (.d (.tuple [.str w, p])), some (.d d), some (.d (.str w))]) (xs_set (xe_op (xe_var rfl) xe_int (ox_ixT (by decide) rfl)) rfl) ?_
  rintro Δ' rfl
  have vw : XV K W (tVar 2) [some (.d (.tuple [.str w, p])), some (.d d), some (.d (.str w))] (.d (.str w)) := xe_var rfl
  have vd : XV K W (tVar 1) [some (.d (.tuple [.str w, p])), some (.d d), some (.d (.str w))] (.d d) := xe_var rfl
  refine xs_seq (N1 := fun Δ => eqF (.str w) (.str "kind") = false ∧ Δ = [some (.d (.tuple [.str w, p])), some (.d d), some (.d (.str w))]) (xs_if (xt_test (xe_op vw xe_str (ox_eq rfl rfl rfl))) (fun z => ?_) fun z => xs_next ⟨z, rfl⟩) ?_
  · refine xs_ret (xe_call (pre := pre_is_kind K) (post := post_is_kind) (E := E0) (xa_cons vd xa_nil) ⟨_, rfl⟩) fun a e => ?_
    have e : a = .d (.bool (isKindD d)) := e
    subst e
    show A.d _ = A.d (.bool (if _ then _ else _))
    rw [if_pos z]
  rintro Δ' ⟨z1, rfl⟩
  refine xs_seq (N1 := fun Δ => eqF (.str w) (.str "box") = false ∧ Δ = [some (.d (.tuple [.str w, p])), some (.d d), some (.d (.str w))]) (xs_if (xt_test (xe_op vw xe_str (ox_eq rfl rfl rfl))) (fun z => ?_) fun z => xs_next ⟨z, rfl⟩) ?_
  · refine xs_ret (xe_call (pre := pre_is_number_worth K) (post := post_is_number_worth) (E := E0) (xa_cons vd xa_nil) ⟨_, rfl⟩) fun a e => ?_
    have e : a = .d (.bool (isNumD d)) := e
    subst e
    show A.d _ = A.d (.bool (if _ then _ else if _ then _ else _))
    rw [if_neg (by rw [z1]; decide), if_pos z]
  rintro Δ' ⟨z2, rfl⟩
  refine xs_seq (N1 := fun Δ => eqF (.str w) (.str "row") = false ∧ Δ = [some (.d (.tuple [.str w, p])), some (.d d), some (.d (.str w))]) (xs_if (xt_test (xe_op vw xe_str (ox_eq rfl rfl rfl))) (fun z => ?_) fun z => xs_next ⟨z, rfl⟩) ?_
  · refine xs_ret (xe_call (pre := pre_is_row_worth K) (post := post_is_row_worth) (E := E0) (xa_cons vd xa_nil) ⟨_, rfl, hl⟩) fun a e => ?_
    have e : a = .d (.bool (isRowWorthD d)) := e
    subst e
    show A.d _ = A.d (.bool (if _ then _ else if _ then _ else if _ then _ else _))
    rw [if_neg (by rw [z1]; decide), if_neg (by rw [z2]; decide), if_pos z]
  rintro Δ' ⟨z3, rfl⟩
  refine xs_ret (xe_orV (xe_op vd xe_non ox_isN) fun _ => XE.mono (xe_call (pre := pre_is_meaning K) (post := post_is_meaning) (E := E0) (xa_cons vd xa_nil) ⟨_, rfl, hm⟩) fun a e => e) fun a e => ?_
  subst e
  show A.d _ = A.d (.bool (if _ then _ else if _ then _ else if _ then _ else _))
  rw [if_neg (by rw [z1]; decide), if_neg (by rw [z2]; decide), if_neg (by rw [z3]; decide)]

abbrev Kds := List (Str × Str)
def meanK : Kept := deedsS.map fun w => ([.inr "name", .inr w], PyData.tuple [.str "deed", .str w])
def pre_kind_in (g : Kds × Str) (W : Wd) (as : List A) : Prop := as = [.d (KD g.1), .d (.str g.2)] ∧ True
def post_kind_in (g : Kds × Str) (a : A) : Prop := a = .d (.str (look g.1 "other" g.2))
theorem ok_kind_in (T : Top w K mg f fd) : FnOk P w K mg base CX0 1 (f 4) (fd 4) ["kinds", "sign"] (spG K pre_kind_in post_kind_in) := by
  refine okDg T.F_kind_in sc_kind_in (fun g W as p => ?_) (fun cdv Ar outer s H E hr => ⟨_, (pss_one (ps_ret (pe_dget2 (hu_of hr) (pv 0) (pv 1) pe_str ⟨rfl, rfl, rfl, rfl⟩))), fun g W as p => ?_⟩)
  · rcases p with ⟨rfl, _⟩; rfl
  obtain ⟨kvs, c⟩ := g
  obtain ⟨rfl, _⟩ := p
  exact xs_ret (xe_dget (xe_var rfl) (xe_var rfl) xe_str) fun a e => e
def lettersK : Str := "abcdefghijklmnopqrstuvwxyzABCDEFGHIJKLMNOPQRSTUVWXYZ"
def constK : List (Str × Str) := [(" ", "blank"), ("\t", "blank"), ("\n", "blank"), ("\\", "escape"), ("{", "open"), ("}", "shut"), ("#", "mark"), ("~", "active"), ("!", "remark")]
def firstK : List (Str × Str) := mergeS (mergeS [] (pairsS lettersK.cps.toList "letter")) constK
/-- a new dict -/
def spFirst (K : PySem.W.Frag) : Sp := fun us H Q _ => ∃ W : Wd, us = [] ∧ W.J H ∧ ∀ D H', FX W H H' [(D, .dK (KV2 firstK))] → Q (.ref D) H'
theorem xe_first {K : PySem.W.Frag} {W : Wd} {Δ : Env} {E : XK} : XV K W (tCall (spFirst K) [] E tNil) Δ (.d (KD firstK)) := fun σ H j s Q q => ⟨W, rfl, j, fun D H' fx => q (.ref D) H' _ fx.fr rfl (show Dt K (hid W.M H') (.ref D) (KD firstK) from .dct (by rw [hid_out (fx.new _ (.head _)).2]; exact fx.j.2 _ (.head _)) (dtkv_of _))⟩
theorem put_one {a : Addr} {o u : HO} : Frg.put [(a, u)] a o = [(a, o)] := put_hdN (by rw [List.map_cons, List.nodup_cons]; exact ⟨(fun h => nomatch h), List.nodup_nil⟩)
theorem ok_first_kinds (T : Top w K mg f fd) : FnOk P w K mg base CX0 1 (f 3) (fd 3) [] (spFirst K) := by
  refine T.F_first_kinds.ok sc_first_kinds (fun vs H Q E h => ?_) (fun cdv Ar outer s H vs Q E hr h => ?_)
  · obtain ⟨_, rfl, _⟩ := h; rfl
  refine ⟨_, (pss_cons (ps_setDc (i := 0) (own := [("sign", 1)]) (g := gName 1) (tt := tYes) (by rfl) sc_first_kinds.nd rfl rfl (sw_trueD rfl rfl rfl (by decide +kernel)) (pi_str (pe_const (by rfl) T.g_LETTERS)) (blkOk_by (own := [("sign", 1)]) (N := ["kinds", "sign"]) (sc := defScope s_first_kinds) (by decide +kernel)) (fun _ _ _ _ _ => pg_name (i := 1) sc_first_kinds.nd rfl (Or.inl rfl)) (fun _ _ _ _ _ => pts_nil) (fun _ _ _ _ _ => (pv 1)) (fun _ _ _ _ _ => pe_str))
      (pss_cons (ps_for PassesOwn.never rfl (pi_keysK (pe_const (by rfl) T.g_FIRST_BUT_LETTERS)) (pg_name (i := 1) sc_first_kinds.nd rfl (Or.inl rfl)) (pss_one (ps_dput (hu_of hr) (pv 0) (pv 1) (pe_ix ix_kdict (pe_const (by rfl) T.g_FIRST_BUT_LETTERS) (pv 1) (fun _ _ => rfl)) rfl)))
      (pss_one (ps_ret (pv 0))))), ?_⟩
  obtain ⟨W, rfl, j, q⟩ := h
  have s0 : FS K W H H (L2.start ["kinds", "sign"] []) (startE ["kinds", "sign"] []) [] := FS.nil j (stOk_start .nil)
  refine seq_in (via_asg (fs_dcStr (x := lettersK) (u := "letter") s0 xe_str (by decide) (by decide) fun Dk H1 s1 g1 => ?_))
  have s2 := s1.put (i := 0) (v := .ref Dk) (a := .v (.ref Dk)) rfl
  refine seq_in ?_
  dsimp only
  unfold tFor iKeysK
  let M : Nat → List (Str × Str) := fun i => mergeS (mergeS [] (pairsS lettersK.cps.toList "letter")) (constK.take i)
  have ml : ∀ i, (M i).length ≤ 10000 := fun i => by
    have h1 := mergeS_len (constK.take i) (mergeS [] (pairsS lettersK.cps.toList "letter"))
    have h2 := mergeS_len (pairsS lettersK.cps.toList "letter") []
    have h3 : (constK.take i).length ≤ 9 := by rw [List.length_take]; exact Nat.min_le_right _ _
    have h4 : (pairsS lettersK.cps.toList "letter").length = 52 := by decide
    have h5 : ([] : List (Str × Str)).length = 0 := rfl
    show (mergeS (mergeS [] (pairsS lettersK.cps.toList "letter")) (constK.take i)).length ≤ 10000
    omega
  refine ⟨_, _, rfl, T.k_FIRST_BUT_LETTERS, for_keysK (fun i σ2 H2 => ∃ x1, FS K W H H2 σ2 [some (.v (.ref Dk)), x1] [(Dk, .dK (KV2 (M i)))]) ⟨_, s2⟩ ?_ ?_⟩
  · rintro i k v σ2 H2 hkv ⟨x1, s3⟩
    have s4 := s3.put (i := 1) (v := .str k) (a := .d (.str k)) (.str k)
    obtain ⟨v1, e1, i1⟩ := s4.st.get 1 (.d (.str k)) rfl
    cases i1
    obtain ⟨v0, e0, i0⟩ := s4.st.get 0 (.v (.ref Dk)) rfl
    have i0 : v0 = .ref Dk := i0
    subst i0
    refine ⟨_, e1, _, _, _, rfl, rfl, T.k_FIRST_BUT_LETTERS.get hkv, ?_⟩
    refine ⟨_, e0, _, e1, Dk, _, rfl, DPut.k (k := Sum.inr k) (s4.f.j.2 _ (.head _)) (by unfold KV2; rw [List.length_map]; exact Nat.lt_of_le_of_lt (ml i) (by decide)), ?_⟩
    have s5 := s4.to (s4.f.put (o' := .dK (KV2 (M (i + 1)))) (.head _)) (gr_put (.head _))
    rw [put_one] at s5
    have e : putK (KV2 (M i)) (Sum.inr k) (.str v) = KV2 (M (i + 1)) := by
      rw [putK_KV2]
      show KV2 (putS (M i) k v) = KV2 (mergeS _ (constK.take (i + 1)))
      have hk : constK[i]? = some (k, v) := hkv
      rw [List.take_add_one, hk]
      exact congrArg KV2 (mergeS_snoc (mergeS [] (pairsS lettersK.cps.toList "letter")) (constK.take i) (k, v)).symm
    rw [e]
    exact ⟨_, s5⟩
  · rintro σ2 H2 ⟨x1, s3⟩
    refine fs_ret s3 (xe_var rfl) fun v H' a e s4 g4 i4 => ?_
    subst e
    have i4 : v = .ref Dk := i4
    subst i4
    exact q Dk H' s4.f
/-- the meanings at first, as a new dict -/
def spMean (K : PySem.W.Frag) : Sp := fun us H Q _ => ∃ W : Wd, us = [] ∧ W.J H ∧ ∀ D H' kv, FX W H H' [(D, .dT kv)] → DtT K (hid (W.fix [(D, .dT kv)]).M H') kv meanK → Q (.ref D) H'
theorem via_ret {te : TE} {D : Ends} {σ : L2.St} {H : Hp} (h : te σ H D.rt) : tRet te D σ H := h
section
variable {K : PySem.W.Frag} {W : Wd} {H0 H H' : Hp} {S : Frg} {σ : L2.St} {Δ : Env} {E : XK} {Q : VK} {D : Ends} {tv to : TE} {C x dx : Addr} {fs : List (Str × V)} {f : Str}
theorem first_in (s : FS K W H0 H σ Δ S) (q : ∀ D H', FS K W H0 H' σ Δ ((D, .dK (KV2 firstK)) :: S) → Gr W H S H' ((D, .dK (KV2 firstK)) :: S) → Q (.ref D) H') : tCall (spFirst K) [] E tNil σ H Q := ⟨W.fix S, rfl, s.f.j, fun D H' fx => q D H' (s.join fx) (gr_join fx)⟩
theorem mean_in (s : FS K W H0 H σ Δ S) (q : ∀ D H' kv, FS K W H0 H' σ Δ ((D, .dT kv) :: S) → Gr W H S H' ((D, .dT kv) :: S) → DtT K (hid (W.fix ((D, .dT kv) :: S)).M H') kv meanK → Q (.ref D) H') : tCall (spMean K) [] E tNil σ H Q := ⟨W.fix S, rfl, s.f.j, fun D H' kv fx dt => q D H' kv (s.join fx) (gr_join fx) (by
  have e := fix_app (W := W) (S := S) (S2 := [(D, HO.dT kv)])
  show DtT K (hid (W.fix ([(D, HO.dT kv)] ++ S)).M H') kv meanK
  rw [e]
  exact dt)⟩
theorem via_sfld (h : tv σ H fun y H1 => to σ H1 fun x H2 => ∃ a C dx fs, x = .ref a ∧ H2 a = some (.ins C dx fs) ∧ Cls K C ∧ NoAttr K C f ∧ fs.length < 1000 ∧ D.nx σ (upd H2 a (.ins C dx (putF f y fs)))) : sFld K to tv f D σ H := h
theorem fs_sfld {y : V} (s : FS K W H0 H σ Δ S) (h : (x, HO.ins C dx fs) ∈ S) (c : Cls K C) (n : NoAttr K C f) (l : fs.length < 1000) (hv : XV K (W.fix S) to Δ (.v (.ref x)))
    (q : ∀ H', FS K W H0 H' σ Δ (S.put x (.ins C dx (putF f y fs))) → Gr W H S H' (S.put x (.ins C dx (putF f y fs))) → D.nx σ H') : to σ H fun x H2 => ∃ a C dx fs, x = .ref a ∧ H2 a = some (.ins C dx fs) ∧ Cls K C ∧ NoAttr K C f ∧ fs.length < 1000 ∧ D.nx σ (upd H2 a (.ins C dx (putF f y fs))) :=
  s.in hv fun v H1 a e s1 g1 i1 => by
    subst e
    have e : v = .ref x := i1
    subst e
    exact ⟨x, C, dx, fs, rfl, s1.f.j.2 _ h, c, n, l, q _ (s1.to (s1.f.put h) (gr_put h)) (gr_trans g1 (gr_put h))⟩
end
def bkS (C b dx t k g : Addr) (tab : Kds) (kv : List (List Key × V)) (gv : List V) : Frg := [(g, .lst gv), (k, .dT kv), (t, .dK (KV2 tab)), (b, .ins C dx (bkF t k g))]
def spIni (K : PySem.W.Frag) (C : Addr) : Sp := fun us H Q _ => ∃ (W : Wd) (H0 : Hp) (b dx : Addr), us = [.ref b] ∧ FX W H0 H [(b, .ins C dx [])] ∧
  ∀ H' t k g kv, FX W H0 H' (bkS C b dx t k g firstK kv []) → DtT K (hid (W.fix (bkS C b dx t k g firstK kv [])).M H') kv meanK → Q .non H'
theorem ok_first_meanings (T : Top w K mg f fd) : FnOk P w K mg base CX0 1 (f 21) (fd 21) [] (spMean K) := by
  refine T.F_first_meanings.ok sc_first_meanings (fun vs H Q E h => ?_) (fun cdv Ar outer s H vs Q E hr h => ?_)
  · obtain ⟨_, rfl, _⟩ := h; rfl
  refine ⟨_, (pss_one (ps_ret (pe_dcT (own := [("word", 0)]) (g := gName 0) (tt := tYes) (Nat.lt_of_succ_lt (hu_of hr)) (by rfl) sc_first_meanings.nd (pi_tup (pe_const (by rfl) T.g_DEEDS)) (blkOk_by (own := [("word", 0)]) (N := ["word"]) (sc := defScope s_first_meanings) (by decide +kernel)) (fun _ _ _ _ _ => pg_name (i := 0) sc_first_meanings.nd rfl (Or.inl rfl)) (fun _ _ _ _ _ => pts_nil) (fun _ _ _ _ _ => (pe_tup (pa_cons pe_str (pa_cons (pv 0) pa_nil)))) (fun _ _ _ _ _ => (pe_tup (pa_cons pe_str (pa_cons (pv 0) pa_nil))))))), ?_⟩
  obtain ⟨W, rfl, j, q⟩ := h
  have st : StOk K W.M H (L2.start ["word"] []) (startE ["word"] []) := stOk_start .nil
  exact via_ret (dcT_in (ws := deedsS) (by decide) j st (xe_ktup T.k_DEEDS (ds := deedsK) rfl rfl) (by decide) (by decide) q)
theorem ok_Book_init (T : Top w K mg f fd) : FnOk P w K mg base CX0 2 (f 22) (fd 22) ["self"] (spIni K (f 47)) := by
  refine T.F_Book_init.ok sc_Book_init (fun vs H Q E h => ?_) (fun cdv Ar outer s H vs Q E hr h => ?_)
  · obtain ⟨_, _, _, _, rfl, _⟩ := h; rfl
  refine ⟨_, (pss_cons (ps_fld (pv 0) (pe_call0 (ok_first_kinds T) (hr.mono (by omega)) (by rfl) T.g_first_kinds T.F_first_kinds.kp (b_first_kinds T) .nil pass0) rfl)
      (pss_cons (ps_fld (pv 0) (pe_call0 (ok_first_meanings T) (hr.mono (by omega)) (by rfl) T.g_first_meanings T.F_first_meanings.kp (b_first_meanings T) .nil pass0) rfl)
      (pss_one (ps_fld (pv 0) (pe_lst pa_nil) rfl)))), ?_⟩
  obtain ⟨W, H0, b, dx, rfl, fx, q⟩ := h
  have s0 : FS K W H0 H (L2.start ["self"] [.ref b]) (startE ["self"] [.v (.ref b)]) [(b, .ins (f 47) dx [])] := ⟨fx, stOk_start (.cons rfl .nil)⟩
  refine seq_in (via_sfld (first_in s0 fun t H1 s1 g1 => ?_))
  refine fs_sfld (x := b) (dx := dx) (C := (f 47)) (fs := []) s1 (.tail _ (.head _)) T.cl_Book T.n_Book_table (by decide) (xe_var rfl) fun H2 s2 g2 => ?_
  dsimp only at s2 ⊢
  have tb : t ≠ b := by have := s1.f.nd; simpa using this
  rw [put_cons tb, put_one] at s2
  refine seq_in (via_sfld (mean_in s2 fun k H3 kv s3 g3 dt => ?_))
  refine fs_sfld (x := b) (dx := dx) (C := (f 47)) s3 (.tail _ (.tail _ (.head _))) T.cl_Book T.n_Book_kept (Nat.le_of_ble_eq_true rfl) (xe_var rfl) fun H4 s4 g4 => ?_
  dsimp only at s4 ⊢
  have nd3 := s3.f.nd
  have kt : k ≠ t ∧ k ≠ b := by simp at nd3; exact ⟨nd3.1.1, nd3.1.2⟩
  rw [put_cons kt.2, put_cons tb, put_one] at s4
  have dt4 := dt.ext g4
  rw [put_cons kt.2, put_cons tb, put_one] at dt4
  refine via_sfld ?_
  refine ⟨(by decide : 0 ≤ sizeLine), fun g ng => ?_⟩
  have s5 := s4.to (s4.f.cons (o := .lst []) ng) (gr_cons ng)
  have dt5 := dt4.ext (gr_cons (W := W) (o := .lst []) ng)
  refine fs_sfld (x := b) (dx := dx) (C := (f 47)) s5 (.tail _ (.tail _ (.tail _ (.head _)))) T.cl_Book T.n_Book_groups (Nat.le_of_ble_eq_true rfl) (xe_var rfl) fun H6 s6 g6 => ?_
  have nd5 := s5.f.nd
  have gb : g ≠ b := by simp at nd5; exact nd5.1.2.2
  have dt6 := dt5.ext g6
  rw [put_cons gb, put_cons kt.2, put_cons tb, put_one] at s6 dt6
  exact q H6 t k g kv s6.f dt6

theorem via_cb1 {r1 : List V → Hp → VK → Prop} {te : TE} {σ : L2.St} {H : Hp} {Q : VK} (h : te σ H fun x H1 => r1 [x] H1 Q) : tCB r1 (tCons te tNil) σ H Q := h
theorem inF_str (a : Str) : ∀ l : List Str, inF (.str a) (l.map PyData.str) = l.any fun b => decide (b = a)
  | [] => rfl
  | b :: r => by
    have ih := inF_str a r
    unfold inF at ih ⊢
    rw [List.map_cons, List.map_cons]
    unfold inV at ih ⊢
    rw [List.any_cons, List.any_cons, ih]
    congr 1
theorem eqF_str (a b : Str) : eqF (.str a) (.str b) = decide (a = b) := by
  show decide (V.str a = V.str b) = _
  by_cases h : a = b
  · subst h
    exact (decide_eq_true rfl).trans (decide_eq_true rfl).symm
  · rw [decide_eq_false h, decide_eq_false fun e => h (V.str.inj e)]
theorem key_words {w : Str} {p : PyData} (h : isKeyD (.tuple [.str w, p]) = true) : (w = "kind" ∧ isSignD p = true) ∨ (w = "active" ∧ isSignD p = true) ∨ (w = "name" ∧ isNameD p = true) ∨ (w = "box" ∧ isBoxD p = true) ∨ (w = "row" ∧ isBoxD p = true) := by
  have h : (if inF (.str w) ([("kind" : Str), "active"].map PyData.str) = true then isSignD p else if eqF (.str w) (.str "name") = true then isNameD p else inF (.str w) ([("box" : Str), "row"].map PyData.str) && isBoxD p) = true := h
  rw [inF_str, inF_str, eqF_str] at h
  by_cases h1 : ("kind" : Str) = w
  · subst h1; exact .inl ⟨rfl, h⟩
  by_cases h2 : ("active" : Str) = w
  · subst h2; exact .inr (.inl ⟨rfl, h⟩)
  have z : ([("kind" : Str), "active"].any fun b => decide (b = w)) = false := by simp [h1, h2]
  rw [z, if_neg (by decide)] at h
  by_cases h3 : w = ("name" : Str)
  · rw [decide_eq_true h3, if_pos rfl] at h
    exact .inr (.inr (.inl ⟨h3, h⟩))
  rw [decide_eq_false h3, if_neg (by decide), Bool.and_eq_true] at h
  obtain ⟨ha, hb⟩ := h
  obtain ⟨b, hm, e⟩ := List.any_eq_true.mp ha
  have e : b = w := of_decide_eq_true e
  subst e
  rcases List.mem_cons.mp hm with rfl | hm
  · exact .inr (.inr (.inr (.inl ⟨rfl, hb⟩)))
  rcases List.mem_cons.mp hm with rfl | hm
  · exact .inr (.inr (.inr (.inr ⟨rfl, hb⟩)))
  · cases hm
theorem sign_str {p : Key} (h : isSignD (keyD p) = true) : ∃ c, p = .inr c := by
  cases p with
  | inl i => simp [keyD, isSignD] at h
  | inr c => exact ⟨c, rfl⟩
def pS : Key → Str
  | .inr c => c
  | .inl _ => ""
def bareD (w : Str) : PyData := if w = "box" then .int 0 else if w = "row" then .tuple [] else .none
def worthAt (s : Bk) (w : Str) (p : Key) : PyData := if w = "kind" then .str (look s.tab "other" (pS p)) else (getT s.kp [.inr w, p]).getD (bareD w)
abbrev GBk := Bk × Str × Key × Vis
def preAt (K : PySem.W.Frag) (C : Addr) (g : GBk) (W : Wd) (as : List A) : Prop := as = [.o (bkV K C g.1 g.2.2.2), .t (kD2 g.2.1 g.2.2.1)] ∧ isKeyD (kD2 g.2.1 g.2.2.1) = true
def postAt (g : GBk) (a : A) : Prop := a = .d (worthAt g.1 g.2.1 g.2.2.1)
/-- its kinds, as a new dict -/
def spKinds (K : PySem.W.Frag) (C : Addr) : Sp := fun us H Q _ => ∃ (W : Wd) (s : Bk) (G : Vis), W.J H ∧ IsAll K W.M H us [.o (bkV K C s G)] ∧ ∀ D H', FX W H H' [(D, .dK (KV2 s.tab))] → Q (.ref D) H'
/-- a worth: a row as a new list -/
def spWorth (K : PySem.W.Frag) (C : Addr) : Sp := fun us H Q _ => ∃ (W : Wd) (s : Bk) (G : Vis) (w : Str) (p : Key), W.J H ∧ IsAll K W.M H us [.o (bkV K C s G), .t (kD2 w p)] ∧ isKeyD (kD2 w p) = true ∧ strS 100000 (keyD p) ∧ w.length ≤ 100000 ∧
  (w ≠ "row" → ∀ v H', Fr W H H' → Is K W.M H' v (.d (worthAt s w p)) → Q v H') ∧
  (w = "row" → ∃ ds, worthAt s w p = .tuple ds ∧ ∀ q H' vs, FX W H H' [(q, .lst vs)] → DtAll K (hid (W.fix [(q, .lst vs)]).M H') vs ds → Q (.ref q) H')
theorem ok_Book_kept_at (T : Top w K mg f fd) : FnOk P w K mg base CX0 2 (f 27) (fd 27) ["self", "key"] (spG K (preAt K (f 47)) (postAt)) := by
  refine okDg T.F_Book_kept_at sc_Book_kept_at (fun g W as p => ?_) (fun cdv Ar outer s H E hr => ⟨_, (pss_cons (ps_asg (pv 1) (pg_tup rfl (pgs_cons (pg_name (i := 2) sc_Book_kept_at.nd rfl (Or.inl rfl)) (pgs_cons (pg_name (i := 3) sc_Book_kept_at.nd rfl (Or.inl rfl)) pgs_nil))))
      (pss_cons (ps_if (pt_cmpR op_eq (pv 2) pe_str (nomark _)) (pss_one (ps_ret (pe_call (ok_kind_in T) (hr.mono (by omega)) (by rfl) T.g_kind_in T.F_kind_in.kp (b_kind_in T) .nil pass0 (pa_cons (pe_fld (pv 0) rfl) (pa_cons (pv 3) pa_nil))))) pss_nil)
      (pss_one (ps_ret (pe_dget2 (hu_of hr) (pe_fld (pv 0) rfl) (pv 1) (pe_ix ix_kdict (pe_const (by rfl) T.g_BARE_WORTHS) (pv 2) (fun _ _ => rfl)) ⟨rfl, rfl, rfl, rfl⟩))))), fun g W as p => ?_⟩)
  · rcases p with ⟨rfl, _⟩; rfl
  obtain ⟨s, wd, q, G⟩ := g
  obtain ⟨rfl, hk⟩ := p
  dsimp only at hk ⊢
  let S : Env := [some (.o (bkV K (f 47) s G)), some (.t (kD2 wd q)), some (.d (.str wd)), some (.d (keyD q))]
  refine xs_seq (N1 := fun Δ => Δ = S) (xs_asg (xe_td (xe_var rfl)) gx_tup2 rfl) ?_
  rintro Δ' rfl
  refine xs_seq (N1 := fun Δ => wd ≠ "kind" ∧ Δ = S) (xs_if (xt_test (xe_op (xe_var rfl) xe_str (ox_eq rfl rfl rfl))) (fun z => ?_) fun z => xs_next ⟨?_, rfl⟩) ?_
  · rw [eqF_str] at z
    have z : wd = "kind" := of_decide_eq_true z
    subst z
    obtain ⟨c, rfl⟩ : ∃ c, q = .inr c := by
      rcases key_words hk with ⟨_, h⟩ | ⟨h, _⟩ | ⟨h, _⟩ | ⟨h, _⟩ | ⟨h, _⟩
      · exact sign_str h
      all_goals exact absurd h (by decide)
    exact xs_ret (xe_callg (pre := pre_kind_in) (post := post_kind_in) (s.tab, c) (xa_cons (xe_bkTab T.cl_Book T.n_Book_table (xe_var rfl)) (xa_cons (xe_var rfl) xa_nil)) ⟨rfl, trivial⟩) fun a e => e
  · rw [eqF_str] at z
    exact of_decide_eq_false z
  rintro Δ' ⟨nk, rfl⟩
  refine xs_ret (xe_keptGet (d := bareD wd) (xe_bkKept T.cl_Book T.n_Book_kept (xe_var rfl)) (xe_var rfl) ?_) fun a e => ?_
  · rcases key_words hk with ⟨h, _⟩ | ⟨h, _⟩ | ⟨h, _⟩ | ⟨h, _⟩ | ⟨h, _⟩
    · exact absurd h nk
    all_goals subst h
    · exact xe_op xe_c (xe_var rfl) (ox_kmix T.k_BARE_WORTHS (i := 1) rfl fun H => .non)
    · exact xe_op xe_c (xe_var rfl) (ox_kmix T.k_BARE_WORTHS (i := 0) rfl fun H => .non)
    · exact xe_op xe_c (xe_var rfl) (ox_kmix T.k_BARE_WORTHS (i := 2) rfl fun H => .int 0)
    · exact xe_op xe_c (xe_var rfl) (ox_kmix T.k_BARE_WORTHS (i := 3) rfl fun H => .tup (T.k_BARE_WORTHS_3 H) .nil)
  · subst e
    show A.d _ = A.d (if wd = "kind" then _ else _)
    rw [if_neg nk]
theorem ok_Book_kinds (T : Top w K mg f fd) : FnOk P w K mg base CX0 1 (f 25) (fd 25) ["self"] (spKinds K (f 47)) := by
  refine T.F_Book_kinds.ok sc_Book_kinds (fun vs H Q E h => ?_) (fun cdv Ar outer s H vs Q E hr h => ?_)
  · obtain ⟨_, _, _, _, i, _⟩ := h; exact i.length
  refine ⟨_, (pss_one (ps_ret (pe_callTy call_dictD (by rfl) T.z_dict (by decide +kernel) (pa_cons (pe_fld (pv 0) rfl) pa_nil)))), ?_⟩
  obtain ⟨W, s, G, j, i, q⟩ := h
  have st : StOk K W.M H (L2.start ["self"] vs) (startE ["self"] [.o (bkV K (f 47) s G)]) := stOk_start i
  refine via_ret (via_cb1 (xe_bkTab T.cl_Book T.n_Book_table (xe_var rfl) _ H j st _ fun v H1 a f1 e i1 => ?_))
  subst e
  cases i1 with
  | dct ha hk =>
    obtain rfl := dtkv_is hk
    exact ⟨_, _, rfl, .inl (hid_some ha).2, fun D nD => q D _ (FX.pre f1 ((FX.nil f1.j).cons nD))⟩
theorem ok_Book_depth (T : Top w K mg f fd) : FnOk P w K mg base CX0 1 (f 26) (fd 26) ["self"] (spG K ((fun (g : Bk × List PyData) (_ : Wd) (as : List A) => as = [.o (bkV K (f 47) g.1 (visD K (.list g.2)))])) ((fun g a => a = .d (.int (g.2.length : Int))))) := by
  refine okDg T.F_Book_depth sc_Book_depth (fun g W as p => ?_) (fun cdv Ar outer s H E hr => ⟨_, (pss_one (ps_ret (pe_callB c_len (by rfl) T.z_len (by decide +kernel) (pa_cons (pe_fld (pv 0) rfl) pa_nil)))), fun g W as p => ?_⟩)
  · rcases p with rfl; rfl
  obtain ⟨s, gs⟩ := g
  obtain rfl := p
  exact xs_ret (xe_cb (xa_cons (xe_od (xe_bkGr T.cl_Book T.n_Book_groups (xe_var rfl))) xa_nil) cx_lenL) fun a e => e

theorem strT_kD {w : Str} {p : Key} (hq : strS 100000 (keyD p)) (hw : w.length ≤ 100000) : strT 100000 (kD2 w p) := fun xs e s hs => by
  cases e
  rcases List.mem_cons.mp hs with h | h
  · cases h; exact hw
  · rcases List.mem_cons.mp h with h | h
    · exact hq s h.symm
    · cases h
section
variable {K : PySem.W.Frag} {W : Wd} {H0 H H' : Hp} {S : Frg} {σ : L2.St} {Δ : Env} {Q : VK} {tt : TT} {ta tb : TE}
theorem fs_ifE {B : Bool → Prop} (s : FS K W H0 H σ Δ S) (ht : XT K (W.fix S) tt Δ B) (h1 : ∀ H', B true → FS K W H0 H' σ Δ S → Gr W H S H' S → ta σ H' Q) (h2 : ∀ H', B false → FS K W H0 H' σ Δ S → Gr W H S H' S → tb σ H' Q) : tIf tt ta tb σ H Q :=
  ht σ H s.f.j s.st _ fun b H1 f hb => by
    cases b with
    | true => exact iteT (h1 H1 hb (s.go f) f.same)
    | false => exact iteF (h2 H1 hb (s.go f) f.same)
end
theorem ok_Book_worth (T : Top w K mg f fd) : FnOk P w K mg base CX0 6 (f 23) (fd 23) ["self", "key"] (spWorth K (f 47)) := by
  refine T.F_Book_worth.ok sc_Book_worth (fun vs H Q E h => ?_) (fun cdv Ar outer s H vs Q E hr h => ?_)
  · obtain ⟨_, _, _, _, _, _, i, _⟩ := h; exact i.length
  refine ⟨_, (pss_cons (ps_if (pt_not (pt_val (pe_call (ok_is_key T) (hr.mono (by omega)) (by rfl) T.g_is_key T.F_is_key.kp (b_is_key T) .nil pass0 (pa_cons (pv 1) pa_nil)))) (pss_one ps_never) pss_nil)
      (pss_cons (ps_set (i := 2) sc_Book_worth.nd rfl (Or.inl rfl) (pe_meth (pv 0) T.cl_Book T.m_Book_kept_at (ok_Book_kept_at T) (hr.mono (by omega)) (b_Book_kept_at T) .nil pass0 (pa_cons (pv 1) pa_nil)))
      (pss_one (ps_ret (pe_ifExp (pt_cmpR op_eq (pe_ix ix_tup (pv 1) pe_int (fun _ _ => rfl)) pe_str (nomark _)) (pe_callTy c_lst (by rfl) T.z_list (by decide +kernel) (pa_cons (pv 2) pa_nil)) (pv 2)))))), ?_⟩
  obtain ⟨W, s, G, wd, q, j, i, hk, hq, lw, q1, q2⟩ := h
  have st : StOk K W.M H (L2.start ["self", "key", "worth"] vs) (startE ["self", "key", "worth"] [.o (bkV K (f 47) s G), .t (kD2 wd q)]) := stOk_start i
  have s0 := FS.nil (K := K) j st
  refine seq_in (fs_if s0 (xt_not (xt_B (XE.mono (xe_call (pre := pre_is_key K) (post := post_is_key) (E := E0) (xa_cons (xe_td (xe_var rfl)) xa_nil) ⟨_, rfl, strT_kD hq lw⟩) fun a e => e))) (fun H1 b s1 _ => ?_) fun H1 b s1 g1 => ?_)
  · rw [hk] at b
    cases b
  dsimp only [tNext]
  refine seq_in (fs_asg s1 (xe_bkMeth (pre := preAt K (f 47)) (post := postAt) (s, wd, q, G) (xe_var rfl) (fun _ _ _ => rfl) (xa_cons (xe_var rfl) xa_nil) ⟨rfl, hk⟩) fun v2 H2 a e s2 g2 => ?_)
  have e : a = .d (worthAt s wd q) := e
  subst e
  refine via_ret (fs_ifE s2 (XT.is (xt_test (xe_op (xe_op (xe_td (xe_var rfl)) xe_int (ox_ixT (by decide) rfl)) xe_str (ox_eq rfl rfl rfl))) (eqF_str wd "row")) (fun H3 b s3 g3 => ?_) fun H3 b s3 g3 => ?_)
  · have b : wd = "row" := of_decide_eq_true b.symm
    obtain ⟨ds, ed, q2⟩ := q2 b
    rw [ed] at s3
    refine fs_xn s3 (xn_lstT (xe_var rfl)) fun p' H' vs' ds' e s4 g4 dt => ?_
    have e : ds' = ds := e
    subst e
    exact q2 p' H' vs' s4.f dt
  · have b : wd ≠ "row" := of_decide_eq_false b.symm
    refine s3.in (xe_var rfl) fun v H' a e s4 g4 i4 => ?_
    subst e
    exact q1 b v H' s4.f.fr (Is.ext same_out i4)

def dropS (kvs : List (Str × Str)) (k : Str) : List (Str × Str) := kvs.filter fun p => decide (p.1 ≠ k)
theorem dropK_KV2 (k : Str) : ∀ kvs : List (Str × Str), dropK (KV2 kvs) (Sum.inr k) = KV2 (dropS kvs k)
  | [] => rfl
  | p :: r => by
    have ih := dropK_KV2 k r
    unfold dropK dropS KV2 at ih ⊢
    rw [List.map_cons, List.filter_cons, List.filter_cons]
    by_cases h : p.1 = k
    · rw [if_neg (by simp [h]), if_neg (by simp [h])]
      exact ih
    · rw [if_pos (by simp [h]), if_pos (by simp [h]), List.map_cons, ih]
theorem dropK_none {κ : Type} [DecidableEq κ] {kvs : List (κ × V)} {k : κ} (h : valV kvs k = none) : dropK kvs k = kvs := by
  unfold dropK
  refine List.filter_eq_self.mpr fun p hp => decide_eq_true fun e => ?_
  have q : (kvs.any fun kv => decide (kv.1 = k)) = true := List.any_eq_true.mpr ⟨p, hp, decide_eq_true e⟩
  rw [valV_any, h] at q
  cases q
theorem look_drop (kvs : List (Str × Str)) (z k j : Str) : look (dropS kvs k) z j = if j = k then z else look kvs z j := by
  unfold look dropS
  induction kvs with
  | nil => split <;> rfl
  | cons p r ih =>
    by_cases e : p.1 = k
    · rw [List.filter_cons_of_neg (by simp [e]), ih]
      by_cases ej : j = k
      · rw [if_pos ej, if_pos ej]
      · rw [if_neg ej, if_neg ej]
        have : ¬ p.1 = j := fun q => ej (q.symm.trans e)
        simp [List.find?_cons, this]
    · rw [List.filter_cons_of_pos (by simp [e])]
      by_cases ej : p.1 = j
      · have ne : ¬ j = k := fun q => e (ej.trans q)
        rw [if_neg ne]
        simp [List.find?_cons, ej]
      · simp only [List.find?_cons, decide_eq_false ej]
        exact ih
def strOf : PyData → Str
  | .str x => x
  | _ => ""
def bkKeep (s : Bk) (w : Str) (p : Key) (d : PyData) : Bk :=
  if w = "kind" then { s with tab := if strOf d = "other" then dropS s.tab (pS p) else putS s.tab (pS p) (strOf d) }
  else { s with kp := if PyData.eqv d (bareD w) = true then dropT s.kp [.inr w, p] else putT s.kp [.inr w, p] d }
structure BkIn (C b dx t k g : Addr) (s : Bk) (kv : List (List Key × V)) (gv : List V) (S : Frg) : Prop where
  b : (b, HO.ins C dx (bkF t k g)) ∈ S
  t : (t, HO.dK (KV2 s.tab)) ∈ S
  k : (k, HO.dT kv) ∈ S
  g : (g, HO.lst gv) ∈ S
def bkPut (S : Frg) (t k : Addr) (s : Bk) (kv : List (List Key × V)) : Frg := (S.put t (.dK (KV2 s.tab))).put k (.dT kv)
def spKeep (K : PySem.W.Frag) (C : Addr) : Sp := fun us H Q _ => ∃ (W : Wd) (H0 : Hp) (S : Frg) (b dx t k g : Addr) (s : Bk) (kv : List (List Key × V)) (gv : List V) (w : Str) (p : Key) (d : PyData),
  IsAll K (W.fix S).M H us [.v (.ref b), .t (kD2 w p), .d d] ∧ FX W H0 H S ∧ BkIn C b dx t k g s kv gv S ∧ DtT K (hid (W.fix S).M H) kv s.kp ∧ (s.tab.length ≤ 100000 ∧ s.kp.length ≤ 100000) ∧ isKeyD (kD2 w p) = true ∧ (w = "kind" → ∃ x, d = .str x) ∧ (d.hasDict = false ∧ SeqAt.shaped d = true) ∧
  ∀ H' kv', FX W H0 H' (bkPut S t k (bkKeep s w p d) kv') → Gr W H S H' (bkPut S t k (bkKeep s w p d) kv') → DtT K (hid (W.fix (bkPut S t k (bkKeep s w p d) kv')).M H') kv' (bkKeep s w p d).kp → Q .non H'
section
variable {K : PySem.W.Frag} {W : Wd} {H0 H H' : Hp} {S : Frg} {σ : L2.St} {Δ : Env} {Q : VK} {D : Ends} {to tk tv : TE} {C x dx t k : Addr} {fs : List (Str × V)} {f c : Str} {v : V}
theorem xe_fldX (h : (x, HO.ins C dx fs) ∈ S) (cl : Cls K C) (n : NoAttr K C f) (l : fs.lookup f = some v) (hv : XV K (W.fix S) to Δ (.v (.ref x))) : XV K (W.fix S) (tFld K to f) Δ (.v v) := fun σ H j st Q q =>
  hv σ H j st _ fun u H1 a f1 e i => by
    subst e
    have e : u = .ref x := i
    subst e
    exact ⟨x, C, dx, fs, v, rfl, f1.j.2 _ h, cl, n, l, q v H1 _ f1 rfl rfl⟩
theorem fs_popK {kvs : List (Key × V)} {Q' : Hp → Prop} (s : FS K W H0 H σ Δ S) (h : (t, HO.dK kvs) ∈ S) (ho : XV K (W.fix S) to Δ (.v (.ref t))) (hk : XV K (W.fix S) tk Δ (.d (.str c)))
    (q : ∀ H', FS K W H0 H' σ Δ (S.put t (.dK (dropK kvs (.inr c)))) → Gr W H S H' (S.put t (.dK (dropK kvs (.inr c)))) → Q' H') : tBM K "dict" rPopK to (tCons tk (tCons (tC .non) tNil)) σ H fun _ H' => Q' H' :=
  s.in ho fun u H1 a e s1 g1 i1 => by
    subst e
    have e : u = .ref t := i1
    subst e
    refine ⟨.inr (.inr (.inl ⟨rfl, .inl ⟨_, s1.f.j.2 _ h⟩⟩)), s1.in hk fun u H2 a e s2 g2 i2 => ?_⟩
    subst e
    cases i2
    refine ⟨t, kvs, .inr c, .non, rfl, rfl, s2.f.j.2 _ h, fun v hv => ?_, fun hv => ?_⟩
    · exact q _ (s2.to (s2.f.put h) (gr_put h)) (gr_trans (gr_trans g1 g2) (gr_put h))
    · have e := put_self s2.f.nd h
      rw [← dropK_none hv] at e
      refine q _ (by rw [dropK_none hv] at e ⊢; rw [e]; exact s2) (by rw [dropK_none hv] at e ⊢; rw [e]; exact gr_trans g1 g2)
theorem fs_popT {kv : List (List Key × V)} {Q' : Hp → Prop} {w : Str} {p : Key} (s : FS K W H0 H σ Δ S) (h : (k, HO.dT kv) ∈ S) (ho : XV K (W.fix S) to Δ (.v (.ref k))) (hk : XV K (W.fix S) tk Δ (.t (kD2 w p)))
    (q : ∀ H', FS K W H0 H' σ Δ (S.put k (.dT (dropK kv [.inr w, p]))) → Gr W H S H' (S.put k (.dT (dropK kv [.inr w, p]))) → Q' H') : tBM K "dict" L2.DX.rPopT to (tCons tk (tCons (tC .non) tNil)) σ H fun _ H' => Q' H' :=
  s.in ho fun u H1 a e s1 g1 i1 => by
    subst e
    have e : u = .ref k := i1
    subst e
    refine ⟨.inr (.inr (.inl ⟨rfl, .inr ⟨_, s1.f.j.2 _ h⟩⟩)), s1.in hk fun u H2 a e s2 g2 i2 => ?_⟩
    subst e
    obtain ⟨kb, rfl, hkb⟩ := tk_key i2
    refine ⟨k, kv, [.inr w, p], kb, .non, rfl, rfl, s2.f.j.2 _ h, (hid_some hkb).2, fun v hv => ?_, fun hv => ?_⟩
    · exact q _ (s2.to (s2.f.put h) (gr_put h)) (gr_trans (gr_trans g1 g2) (gr_put h))
    · have e := put_self s2.f.nd h
      refine q _ (by rw [dropK_none hv, e]; exact s2) (by rw [dropK_none hv, e]; exact gr_trans g1 g2)
theorem fs_dputK {kvs : List (Key × V)} {d : PyData} (s : FS K W H0 H σ Δ S) (h : (t, HO.dK kvs) ∈ S) (l : kvs.length < sizeLine) (hv : XV K (W.fix S) tv Δ (.d d)) (fd : flat d = true) (ho : XV K (W.fix S) to Δ (.v (.ref t))) (hk : XV K (W.fix S) tk Δ (.d (.str c)))
    (q : ∀ H', FS K W H0 H' σ Δ (S.put t (.dK (putK kvs (.inr c) (vOf d)))) → Gr W H S H' (S.put t (.dK (putK kvs (.inr c) (vOf d)))) → D.nx σ H') : sDPut to tk tv D σ H :=
  s.in hv fun u H1 a e s1 g1 i1 => by
    subst e
    have e := Dt.flat i1 fd
    subst e
    refine s1.in ho fun u H2 a e s2 g2 i2 => ?_
    subst e
    have e : u = .ref t := i2
    subst e
    refine s2.in hk fun u H3 a e s3 g3 i3 => ?_
    subst e
    cases i3
    exact ⟨t, _, rfl, DPut.k (k := .inr c) (s3.f.j.2 _ h) l, q _ (s3.to (s3.f.put h) (gr_put h)) (gr_trans (gr_trans (gr_trans g1 g2) g3) (gr_put h))⟩
theorem fs_dputT {kv : List (List Key × V)} {kp : Kept} {d : PyData} {w : Str} {p : Key} (s : FS K W H0 H σ Δ S) (h : (k, HO.dT kv) ∈ S) (l : kv.length < sizeLine) (dt : DtT K (hid (W.fix S).M H) kv kp) (hv : XV K (W.fix S) tv Δ (.d d)) (ho : XV K (W.fix S) to Δ (.v (.ref k))) (hk : XV K (W.fix S) tk Δ (.t (kD2 w p)))
    (q : ∀ H' v, FS K W H0 H' σ Δ (S.put k (.dT (putK kv [.inr w, p] v))) → Gr W H S H' (S.put k (.dT (putK kv [.inr w, p] v))) → DtT K (hid (W.fix (S.put k (.dT (putK kv [.inr w, p] v)))).M H') (putK kv [.inr w, p] v) (putT kp [.inr w, p] d) → D.nx σ H') : sDPut to tk tv D σ H :=
  s.in hv fun u H1 a e s1 g1 i1 => by
    subst e
    refine s1.in ho fun u2 H2 a e s2 g2 i2 => ?_
    subst e
    have e : u2 = .ref k := i2
    subst e
    refine s2.in hk fun u3 H3 a e s3 g3 i3 => ?_
    subst e
    obtain ⟨kb, rfl, hkb⟩ := tk_key i3
    refine ⟨k, _, rfl, DPut.t (k := [.inr w, p]) (s3.f.j.2 _ h) (hid_some hkb).2 l, q _ u (s3.to (s3.f.put h) (gr_put h)) (gr_trans (gr_trans (gr_trans g1 g2) g3) (gr_put h)) ?_⟩
    exact (DtT.put (dt.ext (gr_trans (gr_trans g1 g2) g3)) (Dt.ext (gr_trans g2 g3) _ _ i1)).ext (gr_put h)
end
section
variable {K : PySem.W.Frag} {W : Wd} {H0 H H' : Hp} {S : Frg} {σ : L2.St} {Δ Δ' : Env} {D : Ends} {te : TE} {g : TG} {a : A}
theorem fs_asgG (s : FS K W H0 H σ Δ S) (he : XV K (W.fix S) te Δ a) (hg : GX K (W.fix S) g a Δ Δ') (q : ∀ σ' H', FS K W H0 H' σ' Δ' S → Gr W H S H' S → D.nx σ' H') : tAsg te g D σ H :=
  s.in he fun v H1 a' e s1 g1 i1 => by
    subst e
    exact hg v σ H1 s1.f.j s1.st i1 _ fun σ' H' f st' => q σ' H' ⟨s1.f.go f, st'⟩ (gr_trans g1 f.same)
end
theorem bare_nd (w : Str) : (bareD w).hasDict = false ∧ SeqAt.shaped (bareD w) = true := by
  unfold bareD
  split
  · exact ⟨by decide, by decide⟩
  · split
    · exact ⟨by simp [PyData.hasDict, PyData.hasDictAll], by decide +kernel⟩
    · exact ⟨by decide, by decide⟩
theorem bk_tab {S : Frg} {t k : Addr} {u : HO} {kv : List (List Key × V)} (nd : (S.map (·.1)).Nodup) (hk : (k, HO.dT kv) ∈ S) (n : k ≠ t) : (S.put t u).put k (.dT kv) = S.put t u := put_self (by rw [put_dom]; exact nd) (mem_put hk n)
theorem bk_kep {S : Frg} {t k : Addr} {u : HO} {kvs : List (Key × V)} (nd : (S.map (·.1)).Nodup) (ht : (t, HO.dK kvs) ∈ S) : (S.put t (.dK kvs)).put k u = S.put k u := by rw [put_self nd ht]
theorem ok_Book_keep (T : Top w K mg f fd) : FnOk P w K mg base CX0 1 (f 28) (fd 28) ["self", "key", "worth"] (spKeep K (f 47)) := by
  refine T.F_Book_keep.ok sc_Book_keep (fun vs H Q E h => ?_) (fun cdv Ar outer s H vs Q E hr h => ?_)
  · obtain ⟨_, _, _, _, _, _, _, _, _, _, _, _, _, _, i, _⟩ := h; exact i.length
  refine ⟨_, (pss_cons (ps_asg (pv 1) (pg_tup rfl (pgs_cons (pg_name (i := 3) sc_Book_keep.nd rfl (Or.inl rfl)) (pgs_cons (pg_name (i := 4) sc_Book_keep.nd rfl (Or.inl rfl)) pgs_nil))))
      (pss_one (ps_if (PW.pt (pw_and (pt_cmpR op_eq (pv 3) pe_str (nomark _)) (pw_and1 (pt_cmpR op_eq (pv 2) pe_str (nomark _))))) (pss_one (ps_expr (pe_bm PySem.F.plainAttrs_dict PySem.F.slot_dict_pop PySem.F.type_dict_pop mt_popK (pe_fld (pv 0) rfl) (pa_cons (pv 4) (pa_cons pe_non pa_nil))))) (pss_one (ps_if (pt_cmpR op_eq (pv 3) pe_str (nomark _)) (pss_one (ps_dput (hu_of hr) (pe_fld (pv 0) rfl) (pv 4) (pv 2) rfl)) (pss_one (ps_if (pt_cmpR (op_eqD hr.units) (pv 2) (pe_ix ix_kdict (pe_const (by rfl) T.g_BARE_WORTHS) (pv 3) (fun _ _ => rfl)) (nomark _)) (pss_one (ps_expr (pe_bm PySem.F.plainAttrs_dict PySem.F.slot_dict_pop PySem.F.type_dict_pop (L2.DX.mt_popT (hu_of hr)) (pe_fld (pv 0) rfl) (pa_cons (pv 1) (pa_cons pe_non pa_nil))))) (pss_one (ps_dput (hu_of hr) (pe_fld (pv 0) rfl) (pv 1) (pv 2) rfl))))))))), ?_⟩
  obtain ⟨W, H0, S, b, dx, t, k, g, s, kv, gv, wd, p, d, i, fx, bi, dt, ⟨l1, l2⟩, hk, hs, ⟨nd, sh⟩, q⟩ := h
  have s0 : FS K W H0 H (L2.start ["self", "key", "worth", "word", "part"] vs) (startE ["self", "key", "worth", "word", "part"] [.v (.ref b), .t (kD2 wd p), .d d]) S := ⟨fx, stOk_start i⟩
  let Sd : Env := [some (.v (.ref b)), some (.t (kD2 wd p)), some (.d d), some (.d (.str wd)), some (.d (keyD p))]
  refine seq_in (fs_asgG (Δ' := Sd) s0 (xe_td (xe_var rfl)) gx_tup2 fun σ1 H1 s1 g1 => ?_)
  dsimp only
  have fb : ∀ {fl v}, (bkF t k g).lookup fl = some v → NoAttr K (f 47) fl → XV K (W.fix S) (tFld K (tVar 0) fl) Sd (.v v) := fun l n => xe_fldX bi.b T.cl_Book n l (xe_var rfl)
  have kt : k ≠ t := FS.ne fx bi.k bi.t (by intro z; cases z)
  have vw : XV K (W.fix S) (tVar 3) Sd (.d (.str wd)) := xe_var rfl
  have vd : XV K (W.fix S) (tVar 2) Sd (.d d) := xe_var rfl
  by_cases hw : wd = "kind"
  · subst hw
    obtain ⟨x, rfl⟩ := hs rfl
    obtain ⟨c, rfl⟩ : ∃ c, p = .inr c := by
      rcases key_words hk with ⟨_, h⟩ | ⟨h, _⟩ | ⟨h, _⟩ | ⟨h, _⟩ | ⟨h, _⟩
      · exact sign_str h
      all_goals exact absurd h (by decide)
    have ek : (bkKeep s "kind" (.inr c) (.str x)) = { s with tab := if x = "other" then dropS s.tab c else putS s.tab c x } := if_pos rfl
    rw [ek] at q
    refine fs_if s1 (XT.is (xt_and (xt_test (xe_op vw xe_str (ox_eq rfl rfl rfl))) fun _ => xt_test (xe_op vd xe_str (ox_eq rfl rfl rfl))) (b := decide (x = "other")) (by rw [eqF_str, eqF_str]; rfl)) (fun H2 c2 s2 g2 => ?_) fun H2 c2 s2 g2 => ?_
    · have hx : x = "other" := of_decide_eq_true c2.symm
      rw [if_pos hx] at q
      refine via_drop (fs_popK s2 bi.t (fb rfl T.n_Book_table) (xe_var rfl) fun H3 s3 g3 => ?_)
      rw [dropK_KV2] at s3 g3
      have e : bkPut S t k { s with tab := dropS s.tab c } kv = S.put t (.dK (KV2 (dropS s.tab c))) := bk_tab fx.nd bi.k kt
      exact q H3 kv (by rw [e]; exact s3.f) (by rw [e]; exact gr_trans (gr_trans g1 g2) g3) (by rw [e]; exact dt.ext (gr_trans (gr_trans g1 g2) g3))
    · have hx : x ≠ "other" := of_decide_eq_false c2.symm
      rw [if_neg hx] at q
      refine fs_if s2 (XT.is (xt_test (xe_op vw xe_str (ox_eq rfl rfl rfl))) (b := true) (by rw [eqF_str]; rfl)) (fun H3 _ s3 g3 => ?_) fun H3 c3 _ _ => nomatch c3
      refine fs_dputK s3 bi.t (by unfold KV2; rw [List.length_map]; exact Nat.lt_of_le_of_lt l1 (by decide)) vd rfl (fb rfl T.n_Book_table) (xe_var rfl) fun H4 s4 g4 => ?_
      rw [show vOf (.str x) = V.str x from rfl, putK_KV2] at s4 g4
      have G := gr_trans (gr_trans (gr_trans g1 g2) g3) g4
      have e : bkPut S t k { s with tab := putS s.tab c x } kv = S.put t (.dK (KV2 (putS s.tab c x))) := bk_tab fx.nd bi.k kt
      exact q H4 kv (by rw [e]; exact s4.f) (by rw [e]; exact G) (by rw [e]; exact dt.ext G)
  have ek : bkKeep s wd p d = { s with kp := if PyData.eqv d (bareD wd) = true then dropT s.kp [.inr wd, p] else putT s.kp [.inr wd, p] d } := if_neg hw
  rw [ek] at q
  have hw' : eqF (.str wd) (.str "kind") = false := by rw [eqF_str]; exact decide_eq_false hw
  refine fs_if s1 (XT.is (xt_and (b := true) (xt_test (xe_op vw xe_str (ox_eq rfl rfl rfl))) fun z => by rw [hw'] at z; cases z) (b := false) (by rw [hw']; rfl)) (fun H2 c2 _ _ => nomatch c2) fun H2 _ s2 g2 => ?_
  refine fs_if s2 (XT.is (xt_test (xe_op vw xe_str (ox_eq rfl rfl rfl))) (b := false) hw') (fun H3 c3 _ _ => nomatch c3) fun H3 _ s3 g3 => ?_
  refine fs_if s3 (xt_test (xe_op vd (b := .d (bareD wd)) ?_ (ox_eqD nd (bare_nd wd).1 sh (bare_nd wd).2))) (fun H4 c4 s4 g4 => ?_) fun H4 c4 s4 g4 => ?_
  · rcases key_words hk with ⟨h, _⟩ | ⟨h, _⟩ | ⟨h, _⟩ | ⟨h, _⟩ | ⟨h, _⟩
    · exact absurd h hw
    all_goals subst h
    · exact xe_op xe_c vw (ox_kmix T.k_BARE_WORTHS (i := 1) rfl fun H => .non)
    · exact xe_op xe_c vw (ox_kmix T.k_BARE_WORTHS (i := 0) rfl fun H => .non)
    · exact xe_op xe_c vw (ox_kmix T.k_BARE_WORTHS (i := 2) rfl fun H => .int 0)
    · exact xe_op xe_c vw (ox_kmix T.k_BARE_WORTHS (i := 3) rfl fun H => .tup (T.k_BARE_WORTHS_3 H) .nil)
  all_goals have G4 := gr_trans (gr_trans (gr_trans g1 g2) g3) g4
  · rw [if_pos c4.symm] at q
    refine via_drop (fs_popT s4 bi.k (fb rfl T.n_Book_kept) (xe_var rfl) fun H5 s5 g5 => ?_)
    have e : ∀ kp kv', bkPut S t k { s with kp := kp } kv' = S.put k (.dT kv') := fun _ _ => bk_kep fx.nd bi.t
    exact q H5 _ (by rw [e]; exact s5.f) (by rw [e]; exact gr_trans G4 g5) (by rw [e]; exact (DtT.drop dt).ext (gr_trans G4 g5))
  · rw [if_neg (by rw [← c4]; decide)] at q
    refine fs_dputT s4 bi.k (by rw [dt.len]; exact Nat.lt_of_le_of_lt l2 (by decide)) (dt.ext G4) vd (fb rfl T.n_Book_kept) (xe_var rfl) fun H5 v5 s5 g5 d5 => ?_
    have e : ∀ kp kv', bkPut S t k { s with kp := kp } kv' = S.put k (.dT kv') := fun _ _ => bk_kep fx.nd bi.t
    exact q H5 _ (by rw [e]; exact s5.f) (by rw [e]; exact gr_trans G4 g5) (by rw [e]; exact d5)

def keptD (w : Str) (d : PyData) : PyData := if w = "row" then (match d with | .list ds => .tuple ds | d => d) else d
def shp (d : PyData) : Prop := d.hasDict = false ∧ SeqAt.shaped d = true
/-- a worth handed in: as data, or a list of one's own whose items are known -/
def WArg (S : Frg) (d : PyData) (a : A) : Prop := a = .d d ∨ ∃ p vs ds, a = .w (.ref p) vs ds ∧ d = .list ds ∧ (p, HO.lst vs) ∈ S
def spPut (K : PySem.W.Frag) (C : Addr) : Sp := fun us H Q _ => ∃ (W : Wd) (H0 : Hp) (S : Frg) (b dx t k g : Addr) (s : Bk) (kv : List (List Key × V)) (w : Str) (p : Key) (d : PyData) (a : A),
  IsAll K (W.fix S).M H us [.v (.ref b), .t (kD2 w p), a, .d (.bool false)] ∧ WArg S d a ∧ FX W H0 H S ∧ BkIn C b dx t k g s kv [] S ∧ DtT K (hid (W.fix S).M H) kv s.kp ∧ (s.tab.length ≤ 100000 ∧ s.kp.length ≤ 100000) ∧ isKeyD (kD2 w p) = true ∧ (strS 100000 (keyD p) ∧ w.length ≤ 100000) ∧ (isWorthD w d = true ∧ MOk d ∧ LOk d) ∧ shp (keptD w d) ∧
  ∀ H' kv', FX W H0 H' (bkPut S t k (bkKeep s w p (keptD w d)) kv') → Gr W H S H' (bkPut S t k (bkKeep s w p (keptD w d)) kv') → DtT K (hid (W.fix (bkPut S t k (bkKeep s w p (keptD w d)) kv')).M H') kv' (bkKeep s w p (keptD w d)).kp → Q .non H'
section
variable {K : PySem.W.Frag} {W : Wd} {H0 H H' : Hp} {S : Frg} {σ : L2.St} {Δ : Env} {Q : VK} {E : XK} {to : TE} {ta : TA} {C b dx t k g : Addr} {s : Bk} {kv : List (List Key × V)} {gv : List V} {w : Str} {p : Key} {d : PyData} {m : Str}
theorem keep_in (z : FS K W H0 H σ Δ S) (bi : BkIn C b dx t k g s kv gv S) (hm : (bkF t k g).lookup m = none) (dt : DtT K (hid (W.fix S).M H) kv s.kp) (l : s.tab.length ≤ 100000 ∧ s.kp.length ≤ 100000) (hk : isKeyD (kD2 w p) = true) (hs : w = "kind" → ∃ x, d = .str x) (sh : shp d)
    (ho : XV K (W.fix S) to Δ (.v (.ref b))) (ha : XAs K (W.fix S) ta Δ [.t (kD2 w p), .d d])
    (q : ∀ H' kv', FS K W H0 H' σ Δ (bkPut S t k (bkKeep s w p d) kv') → Gr W H S H' (bkPut S t k (bkKeep s w p d) kv') → DtT K (hid (W.fix (bkPut S t k (bkKeep s w p d) kv')).M H') kv' (bkKeep s w p d).kp → Q .non H') : tMeth C m (spKeep K C) [] E to ta σ H Q :=
  z.in ho fun v H1 a e s1 g1 i1 => by
    subst e
    have e : v = .ref b := i1
    subst e
    refine ⟨b, dx, _, rfl, s1.f.j.2 _ bi.b, hm, ha σ H1 s1.f.j s1.st _ fun vs H2 as f2 e i2 => ?_⟩
    subst e
    rw [List.append_nil]
    have s2 := s1.go f2
    exact ⟨W, H0, S, b, dx, t, k, g, s, kv, gv, w, p, d, .cons rfl i2, s2.f, bi, dt.ext (gr_trans g1 f2.same), l, hk, hs, sh, fun H' kv' fx gr dt' => q H' kv' (s2.to fx gr) (gr_trans (gr_trans g1 f2.same) gr) dt'⟩
/-- book.put(key, worth) -/
theorem put_in {a : A} (z : FS K W H0 H σ Δ S) (bi : BkIn C b dx t k g s kv [] S) (hm : (bkF t k g).lookup m = none) (dt : DtT K (hid (W.fix S).M H) kv s.kp) (l : s.tab.length ≤ 100000 ∧ s.kp.length ≤ 100000) (hk : isKeyD (kD2 w p) = true) (lk : strS 100000 (keyD p) ∧ w.length ≤ 100000) (hw : isWorthD w d = true ∧ MOk d ∧ LOk d) (sh : shp (keptD w d)) (wa : WArg S d a)
    (ho : XV K (W.fix S) to Δ (.v (.ref b))) (ha : XAs K (W.fix S) ta Δ [.t (kD2 w p), a])
    (q : ∀ H' kv', FS K W H0 H' σ Δ (bkPut S t k (bkKeep s w p (keptD w d)) kv') → Gr W H S H' (bkPut S t k (bkKeep s w p (keptD w d)) kv') → DtT K (hid (W.fix (bkPut S t k (bkKeep s w p (keptD w d)) kv')).M H') kv' (bkKeep s w p (keptD w d)).kp → Q .non H') : tMeth C m (spPut K C) [.bl false] E to ta σ H Q :=
  z.in ho fun v H1 a1 e s1 g1 i1 => by
    subst e
    have e : v = .ref b := i1
    subst e
    refine ⟨b, dx, _, rfl, s1.f.j.2 _ bi.b, hm, ha σ H1 s1.f.j s1.st _ fun vs H2 as f2 e i2 => ?_⟩
    subst e
    have s2 := s1.go f2
    refine ⟨W, H0, S, b, dx, t, k, g, s, kv, w, p, d, a, .cons rfl ?_, wa, s2.f, bi, dt.ext (gr_trans g1 f2.same), l, hk, lk, hw, sh, fun H' kv' fx gr dt' => q H' kv' (s2.to fx gr) (gr_trans (gr_trans g1 f2.same) gr) dt'⟩
    cases i2 with
    | cons h1 i2 =>
      cases i2 with
      | cons h2 i2 =>
        cases i2
        exact .cons h1 (.cons h2 (.cons (.bl _) .nil))
end
theorem xt_truO {K : PySem.W.Frag} {W : Wd} {S : Frg} {Δ : Env} {te : TE} {g : Addr} {gv : List V} (h : (g, HO.lst gv) ∈ S) (hv : XV K (W.fix S) te Δ (.v (.ref g))) : XB K (W.fix S) (tTruS K te) Δ (!gv.isEmpty) := fun σ H j st Q q =>
  hv σ H j st _ fun u H1 a f1 e i => by
    subst e
    have e : u = .ref g := i
    subst e
    exact ⟨_, .inl ⟨gv, .inl (.inl (f1.j.2 _ h)), rfl⟩, q _ H1 f1 rfl⟩
theorem kind_str {w : Str} {d : PyData} (h : isWorthD w d = true) (e : w = "kind") : ∃ x, keptD w d = .str x := by
  subst e
  have h : isKindD d = true := h
  cases d <;> first | exact ⟨_, rfl⟩ | (simp [isKindD] at h)
theorem row_list {w : Str} {d : PyData} (h : isWorthD w d = true) (e : w = "row") : ∃ ds, d = .list ds := by
  subst e
  have h : (isRowD d && rowBare d) = true := h
  rw [Bool.and_eq_true] at h
  obtain ⟨h, _⟩ := h
  cases d <;> first | exact ⟨_, rfl⟩ | (simp [isRowD] at h)
theorem row_of {w : Str} {ds : List PyData} (h : isWorthD w (.list ds) = true) : w = "row" := by
  unfold isWorthD at h
  rw [eqF_str, eqF_str, eqF_str] at h
  by_cases h1 : w = "kind"
  · rw [decide_eq_true h1, if_pos rfl] at h; simp [isKindD] at h
  by_cases h2 : w = "box"
  · rw [decide_eq_false h1, decide_eq_true h2, if_neg (by decide), if_pos rfl] at h; simp [isNumD, isWholeD] at h
  by_cases h3 : w = "row"
  · exact h3
  · rw [decide_eq_false h1, decide_eq_false h2, decide_eq_false h3, if_neg (by decide), if_neg (by decide), if_neg (by decide)] at h
    simp [isNo, isMeaningD] at h
theorem xe_tupX {K : PySem.W.Frag} {W : Wd} {S : Frg} {Δ : Env} {p : Addr} {vs : List V} {ds : List PyData} {k : Nat} (h : (p, HO.lst vs) ∈ S) (hk : Δ[k]? = some (some (.w (.ref p) vs ds))) : XV K (W.fix S) (tCB (rTupOf K) (tCons (tVar k) tNil)) Δ (.d (.tuple ds)) := fun σ H j st Q q => by
  obtain ⟨v0, e0, i0⟩ := st.get k _ hk
  obtain ⟨e, dd⟩ := is_w i0
  subst e
  exact ⟨_, e0, p, _, rfl, .inl ⟨.inl (.inl (j.2 _ h)), fun l nl => q _ _ _ (.new j nl) rfl (Dt.tup (.inl (.inl (hid_new j nl))) (DtAll.ext (Fr.same (.new j nl)) _ _ dd))⟩⟩
/-- a list of one's own, read as data -/
theorem own_seen {K : PySem.W.Frag} {W : Wd} {H0 H : Hp} {S : Frg} {σ : L2.St} {Δ : Env} {p : Addr} {vs : List V} {ds : List PyData} {k : Nat} (s : FS K W H0 H σ Δ S) (h : (p, HO.lst vs) ∈ S) (hk : Δ[k]? = some (some (.w (.ref p) vs ds))) : (∀ q ∈ S.filter fun q => decide (q.1 ≠ p), q ∈ S) ∧ StOk K (W.fix (S.filter fun q => decide (q.1 ≠ p))).M H σ (Δ.set k (some (.d (.list ds)))) := by
  have h1 : ∀ q ∈ S.filter fun q => decide (q.1 ≠ p), q ∈ S := fun q hq => (List.mem_filter.mp hq).1
  obtain ⟨v0, e0, i0⟩ := s.st.get k _ hk
  have i1 := i0.ext (M' := (W.fix (S.filter fun q => decide (q.1 ≠ p))).M) (same_sub h1)
  obtain ⟨e, dd⟩ := is_w i1
  subst e
  have n : ¬ (W.fix (S.filter fun q => decide (q.1 ≠ p))).M p := fun z => z.elim (s.f.new _ h).2 fun ⟨q, hq, e⟩ => (of_decide_eq_true (List.mem_filter.mp hq).2) e
  exact ⟨h1, StOk.setSelf (s.st.ext (same_sub h1)) e0 (a := .d (.list ds)) (show Dt K _ (.ref p) (.list ds) from .lst (by rw [hid_out n]; exact s.f.j.2 _ h) dd)⟩
theorem ok_Book_put (T : Top w K mg f fd) : FnOk P w K mg base CX0 10 (f 24) (fd 24) ["self", "key", "worth", "for_all"] (spPut K (f 47)) := by
  refine T.F_Book_put.ok sc_Book_put (fun vs H Q E h => ?_) (fun cdv Ar outer s H vs Q E hr h => ?_)
  · obtain ⟨_, _, _, _, _, _, _, _, _, _, _, _, _, _, i, _⟩ := h; exact i.length
  refine ⟨_, (pss_cons (ps_if (pt_not (pt_val (pe_call (ok_is_key T) (hr.mono (by omega)) (by rfl) T.g_is_key T.F_is_key.kp (b_is_key T) .nil pass0 (pa_cons (pv 1) pa_nil)))) (pss_one ps_never) pss_nil)
      (pss_cons (ps_if (pt_not (pt_val (pe_call (ok_is_worth T) hr (by rfl) T.g_is_worth T.F_is_worth.kp (b_is_worth T) .nil pass0 (pa_cons (pv 1) (pa_cons (pv 2) pa_nil))))) (pss_one ps_never) pss_nil)
      (pss_cons (ps_if (pt_val (pv 3)) (pss_one ps_never) (pss_one (ps_if (pt_truS (pe_fld (pv 0) rfl)) (pss_one ps_never) pss_nil)))
      (pss_one (ps_expr (pe_meth (pv 0) T.cl_Book T.m_Book_keep (ok_Book_keep T) (hr.mono (by omega)) (b_Book_keep T) .nil pass0 (pa_cons (pv 1) (pa_cons (pe_ifExp (pt_cmpR op_eq (pe_ix ix_tup (pv 1) pe_int (fun _ _ => rfl)) pe_str (nomark _)) (pe_callTy c_tup (by rfl) T.z_tuple (by decide +kernel) (pa_cons (pv 2) pa_nil)) (pv 2)) pa_nil)))))))), ?_⟩
  obtain ⟨W, H0, S, b, dx, t, k, g, s, kv, wd, p, d, a2, i, wa, fx, bi, dt, l, hk, ⟨hq, lw⟩, ⟨hw, hm, hl⟩, sh, q⟩ := h
  let Z : Env := [some (.v (.ref b)), some (.t (kD2 wd p)), some a2, some (.d (.bool false))]
  have s0 : FS K W H0 H (L2.start ["self", "key", "worth", "for_all"] vs) Z S := ⟨fx, stOk_start i⟩
  refine seq_in (fs_if s0 (xt_not (xt_B (XE.mono (xe_call (pre := pre_is_key K) (post := post_is_key) (E := E0) (xa_cons (xe_td (xe_var rfl)) xa_nil) ⟨_, rfl, strT_kD hq lw⟩) fun a e => e))) (fun H1 c s1 _ => ?_) fun H1 c s1 g1 => ?_)
  · rw [hk] at c
    cases c
  dsimp only [tNext]
  have goes : ∀ {S1 : Frg} {Δ' : Env} {D : Ends} {ts : TS}, (∀ q ∈ S1, q ∈ S) → StOk K (W.fix S1).M H1 (L2.start ["self", "key", "worth", "for_all"] vs) Δ' → Δ'[1]? = some (some (.t (kD2 wd p))) → Δ'[2]? = some (some (.d d)) → (∀ H2, FS K W H0 H2 (L2.start ["self", "key", "worth", "for_all"] vs) Z S → Gr W H1 S H2 S → D.nx (L2.start ["self", "key", "worth", "for_all"] vs) H2) → tIfS (tNot (tB (tCall (spD K (pre_is_worth K) post_is_worth) [] E0 (tCons (tVar 1) (tCons (tVar 2) tNil))))) ts tNext D (L2.start ["self", "key", "worth", "for_all"] vs) H1 := fun {S1 Δ' D ts} h1 st' e1 e2 q' => by
    refine s1.partT h1 st' (xt_not (xt_B (XE.mono (xe_call (pre := pre_is_worth K) (post := post_is_worth) (E := E0) (xa_cons (xe_td (xe_var e1)) (xa_cons (xe_var e2) xa_nil)) ⟨wd, keyD p, d, rfl, hm, hl⟩) fun a e => e))) fun c H2 hc s2 g2 => ?_
    have hc : c = !isWorthD wd d := hc
    rw [hw] at hc
    subst hc
    exact iteF (q' H2 s2 g2)
  have rest : ∀ H2, FS K W H0 H2 (L2.start ["self", "key", "worth", "for_all"] vs) Z S → Gr W H1 S H2 S → tSeq (tIfS (tB (tVar 3)) (fun _ _ _ => False) (tIfS (tTruS K (tFld K (tVar 0) "groups")) (fun _ _ _ => False) tNext)) (tDrop (tMeth (f 47) "keep" (spKeep K (f 47)) [] E0 (tVar 0) (tCons (tVar 1) (tCons (tIf (tTest (tOp rEq (tOp (rIxT K) (tVar 1) (tC (.int 0))) (tC (.str "row")))) (tCB (rTupOf K) (tCons (tVar 2) tNil)) (tVar 2)) tNil)))) ⟨fun _ H' => Q .non H', Q, fun _ _ => False, fun _ _ => False⟩ (L2.start ["self", "key", "worth", "for_all"] vs) H2 := fun H2 s2 g2 => by
    refine seq_in (fs_if s2 (xt_B (xe_var rfl)) (fun H3 c s3 _ => nomatch c) fun H3 _ s3 g3 => ?_)
    refine fs_if s3 (xt_truO bi.g (xe_fldX (v := .ref g) bi.b T.cl_Book T.n_Book_groups rfl (xe_var rfl))) (fun H4 c s4 _ => nomatch c) fun H4 _ s4 g4 => ?_
    dsimp only [tNext]
    have G := gr_trans (gr_trans (gr_trans g1 g2) g3) g4
    refine via_drop (keep_in s4 bi rfl (dt.ext G) l hk (kind_str hw) sh (xe_var rfl) (xa_cons (xe_var rfl) (xa_cons ?_ xa_nil)) fun H' kv' s5 g5 dt' => q H' kv' s5.f (gr_trans G g5) dt')
    refine xe_if (R := (· = .d (keptD wd d))) (XT.is (xt_test (xe_op (xe_op (xe_td (xe_var rfl)) xe_int (ox_ixT (by decide) rfl)) xe_str (ox_eq rfl rfl rfl))) (eqF_str wd "row")) (fun c => ?_) fun c => ?_
    · have c9 : wd = "row" := of_decide_eq_true c
      rcases wa with rfl | ⟨p9, vs9, ds9, rfl, rfl, h9⟩
      · obtain ⟨ds, rfl⟩ := row_list hw c9
        subst c9
        exact xe_cb (xa_cons (xe_var rfl) xa_nil) cx_tup
      · subst c9
        exact xe_tupX h9 rfl
    · have c9 : wd ≠ "row" := of_decide_eq_false c
      rcases wa with rfl | ⟨p9, vs9, ds9, rfl, rfl, h9⟩
      · exact XE.is (xe_var rfl) (show A.d d = A.d (if wd = "row" then _ else d) from by rw [if_neg c9])
      · exact absurd (row_of hw) c9
  rcases wa with rfl | ⟨p9, vs9, ds9, rfl, rfl, h9⟩
  · exact seq_in (goes (fun q hq => hq) s1.st rfl rfl fun H2 s2 g2 => rest H2 s2 g2)
  · obtain ⟨h1, st'⟩ := own_seen s1 h9 (k := 2) rfl
    exact seq_in (goes h1 st' rfl rfl fun H2 s2 g2 => rest H2 s2 g2)

def sp_l_pool (K : PySem.W.Frag) : Sp := spPool K
theorem ok_l_pool (T : Top w K mg f fd) : FnOk P w K mg base CX0 1 (f 29) (fd 29) ["_law_script", "_law_k"] (sp_l_pool K) := by
  refine T.F_l_pool.ok sc_l_pool (fun vs H Q E h => ?_) (fun cdv Ar outer s H vs Q E hr h => ?_)
  · obtain ⟨_, _, _, rfl, _⟩ := h; rfl
  refine ⟨_, (pss_cons (ps_set (i := 2) sc_l_pool.nd rfl (Or.inl rfl) pe_int)
      (pss_cons (ps_if (pt_cmpR o_lt (pv 1) (pe_callB c_len (by rfl) T.z_len (by decide +kernel) (pa_cons (pv 0) pa_nil)) (nomark _)) (pss_one (ps_set (i := 2) sc_l_pool.nd rfl (Or.inl rfl) (pe_ix ix_list (pv 0) (pv 1) (fun _ _ => rfl)))) pss_nil)
      (pss_cons (ps_set (i := 3) sc_l_pool.nd rfl (Or.inl rfl) (pe_callB (c_max rfl) (by rfl) T.z_max (by decide +kernel) (pa_cons (pv 2) (pa_cons (pe_op o_sub (pe_un o_neg pe_int) (pv 2)) pa_nil))))
      (pss_cons (ps_set (i := 4) sc_l_pool.nd rfl (Or.inl rfl) (pe_op o_mod (pe_op o_add (pe_op o_add (pe_op o_mul (pe_op o_mod (pv 3) pe_int) pe_int) (pe_op o_mul pe_int (pv 1))) pe_int) pe_int))
      (pss_cons (ps_if (pt_cmpR o_lt (pv 3) (pe_op o_pow pe_int pe_int) (nomark _)) (pss_one (ps_set (i := 3) sc_l_pool.nd rfl (Or.inl rfl) pe_int)) pss_nil)
      (pss_one (ps_ret (pe_lst (pa_cons (pv 3) (pa_cons (pv 4) pa_nil)))))))))), ?_⟩
  obtain ⟨a, ns, k, rfl, hS, hl, h0, h1, q⟩ := h
  have s0 : StOk K W0.M H (L2.start ["_law_script", "_law_k", "_law_cell", "_law_number", "_law_seed"] [.ref a, .int k]) (startE ["_law_script", "_law_k", "_law_cell", "_law_number", "_law_seed"] [.s ns, .d (.int k)]) :=
    stOk_start (.cons ⟨a, rfl, by rw [hid_W0]; exact hS⟩ (.cons (.int k) .nil))
  refine xs_then (W := W0) (N := fun Δ => Δ = [some (.s ns), some (.d (.int k)), some (.d (.int 0)), none, none]) (xs_set xe_int rfl) trivial s0 fun σ1 H1 Δ1 f1 s1 e => ?_
  subst e
  refine xs_then (W := W0) (N := fun Δ => ∃ c, Δ = [some (.s ns), some (.d (.int k)), some (.d (.int c)), none, none]) (xs_if (xt_test (xe_op (xe_var rfl) (xe_cb (xa_cons (xe_var rfl) xa_nil) cx_lenI) ox_IB)) (fun c => ?_) fun _ => xs_next ⟨0, rfl⟩) trivial s1 fun σ2 H2 Δ2 f2 s2 e => ?_
  · have lt : k.toNat < ns.length := by
      have c' := of_decide_eq_true c
      omega
    exact xs_set (xe_op (xe_var rfl) (xe_var rfl) (ox_ixI h0 (List.getElem?_eq_getElem lt))) ⟨_, rfl⟩
  obtain ⟨c, e⟩ := e
  subst e
  refine xs_then (W := W0) (N := fun Δ => ∃ n, Δ = [some (.s ns), some (.d (.int k)), some (.d (.int c)), some (.d (.int n)), none]) (xs_set (xe_cb (xa_cons (xe_var rfl) (xa_cons (xe_op (xe_neg xe_int) (xe_var rfl) ox_II) xa_nil)) cx_max) ⟨_, rfl⟩) trivial s2 fun σ3 H3 Δ3 f3 s3 e => ?_
  obtain ⟨n, e⟩ := e
  subst e
  have b1 : 0 ≤ n % 2147483629 := Int.emod_nonneg _ (by decide)
  have b2 : n % 2147483629 < 2147483629 := Int.emod_lt_of_pos _ (by decide)
  refine xs_then (W := W0) (N := fun Δ => ∃ s : Int, Δ = [some (.s ns), some (.d (.int k)), some (.d (.int c)), some (.d (.int n)), some (.d (.int s))] ∧ 0 ≤ s ∧ s < 2147483647)
    (xs_set (xe_op (xe_op (xe_op (xe_op (xe_op (xe_var rfl) xe_int (ox_mod (by decide))) xe_int (ox_mul (.inl ⟨by omega, by omega⟩))) (xe_op xe_int (xe_var rfl) (ox_mul (.inl ⟨by decide, by decide⟩))) ox_II) xe_int ox_II) xe_int (ox_mod (by decide)))
      ⟨_, rfl, Int.emod_nonneg _ (by decide), Int.emod_lt_of_pos _ (by decide)⟩) trivial s3 fun σ4 H4 Δ4 f4 s4 e => ?_
  obtain ⟨s', e, l0, l1⟩ := e
  subst e
  refine xs_then (W := W0) (N := fun Δ => ∃ n : Int, Δ = [some (.s ns), some (.d (.int k)), some (.d (.int c)), some (.d (.int n)), some (.d (.int s'))])
    (xs_if (xt_test (xe_op (xe_var rfl) (xe_op xe_int xe_int (ox_pow ⟨by decide, by decide, by decide⟩)) ox_IB)) (fun _ => xs_set xe_int ⟨_, rfl⟩) fun _ => xs_next ⟨_, rfl⟩) trivial s4 fun σ5 H5 Δ5 f5 s5 e => ?_
  obtain ⟨m, e⟩ := e
  subst e
  obtain ⟨v3, e3, i3⟩ := s5.get 3 _ rfl
  obtain ⟨v4, e4, i4⟩ := s5.get 4 _ rfl
  cases i3
  cases i4
  have ff := (((f1.trans f2).trans f3).trans f4).trans f5
  have sm : Same H H5 := by have := ff.same; rwa [hid_W0, hid_W0] at this
  refine ⟨_, e3, _, e4, (by decide : 2 ≤ sizeLine), fun p np => q p _ (fun b o e => ?_) (sm.free np) ⟨_, upd_same, m, s', rfl, l0, l1⟩⟩
  rw [upd_ne (ne_of_none (sm _ _ e) np)]
  exact sm _ _ e
theorem ok_l_take (T : Top w K mg f fd) : FnOk P w K mg base CX0 1 (f 30) (fd 30) ["_law_pool_here", "_law_many"] (spD K preTake postTake) := by
  refine okD T.F_l_take sc_l_take (fun W as p => ?_) (fun cdv Ar outer s H E hr => ⟨_, (pss_cons (ps_if (pt_cmpR o_gt (pe_ix ix_list (pv 0) pe_int (fun _ _ => rfl)) pe_int (nomark _)) (pss_cons (ps_set (i := 2) sc_l_take.nd rfl (Or.inl rfl) (pe_op o_mod (pe_ix ix_list (pv 0) pe_int (fun _ _ => rfl)) (pv 1)))
      (pss_cons (ps_asg (pe_op o_fdiv (pe_ix ix_list (pv 0) pe_int (fun _ _ => rfl)) (pv 1)) (pg_sub (pv 0) pe_int set_list))
      (pss_one (ps_ret (pv 2))))) pss_nil)
      (pss_cons (ps_asg (pe_op o_mod (pe_op o_add (pe_op o_mul (pe_ix ix_list (pv 0) pe_int (fun _ _ => rfl)) pe_int) pe_int) pe_int) (pg_sub (pv 0) pe_int set_list))
      (pss_one (ps_ret (pe_op o_mod (pe_op o_fdiv (pe_op o_mod (pe_op o_mul (pe_ix ix_list (pv 0) pe_int (fun _ _ => rfl)) (pe_ix ix_list (pv 0) pe_int (fun _ _ => rfl))) pe_int) pe_int) (pv 1)))))), fun W as p => ?_⟩)
  · obtain ⟨_, _, rfl, _⟩ := p; rfl
  obtain ⟨pa, m, rfl, hp, m0, m1⟩ := p
  have md : ∀ {Δ : Env} {ta : TE} {tb : TE} {p' : Int → Prop}, XE K W ta Δ (IntR p') → XV K W tb Δ (.d (.int m)) → XE K W (tOp rModP ta tb) Δ (IntR fun n => 0 ≤ n ∧ n < m) := fun ha hb =>
    xe_intR ha (XE.mono hb fun a e => ⟨m, e, rfl⟩) fun i j _ e => by
      subst e
      exact OX.is (ox_mod m0) ⟨_, rfl, Int.emod_nonneg _ (by omega), Int.emod_lt_of_pos _ m0⟩
  refine xs_seq (N1 := fun Δ => Δ = startE ["_law_pool_here", "_law_many", "_law_digit"] [.v (.ref pa), .d (.int m)]) ?_ ?_
  · refine xs_ifR (B := fun _ => True) (xt_testR (xe_opR (xe_pool0 rfl hp) (xe_intC (n := 0) (p := fun n => n = 0) rfl) ?_)) (fun _ => ?_) fun _ => xs_next rfl
    · rintro a b ⟨i, rfl, _⟩ ⟨j, rfl, _⟩
      exact OX.is ox_IB ⟨_, rfl, trivial⟩
    · refine xs_seq (N1 := fun Δ => ∃ n : Int, (0 ≤ n ∧ n < m) ∧ Δ = [some (.v (.ref pa)), some (.d (.int m)), some (.d (.int n))]) (xs_setR (md (xe_pool0 rfl hp) (xe_var rfl)) fun a ⟨n, e, hn⟩ => ⟨n, hn, by rw [e]; rfl⟩) ?_
      rintro Δ' ⟨n, hn, rfl⟩
      refine xs_seq (N1 := fun Δ => Δ = [some (.v (.ref pa)), some (.d (.int m)), some (.d (.int n))]) (xs_pool0 rfl hp (xe_intR (xe_pool0 rfl hp) (XE.mono (xe_var (i := 1) rfl) fun a e => ⟨m, e, rfl⟩) (q := fun j => j = m) fun i j _ e => ?_) rfl) ?_
      · subst e
        exact OX.is (ox_div ⟨m0, by omega⟩) ⟨_, rfl, trivial⟩
      · rintro Δ' rfl
        exact xs_ret (xe_var (i := 2) rfl) fun a e => ⟨n, e, hn⟩
  rintro Δ' rfl
  have P1 : ∀ {Δ : Env}, Δ[0]? = some (some (.v (.ref pa))) → XE K W (tOp (rIxL K) (tVar 0) (tC (.int 1))) Δ (IntR fun s => 0 ≤ s ∧ s < 2147483647) := fun h => xe_pool1 h hp
  refine xs_seq (N1 := fun Δ => Δ = startE ["_law_pool_here", "_law_many", "_law_digit"] [.v (.ref pa), .d (.int m)]) (xs_pool1 rfl hp ?_ rfl) ?_
  · refine xe_intR (xe_intR (xe_intR (P1 rfl) (xe_intC (p := fun n => n = 48271) rfl) (u := fun _ => True) ?_) (xe_intC (p := fun _ => True) trivial) (u := fun _ => True) ?_) (xe_intC (p := fun n => n = 2147483647) rfl) ?_
    · rintro i j ⟨h0, h1⟩ rfl
      exact OX.is (ox_mul (.inl ⟨by omega, by omega⟩)) ⟨_, rfl, trivial⟩
    · rintro i j _ _
      exact OX.is ox_II ⟨_, rfl, trivial⟩
    · rintro i j _ rfl
      exact OX.is (ox_mod (by decide)) ⟨_, rfl, Int.emod_nonneg _ (by decide), Int.emod_lt_of_pos _ (by decide)⟩
  rintro Δ' rfl
  refine xs_ret (md (xe_intR (xe_intR (xe_intR (P1 rfl) (P1 rfl) (u := fun _ => True) ?_) (xe_intC (p := fun n => n = 2147483629) rfl) (u := fun _ => True) ?_) (xe_intC (p := fun n => n = 64) rfl) (u := fun _ => True) ?_) (xe_var (i := 1) rfl)) fun a ⟨n, e, hn⟩ => ⟨n, e, hn⟩
  · rintro i j ⟨h0, h1⟩ ⟨h2, h3⟩
    exact OX.is (ox_mul (.inl ⟨by omega, by omega⟩)) ⟨_, rfl, trivial⟩
  · rintro i j _ rfl
    exact OX.is (ox_mod (by decide)) ⟨_, rfl, trivial⟩
  · rintro i j _ rfl
    exact OX.is (ox_div ⟨by decide, by decide⟩) ⟨_, rfl, trivial⟩

def allKeys : List (Str × Key) := [("kind", .inr "a"), ("kind", .inr "~"), ("kind", .inr "1"), ("name", .inr "go"), ("name", .inr "rule"), ("name", .inr "x y"), ("active", .inr "~"), ("active", .inr "a"), ("box", .inl 0), ("box", .inl 10), ("box", .inl 255), ("row", .inl 0), ("row", .inl 7)]
def keysD : List PyData := allKeys.map fun k => kD2 k.1 k.2
def preKey (W : Wd) (as : List A) : Prop := ∃ pa, as = [.v (.ref pa)] ∧ HasPool W pa
def postKey (_ : List A) (a : A) : Prop := ∃ k ∈ allKeys, a = .t (kD2 k.1 k.2)
def tab2 : List (Str × Str) := [("a", "letter"), ("~", "active")]
def firstD (w : Str) (p : Key) : PyData := if w = "kind" then .str (look tab2 "other" (pS p)) else if w = "name" ∧ p = .inr "rule" then .tuple [.str "deed", .str "rule"] else if w = "box" then .int 0 else if w = "row" then .list [] else .none
section
variable {K : PySem.W.Frag} {W : Wd} {Δ : Env} {ty : TE}
theorem xe_key2 {a b : Str} : XV K W (tTup (tCons (tC (.str a)) (tCons (tC (.str b)) tNil))) Δ (.t (kD2 a (.inr b))) := xe_tupK (ds := [.str a, .str b]) (xa_cons (xe_tf xe_str rfl) (xa_cons (xe_tf xe_str rfl) xa_nil)) (Nat.le_of_ble_eq_true rfl)
theorem xe_keyI {a : Str} {i : Int} : XV K W (tTup (tCons (tC (.str a)) (tCons (tC (.int i)) tNil))) Δ (.t (kD2 a (.inl i))) := xe_tupK (ds := [.str a, .int i]) (xa_cons (xe_tf xe_str rfl) (xa_cons (xe_tf xe_int rfl) xa_nil)) (Nat.le_of_ble_eq_true rfl)
theorem xe_keys6 : XV K W (tLst (tCons (tTup (tCons (tC (.str "kind")) (tCons (tC (.str "a")) tNil))) (tCons (tTup (tCons (tC (.str "kind")) (tCons (tC (.str "~")) tNil))) (tCons (tTup (tCons (tC (.str "kind")) (tCons (tC (.str "1")) tNil))) (tCons (tTup (tCons (tC (.str "name")) (tCons (tC (.str "go")) tNil))) (tCons (tTup (tCons (tC (.str "name")) (tCons (tC (.str "rule")) tNil))) (tCons (tTup (tCons (tC (.str "name")) (tCons (tC (.str "x y")) tNil))) tNil))))))) Δ (.t (.list (keysD.take 6))) :=
  xe_lstK (ds := keysD.take 6) (xa_cons xe_key2 (xa_cons xe_key2 (xa_cons xe_key2 (xa_cons xe_key2 (xa_cons xe_key2 (xa_cons xe_key2 xa_nil)))))) (by decide)
theorem xe_keys7 : XV K W (tLst (tCons (tTup (tCons (tC (.str "active")) (tCons (tC (.str "~")) tNil))) (tCons (tTup (tCons (tC (.str "active")) (tCons (tC (.str "a")) tNil))) (tCons (tTup (tCons (tC (.str "box")) (tCons (tC (.int 0)) tNil))) (tCons (tTup (tCons (tC (.str "box")) (tCons (tC (.int 10)) tNil))) (tCons (tTup (tCons (tC (.str "box")) (tCons (tC (.int 255)) tNil))) (tCons (tTup (tCons (tC (.str "row")) (tCons (tC (.int 0)) tNil))) (tCons (tTup (tCons (tC (.str "row")) (tCons (tC (.int 7)) tNil))) tNil)))))))) Δ (.t (.list (keysD.drop 6))) :=
  xe_lstK (ds := keysD.drop 6) (xa_cons xe_key2 (xa_cons xe_key2 (xa_cons xe_keyI (xa_cons xe_keyI (xa_cons xe_keyI (xa_cons xe_keyI (xa_cons xe_keyI xa_nil))))))) (by decide)
theorem xe_boxrow {w : Str} (h : XV K W ty Δ (.d (.str w))) : XV K W (tDGet2 (tDisp [(tC (.str "box"), tC (.int 0)), (tC (.str "row"), tLst tNil)]) ty (tC .non)) Δ (.d (if w = "box" then .int 0 else if w = "row" then .list [] else .none)) := fun σ H j s Q q => fun p np => by
  refine ⟨(by decide : 0 ≤ sizeLine), fun l nl => ?_⟩
  have lp : l ≠ p := fun e => by rw [e, upd_same] at nl; cases nl
  have f1 : Fr W H (upd H p (.dK [])) := .new j np
  have f2 : Fr W (upd H p (.dK [])) (upd (upd H p (.dK [])) l (.lst [])) := .new f1.j nl
  refine ⟨by rw [upd_ne (Ne.symm lp), upd_same], [(.inr "box", .int 0), (.inr "row", .ref l)], rfl, Nat.le_of_ble_eq_true rfl, ?_⟩
  have mp : ¬ W.M p := W.fresh j np
  generalize hH3 : upd (upd (upd H p (.dK [])) l (.lst [])) p (.dK (mergeK [] [(.inr "box", .int 0), (.inr "row", .ref l)])) = H3
  have f3 : Fr W H H3 := by
    refine ⟨fun a o n e => ?_, ?_⟩
    · have na : a ≠ p := ne_of_none e np
      rw [← hH3, upd_ne na]
      exact f2.keep a o n (f1.keep a o n e)
    · rw [← hH3]
      exact W.loc _ _ (fun a m => upd_ne fun z => mp (z ▸ m)) f2.j
  have hp3 : H3 p = some (.dK (mergeK [] [(.inr "box", .int 0), (.inr "row", .ref l)])) := by rw [← hH3, upd_same]
  have hl3 : hid W.M H3 l = some (.lst []) := by
    rw [hid_out (W.fresh f1.j nl), ← hH3, upd_ne lp, upd_same]
  refine ⟨p, rfl, .inl ⟨_, .inl hp3⟩, h σ H3 f3.j (s.fr f3) _ fun y H4 a f4 e i4 => ?_⟩
  subst e
  cases i4
  refine ⟨_, DGet.k (k := Sum.inr w) (f4.keep _ _ mp hp3), ?_⟩
  have hl4 := f4.same _ _ hl3
  have F := f3.trans f4
  by_cases h1 : w = "box"
  · subst h1
    exact q _ H4 _ F rfl (Dt.int 0)
  · by_cases h2 : w = "row"
    · subst h2
      exact q _ H4 _ F rfl (Dt.lst hl4 .nil)
    · have hv : valV (mergeK [] ([(Sum.inr ("box" : Str), V.int 0), (Sum.inr ("row" : Str), V.ref l)] : List (Key × V))) (Sum.inr w) = none := by
        show valV ([(Sum.inr ("box" : Str), V.int 0), (Sum.inr ("row" : Str), V.ref l)] : List (Key × V)) (Sum.inr w) = none
        simp [valV, List.find?_cons, Ne.symm h1, Ne.symm h2]
      rw [hv, if_neg h1, if_neg h2] at *
      exact q _ H4 _ F rfl .non
end
theorem ok_l_key (T : Top w K mg f fd) : FnOk P w K mg base CX0 2 (f 31) (fd 31) ["_law_pool_here"] (spD K preKey postKey) := by
  refine okD T.F_l_key sc_l_key (fun W as p => ?_) (fun cdv Ar outer s H E hr => ⟨_, (pss_cons (ps_set (i := 1) sc_l_key.nd rfl (Or.inl rfl) (pe_lst (pa_cons (pe_tup (pa_cons pe_str (pa_cons pe_str pa_nil))) (pa_cons (pe_tup (pa_cons pe_str (pa_cons pe_str pa_nil))) (pa_cons (pe_tup (pa_cons pe_str (pa_cons pe_str pa_nil))) (pa_cons (pe_tup (pa_cons pe_str (pa_cons pe_str pa_nil))) (pa_cons (pe_tup (pa_cons pe_str (pa_cons pe_str pa_nil))) (pa_cons (pe_tup (pa_cons pe_str (pa_cons pe_str pa_nil))) pa_nil))))))))
      (pss_cons (ps_set (i := 1) sc_l_key.nd rfl (Or.inl rfl) (pe_op op_cat (pv 1) (pe_lst (pa_cons (pe_tup (pa_cons pe_str (pa_cons pe_str pa_nil))) (pa_cons (pe_tup (pa_cons pe_str (pa_cons pe_str pa_nil))) (pa_cons (pe_tup (pa_cons pe_str (pa_cons pe_int pa_nil))) (pa_cons (pe_tup (pa_cons pe_str (pa_cons pe_int pa_nil))) (pa_cons (pe_tup (pa_cons pe_str (pa_cons pe_int pa_nil))) (pa_cons (pe_tup (pa_cons pe_str (pa_cons pe_int pa_nil))) (pa_cons (pe_tup (pa_cons pe_str (pa_cons pe_int pa_nil))) pa_nil))))))))))
      (pss_one (ps_ret (pe_ix ix_list (pv 1) (pe_call (ok_l_take T) hr (by rfl) T.g_l_take T.F_l_take.kp (b_l_take T) .nil pass0 (pa_cons (pv 0) (pa_cons pe_int pa_nil))) (fun _ _ => rfl)))))), fun W as p => ?_⟩)
  · obtain ⟨_, rfl, _⟩ := p; rfl
  obtain ⟨pa, rfl, hp⟩ := p
  refine xs_seq (N1 := fun Δ => Δ = [some (.v (.ref pa)), some (.t (.list (keysD.take 6)))]) (xs_set xe_keys6 rfl) ?_
  rintro Δ' rfl
  refine xs_seq (N1 := fun Δ => Δ = [some (.v (.ref pa)), some (.t (.list keysD))]) (xs_set (XE.is (xe_op (xe_var rfl) xe_keys7 (ox_catK (by decide))) (by rw [List.take_append_drop])) rfl) ?_
  rintro Δ' rfl
  refine xs_ret (xe_ixLRK (xe_var rfl) (XE.mono (xe_take rfl hp xe_int (by decide) (by decide)) fun a ⟨n, e, h0, h1⟩ => ⟨n, e, h0, h1⟩)) fun a ⟨z, hz, e⟩ => ?_
  obtain ⟨k, hk, rfl⟩ := List.mem_map.mp hz
  exact ⟨k, hk, e⟩
def pre_l_every (g : Unit) (W : Wd) (as : List A) : Prop := as = []
def post_l_every (g : Unit) (a : A) : Prop := a = .t (.list keysD)
theorem ok_l_every (T : Top w K mg f fd) : FnOk P w K mg base CX0 1 (f 34) (fd 34) [] (spG K pre_l_every post_l_every) := by
  refine okDg T.F_l_every sc_l_every (fun g W as p => ?_) (fun cdv Ar outer s H E hr => ⟨_, (pss_cons (ps_set (i := 0) sc_l_every.nd rfl (Or.inl rfl) (pe_lst (pa_cons (pe_tup (pa_cons pe_str (pa_cons pe_str pa_nil))) (pa_cons (pe_tup (pa_cons pe_str (pa_cons pe_str pa_nil))) (pa_cons (pe_tup (pa_cons pe_str (pa_cons pe_str pa_nil))) (pa_cons (pe_tup (pa_cons pe_str (pa_cons pe_str pa_nil))) (pa_cons (pe_tup (pa_cons pe_str (pa_cons pe_str pa_nil))) (pa_cons (pe_tup (pa_cons pe_str (pa_cons pe_str pa_nil))) pa_nil))))))))
      (pss_one (ps_ret (pe_op op_cat (pv 0) (pe_lst (pa_cons (pe_tup (pa_cons pe_str (pa_cons pe_str pa_nil))) (pa_cons (pe_tup (pa_cons pe_str (pa_cons pe_str pa_nil))) (pa_cons (pe_tup (pa_cons pe_str (pa_cons pe_int pa_nil))) (pa_cons (pe_tup (pa_cons pe_str (pa_cons pe_int pa_nil))) (pa_cons (pe_tup (pa_cons pe_str (pa_cons pe_int pa_nil))) (pa_cons (pe_tup (pa_cons pe_str (pa_cons pe_int pa_nil))) (pa_cons (pe_tup (pa_cons pe_str (pa_cons pe_int pa_nil))) pa_nil)))))))))))), fun g W as p => ?_⟩)
  · rcases p with rfl; rfl
  obtain rfl := p
  refine xs_seq (N1 := fun Δ => Δ = [some (.t (.list (keysD.take 6)))]) (xs_set xe_keys6 rfl) ?_
  rintro Δ' rfl
  exact xs_ret (XE.is (xe_op (xe_var rfl) xe_keys7 (ox_catK (by decide))) (by rw [List.take_append_drop])) fun a e => e
def pre_l_first (g : Str × Key) (W : Wd) (as : List A) : Prop := as = [.t (kD2 g.1 g.2)] ∧ isKeyD (kD2 g.1 g.2) = true
def post_l_first (g : Str × Key) (a : A) : Prop := a = .d (firstD g.1 g.2)
theorem ok_l_first (T : Top w K mg f fd) : FnOk P w K mg base CX0 1 (f 33) (fd 33) ["_law_key_here"] (spG K pre_l_first post_l_first) := by
  refine okDg T.F_l_first sc_l_first (fun g W as p => ?_) (fun cdv Ar outer s H E hr => ⟨_, (pss_cons (ps_asg (pv 0) (pg_tup rfl (pgs_cons (pg_name (i := 1) sc_l_first.nd rfl (Or.inl rfl)) (pgs_cons (pg_name (i := 2) sc_l_first.nd rfl (Or.inl rfl)) pgs_nil))))
      (pss_cons (ps_if (pt_cmpR op_eq (pv 1) pe_str (nomark _)) (pss_one (ps_ret (pe_dget2 (hu_of hr) (pe_disp (pps_cons pe_str pe_str (pps_cons pe_str pe_str pps_nil)) (by rfl) (by rfl) (fun z => by cases z) (by decide)) (pv 2) pe_str ⟨rfl, rfl, rfl, rfl⟩))) pss_nil)
      (pss_cons (ps_if (PW.pt (pw_and (pt_cmpR op_eq (pv 1) pe_str (nomark _)) (pw_and1 (pt_cmpR op_eq (pv 2) pe_str (nomark _))))) (pss_one (ps_ret (pe_tup (pa_cons pe_str (pa_cons pe_str pa_nil))))) pss_nil)
      (pss_one (ps_ret (pe_dget2 (hu_of hr) (pe_disp (pps_cons pe_str pe_int (pps_cons pe_str (pe_lst pa_nil) pps_nil)) (by rfl) (by rfl) (fun z => by cases z) (by decide)) (pv 1) pe_non ⟨rfl, rfl, rfl, rfl⟩)))))), fun g W as p => ?_⟩)
  · rcases p with ⟨rfl, _⟩; rfl
  obtain ⟨wd, q⟩ := g
  obtain ⟨rfl, hk⟩ := p
  dsimp only at hk ⊢
  let S : Env := [some (.t (kD2 wd q)), some (.d (.str wd)), some (.d (keyD q))]
  refine xs_seq (N1 := fun Δ => Δ = S) (xs_asg (xe_td (xe_var rfl)) gx_tup2 rfl) ?_
  rintro Δ' rfl
  refine xs_seq (N1 := fun Δ => wd ≠ "kind" ∧ Δ = S) (xs_if (XT.is (xt_test (xe_op (xe_var rfl) xe_str (ox_eq rfl rfl rfl))) (eqF_str wd "kind")) (fun z => ?_) fun z => xs_next ⟨of_decide_eq_false z, rfl⟩) ?_
  · have z9 : wd = "kind" := of_decide_eq_true z
    subst z9
    obtain ⟨c, rfl⟩ : ∃ c, q = .inr c := by
      rcases key_words hk with ⟨_, h⟩ | ⟨h, _⟩ | ⟨h, _⟩ | ⟨h, _⟩ | ⟨h, _⟩
      · exact sign_str h
      all_goals exact absurd h (by decide)
    exact xs_ret (xe_dget (xe_dispS (ps := tab2) (by decide)) (xe_var rfl) xe_str) fun a e => e
  rintro Δ' ⟨nk, rfl⟩
  let b : Bool := decide (wd = "name") && decide (q = .inr "rule")
  refine xs_seq (N1 := fun Δ => b = false ∧ Δ = S) (xs_if (b := b) (xt_and (XT.is (xt_test (xe_op (xe_var rfl) xe_str (ox_eq rfl rfl rfl))) (eqF_str wd "name")) fun z => ?_) (fun z => ?_) fun z => xs_next ⟨z, rfl⟩) ?_
  · have z9 : wd = "name" := of_decide_eq_true z
    subst z9
    obtain ⟨c, rfl⟩ : ∃ c, q = .inr c := by
      rcases key_words hk with ⟨h, _⟩ | ⟨h, _⟩ | ⟨_, h⟩ | ⟨h, _⟩ | ⟨h, _⟩
      · exact absurd h (by decide)
      · exact absurd h (by decide)
      · cases q with
        | inl i => simp [keyD, isNameD] at h
        | inr c => exact ⟨c, rfl⟩
      all_goals exact absurd h (by decide)
    refine XT.is (xt_test (xe_op (xe_var rfl) xe_str (ox_eq rfl rfl rfl))) ?_
    refine (eqF_str c "rule").trans ?_
    by_cases hc : c = "rule"
    · rw [decide_eq_true hc, decide_eq_true (by rw [hc])]
    · rw [decide_eq_false hc, decide_eq_false fun e => hc (Sum.inr.inj e)]
  · have z : (decide (wd = "name") && decide (q = .inr "rule")) = true := z
    rw [Bool.and_eq_true] at z
    refine xs_ret (xe_tup (ds := [.str "deed", .str "rule"]) (xa_cons xe_str (xa_cons xe_str xa_nil))) fun a e => ?_
    show a = .d (if _ then _ else if _ then _ else _)
    rw [if_neg nk, if_pos ⟨of_decide_eq_true z.1, of_decide_eq_true z.2⟩]
    exact e
  rintro Δ' ⟨hb, rfl⟩
  refine xs_ret (xe_boxrow (xe_var rfl)) fun a e => ?_
  show a = .d (if _ then _ else if _ then _ else _)
  rw [if_neg nk, if_neg]
  · exact e
  · rintro ⟨h1, h2⟩
    have hb : (decide (wd = "name") && decide (q = .inr "rule")) = false := hb
    rw [decide_eq_true h1, decide_eq_true h2] at hb
    cases hb

mutual
def smallD : PyData → Bool
  | .str s => decide (s.length ≤ 100)
  | .list ds => decide (ds.length ≤ 100) && smallsD ds
  | .tuple ds => decide (ds.length ≤ 100) && smallsD ds
  | _ => true
def smallsD : List PyData → Bool
  | [] => true
  | d :: ds => smallD d && smallsD ds
end
theorem smalls_mem : ∀ {ds : List PyData}, smallsD ds = true → ∀ d ∈ ds, smallD d = true
  | [], _, d, h => nomatch h
  | a :: ds, h, d, hd => by
    have h : (smallD a && smallsD ds) = true := h
    rw [Bool.and_eq_true] at h
    rcases List.mem_cons.mp hd with rfl | hd
    · exact h.1
    · exact smalls_mem h.2 d hd
theorem small_seq {ds : List PyData} (h : (decide (ds.length ≤ 100) && smallsD ds) = true) : ds.length ≤ 100 ∧ ∀ d ∈ ds, smallD d = true := by
  rw [Bool.and_eq_true] at h
  exact ⟨of_decide_eq_true h.1, smalls_mem h.2⟩
theorem small_T {y : PyData} (h : smallD y = true) : strT 100000 y := fun xs e s hs => by
  subst e
  have := (small_seq (ds := xs) h).2 _ hs
  exact Nat.le_trans (of_decide_eq_true this) (by decide)
theorem small_TOk {y : PyData} (h : smallD y = true) : TOk y := fun ds e => by
  subst e
  obtain ⟨h1, h2⟩ := small_seq (ds := ds) h
  exact ⟨Nat.le_trans h1 (by decide), fun z hz => small_T (h2 z hz)⟩
theorem small_MOk {y : PyData} (h : smallD y = true) : MOk y := fun ds e => by
  subst e
  obtain ⟨h1, h2⟩ := small_seq (ds := ds) h
  exact ⟨Nat.le_trans h1 (by decide), fun z hz => ⟨small_T (h2 z hz), small_TOk (h2 z hz)⟩⟩
theorem small_LOk {y : PyData} (h : smallD y = true) : LOk y := fun ds e => by
  subst e
  obtain ⟨h1, h2⟩ := small_seq (ds := ds) h
  exact ⟨Nat.le_trans h1 (by decide), fun z hz => small_T (h2 z hz)⟩
def wokB (w : Str) (d : PyData) : Bool := isWorthD w d && smallD d && (!d.hasDict && SeqAt.shaped d) && (!(keptD w d).hasDict && SeqAt.shaped (keptD w d)) && d.showable && decide (d.depth ≤ 50) && decide (wt d ≤ 1000)
structure Wok (w : Str) (d : PyData) : Prop where
  is : isWorthD w d = true
  m : MOk d
  l : LOk d
  s : shp d
  k : shp (keptD w d)
  sh : d.showable = true
  dp : d.depth ≤ 50
  wt : wt d ≤ 1000
theorem wok_of {w : Str} {d : PyData} (h : wokB w d = true) : Wok w d := by
  unfold wokB at h
  simp only [Bool.and_eq_true, Bool.not_eq_true', decide_eq_true_eq] at h
  obtain ⟨⟨⟨⟨⟨⟨h1, h2⟩, h3⟩, h4⟩, h5⟩, h6⟩, h7⟩ := h
  exact ⟨h1, small_MOk h2, small_LOk h2, h3, h4, h5, h6, h7⟩
def rowW : List PyData := [.tuple [.str "letter", .str "a"], .tuple [.str "shut", .str "}"], .tuple [.str "mark", .str "#"], .tuple [.str "name", .str "go"]]
def ruleW : PyData := .tuple [.str "rule", .tuple [.tuple [.str "hand", .int 1], .tuple [.str "other", .str "."]], .tuple [.tuple [.str "hand", .int 1], .tuple [.str "hand", .int 1]]]
def meanW : List PyData := [.none, .tuple [.str "deed", .str "rule"], .tuple [.str "deed", .str "fi"], .tuple [.str "piece", .tuple [.str "open", .str "{"]], .tuple [.str "piece", .tuple [.str "blank", .str " "]], ruleW, .tuple [.str "rule", .tuple [], .tuple []]]
theorem rowW_ok : ∀ n < 5, wokB "row" (.list (rowW.take n)) = true := by decide +kernel
theorem kinds_ok : ∀ d ∈ kindsK, wokB "kind" d = true := by decide +kernel
theorem means_ok : ∀ d ∈ meanW, wokB "name" d = true ∧ wokB "active" d = true := by decide +kernel
theorem box_ok : ∀ n < 1000, wokB "box" (.int (n : Nat)) = true := by decide +kernel
theorem box_ok2 : ∀ d ∈ [PyData.int 0, .int 1, .int (-1), .int (10 ^ 12 - 1), .int (1 - 10 ^ 12)], wokB "box" d = true := by decide +kernel
def spWd (K : PySem.W.Frag) : Sp := fun us H Q _ => ∃ (W : Wd) (pa : Addr) (w : Str), us = [.ref pa, .str w] ∧ W.J H ∧ HasPool W pa ∧ (w = "kind" ∨ w = "active" ∨ w = "name" ∨ w = "box" ∨ w = "row") ∧
  (w ≠ "row" → ∀ v H' d, Fr W H H' → Wok w d → Is K W.M H' v (.d d) → Q v H') ∧ (w = "row" → ∀ p H' vs n, n < 5 → FX W H H' [(p, .lst vs)] → DtAll K (hid (W.fix [(p, .lst vs)]).M H') vs (rowW.take n) → Q (.ref p) H')
theorem xn_slTo {K : PySem.W.Frag} {W : Wd} {Δ : Env} {te ta : TE} {xs : List PyData} {m : Nat} (h : XV K W te Δ (.d (.list xs))) (hn : XE K W ta Δ fun a => ∃ n : Int, a = .d (.int n) ∧ 0 ≤ n ∧ n < (m : Int)) : XN K W (tSl (rSlL K) te tNoPart (tPart ta)) Δ (fun ds => ∃ n : Nat, n < m ∧ ds = xs.take n) := fun σ H j s Q q =>
  h σ H j s _ fun v H1 a f1 e i1 => by
    subst e
    refine hn σ H1 f1.j (s.fr f1) _ fun w H2 b f2 e i2 => ?_
    obtain ⟨n, e, h0, hm⟩ := e
    subst e
    cases i2
    cases i1.fr f2 with
    | lst h1 d1 =>
      refine ⟨n, rfl, _, _, rfl, .inl (.inl (hid_le _ _ h1)), fun p np => ?_⟩
      have n0 : H p = none := by
        cases z : H p with
        | none => rfl
        | some o =>
          rw [f2.keep p o (W.fresh f2.j np) (f1.keep p o (W.fresh f2.j np) z)] at np
          cases np
      refine q p _ _ (xs.take n.toNat) ((f1.trans f2).trans (.new f2.j np)) n0 ⟨n.toNat, by omega, rfl⟩ upd_same ?_
      rw [show n = ((n.toNat : Nat) : Int) by omega, cut_to]
      exact DtAll.take _ (DtAll.ext (same_new (H' := H2) f2.j np) _ _ d1)
theorem xe_tk {K : PySem.W.Frag} {W : Wd} {Δ : Env} {i : Nat} {pa : Addr} {m : Int} {E : XK} (hv : Δ[i]? = some (some (.v (.ref pa)))) (hp : HasPool W pa) (h0 : 0 < m) (h1 : m < 1000000) : XE K W (tCall (spD K preTake postTake) [] E (tCons (tVar i) (tCons (tC (.int m)) tNil))) Δ fun a => ∃ n : Int, a = .d (.int n) ∧ 0 ≤ n ∧ n < m := XE.mono (xe_take hv hp xe_int h0 h1) fun a ⟨n, e, h0, h1⟩ => ⟨n, e, h0, h1⟩
theorem ok_l_worth (T : Top w K mg f fd) : FnOk P w K mg base CX0 2 (f 32) (fd 32) ["_law_pool_here", "_law_word"] (spWd K) := by
  refine T.F_l_worth.ok sc_l_worth (fun vs H Q E h => ?_) (fun cdv Ar outer s H vs Q E hr h => ?_)
  · obtain ⟨_, _, _, rfl, _⟩ := h; rfl
  refine ⟨_, (pss_cons (ps_if (pt_cmpR op_eq (pv 1) pe_str (nomark _)) (pss_cons (ps_set (i := 2) sc_l_worth.nd rfl (Or.inl rfl) (pe_lst (pa_cons pe_str (pa_cons pe_str (pa_cons pe_str (pa_cons pe_str (pa_cons pe_str (pa_cons pe_str (pa_cons pe_str (pa_cons pe_str (pa_cons pe_str (pa_cons pe_str pa_nil))))))))))))
      (pss_one (ps_ret (pe_ix ix_list (pv 2) (pe_call (ok_l_take T) hr (by rfl) T.g_l_take T.F_l_take.kp (b_l_take T) .nil pass0 (pa_cons (pv 0) (pa_cons pe_int pa_nil))) (fun _ _ => rfl))))) pss_nil)
      (pss_cons (ps_if (pt_cmpR op_eq (pv 1) pe_str (nomark _)) (pss_one (ps_ret (pe_ix ix_list (pe_lst (pa_cons pe_int (pa_cons pe_int (pa_cons (pe_un o_neg pe_int) (pa_cons (pe_op o_sub (pe_op o_pow pe_int pe_int) pe_int) (pa_cons (pe_op o_sub pe_int (pe_op o_pow pe_int pe_int)) (pa_cons (pe_call (ok_l_take T) hr (by rfl) T.g_l_take T.F_l_take.kp (b_l_take T) .nil pass0 (pa_cons (pv 0) (pa_cons pe_int pa_nil))) pa_nil))))))) (pe_call (ok_l_take T) hr (by rfl) T.g_l_take T.F_l_take.kp (b_l_take T) .nil pass0 (pa_cons (pv 0) (pa_cons pe_int pa_nil))) (fun _ _ => rfl)))) pss_nil)
      (pss_cons (ps_if (pt_cmpR op_eq (pv 1) pe_str (nomark _)) (pss_one (ps_ret (pe_slice sl_list (pe_lst (pa_cons (pe_tup (pa_cons pe_str (pa_cons pe_str pa_nil))) (pa_cons (pe_tup (pa_cons pe_str (pa_cons pe_str pa_nil))) (pa_cons (pe_tup (pa_cons pe_str (pa_cons pe_str pa_nil))) (pa_cons (pe_tup (pa_cons pe_str (pa_cons pe_str pa_nil))) pa_nil))))) po_none (po_some (pe_call (ok_l_take T) hr (by rfl) T.g_l_take T.F_l_take.kp (b_l_take T) .nil pass0 (pa_cons (pv 0) (pa_cons pe_int pa_nil))))))) pss_nil)
      (pss_cons (ps_set (i := 3) sc_l_worth.nd rfl (Or.inl rfl) (pe_tup (pa_cons pe_str (pa_cons (pe_tup (pa_cons (pe_tup (pa_cons pe_str (pa_cons pe_int pa_nil))) (pa_cons (pe_tup (pa_cons pe_str (pa_cons pe_str pa_nil))) pa_nil))) (pa_cons (pe_tup (pa_cons (pe_tup (pa_cons pe_str (pa_cons pe_int pa_nil))) (pa_cons (pe_tup (pa_cons pe_str (pa_cons pe_int pa_nil))) pa_nil))) pa_nil)))))
      (pss_cons (ps_set (i := 4) sc_l_worth.nd rfl (Or.inl rfl) (pe_lst (pa_cons pe_non (pa_cons (pe_tup (pa_cons pe_str (pa_cons pe_str pa_nil))) (pa_cons (pe_tup (pa_cons pe_str (pa_cons pe_str pa_nil))) (pa_cons (pe_tup (pa_cons pe_str (pa_cons (pe_tup (pa_cons pe_str (pa_cons pe_str pa_nil))) pa_nil))) (pa_cons (pe_tup (pa_cons pe_str (pa_cons (pe_tup (pa_cons pe_str (pa_cons pe_str pa_nil))) pa_nil))) pa_nil)))))))
      (pss_one (ps_ret (pe_ix ix_list (pe_op op_cat (pv 4) (pe_lst (pa_cons (pv 3) (pa_cons (pe_tup (pa_cons pe_str (pa_cons (pe_tup pa_nil) (pa_cons (pe_tup pa_nil) pa_nil)))) pa_nil)))) (pe_call (ok_l_take T) hr (by rfl) T.g_l_take T.F_l_take.kp (b_l_take T) .nil pass0 (pa_cons (pv 0) (pa_cons pe_int pa_nil))) (fun _ _ => rfl))))))))), ?_⟩
  obtain ⟨W, pa, wd, rfl, j, hp, hw, q1, q2⟩ := h
  let N : List Str := ["_law_pool_here", "_law_word", "_law_words", "_law_rule", "_law_some"]
  have s0 : FS K W H H (L2.start N [.ref pa, .str wd]) (startE N [.v (.ref pa), .d (.str wd)]) [] := FS.nil j (stOk_start (.cons rfl (.cons (.str _) .nil)))
  have hp' : HasPool (W.fix []) pa := HasPool.fix hp fun p h => nomatch h
  refine seq_in (fs_if s0 (XT.is (xt_test (xe_op (xe_var rfl) xe_str (ox_eq rfl rfl rfl))) (eqF_str wd "kind")) (fun H1 c s1 g1 => ?_) fun H1 c s1 g1 => ?_)
  · have c : wd = "kind" := of_decide_eq_true c.symm
    refine seq_in (fs_asg s1 (xe_lst (ds := kindsK) (xa_cons xe_str (xa_cons xe_str (xa_cons xe_str (xa_cons xe_str (xa_cons xe_str (xa_cons xe_str (xa_cons xe_str (xa_cons xe_str (xa_cons xe_str (xa_cons xe_str xa_nil)))))))))) (by decide)) fun v2 H2 a e s2 g2 => ?_)
    subst e
    refine fs_ret s2 (xe_ixLR (xs := kindsK) (xe_var rfl) (XE.mono (xe_tk (m := 10) rfl hp' (by decide) (by decide)) fun a ⟨n, e, h0, h1⟩ => ⟨n, e, h0, h1⟩)) fun v H' a ⟨z, hz, e⟩ s3 g3 i3 => ?_
    subst e
    exact q1 (by rw [c]; decide) v H' z s3.f.fr (by rw [c]; exact wok_of (kinds_ok z hz)) (Is.ext same_out i3)
  dsimp only [tNext]
  have nk : wd ≠ "kind" := of_decide_eq_false c.symm
  refine seq_in (fs_if s1 (XT.is (xt_test (xe_op (xe_var rfl) xe_str (ox_eq rfl rfl rfl))) (eqF_str wd "box")) (fun H2 c2 s2 g2 => ?_) fun H2 c2 s2 g2 => ?_)
  · have c2 : wd = "box" := of_decide_eq_true c2.symm
    have pw : ∀ {Δ : Env}, XV K (W.fix []) (tOp rPowS (tC (.int 10)) (tC (.int 12))) Δ (.d (.int (10 ^ 12))) := xe_op xe_int xe_int (ox_pow ⟨by decide, by decide, by decide⟩)
    refine fs_ret s2 (R := fun a => ∃ d, wokB "box" d = true ∧ a = .d d) (xe_opR (R := fun a => ∃ ds : List PyData, (ds.length = 6 ∧ ∀ d ∈ ds, wokB "box" d = true) ∧ a = .d (.list ds)) (S := fun a => ∃ n : Int, a = .d (.int n) ∧ 0 ≤ n ∧ n < 6) (xe_lstR (xa_mono (xa_consR xe_int (xa_consR xe_int (xa_consR (xe_neg xe_int) (xa_consR (xe_op pw xe_int ox_II) (xa_consR (xe_op xe_int pw ox_II) (xa_consR (xe_tk rfl hp' (by decide) (by decide)) xa_nil)))))) ?_) fun ds h => by rw [h.1]; decide) (xe_tk rfl hp' (by decide) (by decide)) ?_) fun v H' a ⟨d, hd, e⟩ s3 g3 i3 => ?_
    · rintro as ⟨a1, b1, e1, rfl, a2, b2, e2, rfl, a3, b3, e3, rfl, a4, b4, e4, rfl, a5, b5, e5, rfl, a6, b6, e6, ⟨n, rfl, h0, h1⟩, rfl⟩
      subst e6 e5 e4 e3 e2 e1
      refine ⟨[.int 0, .int 1, .int (-1), .int (10 ^ 12 - 1), .int (1 - 10 ^ 12), .int n], rfl, rfl, fun d hd => ?_⟩
      obtain ⟨m, rfl⟩ : ∃ m : Nat, n = m := ⟨n.toNat, by omega⟩
      have hd : d ∈ [PyData.int 0, .int 1, .int (-1), .int (10 ^ 12 - 1), .int (1 - 10 ^ 12)] ++ [.int (m : Int)] := hd
      rcases List.mem_append.mp hd with hd | hd
      · exact box_ok2 d hd
      · cases List.mem_singleton.mp hd
        exact box_ok m (by omega)
    · rintro a b ⟨ds, ⟨hl, hd⟩, rfl⟩ ⟨n, rfl, h0, h1⟩
      have l : n.toNat < ds.length := by omega
      exact OX.mono (ox_ixL h0 (List.getElem?_eq_getElem l)) fun a e => ⟨_, hd _ (List.getElem_mem l), e⟩
    · subst e
      exact q1 (by rw [c2]; decide) v H' d s3.f.fr (by rw [c2]; exact wok_of hd) (Is.ext same_out i3)
  dsimp only [tNext]
  have nb : wd ≠ "box" := of_decide_eq_false c2.symm
  refine seq_in (fs_if s2 (XT.is (xt_test (xe_op (xe_var rfl) xe_str (ox_eq rfl rfl rfl))) (eqF_str wd "row")) (fun H3 c3 s3 g3 => ?_) fun H3 c3 s3 g3 => ?_)
  · have c3 : wd = "row" := of_decide_eq_true c3.symm
    refine via_ret (fs_xn s3 (xn_slTo (m := 5) (xe_lst (ds := rowW) (xa_cons (xe_td xe_key2) (xa_cons (xe_td xe_key2) (xa_cons (xe_td xe_key2) (xa_cons (xe_td xe_key2) xa_nil)))) (by decide)) (xe_tk rfl hp' (by decide) (by decide))) fun p H' vs ds ⟨n, hn, e⟩ s4 g4 dt => ?_)
    subst e
    exact q2 c3 p H' vs n hn s4.f dt
  dsimp only [tNext]
  have nr : wd ≠ "row" := of_decide_eq_false c3.symm
  refine seq_in (fs_asg s3 (xe_tup (ds := [.str "rule", .tuple [.tuple [.str "hand", .int 1], .tuple [.str "other", .str "."]], .tuple [.tuple [.str "hand", .int 1], .tuple [.str "hand", .int 1]]]) (xa_cons xe_str (xa_cons (xe_tup (ds := [.tuple [.str "hand", .int 1], .tuple [.str "other", .str "."]]) (xa_cons (xe_td xe_keyI) (xa_cons (xe_td xe_key2) xa_nil))) (xa_cons (xe_tup (ds := [.tuple [.str "hand", .int 1], .tuple [.str "hand", .int 1]]) (xa_cons (xe_td xe_keyI) (xa_cons (xe_td xe_keyI) xa_nil))) xa_nil)))) fun v4 H4 a e s4 g4 => ?_)
  subst e
  dsimp only
  refine seq_in (fs_asg s4 (xe_lst (ds := meanW.take 5) (xa_cons xe_non (xa_cons (xe_td xe_key2) (xa_cons (xe_td xe_key2) (xa_cons (xe_tup (ds := [.str "piece", .tuple [.str "open", .str "{"]]) (xa_cons xe_str (xa_cons (xe_td xe_key2) xa_nil))) (xa_cons (xe_tup (ds := [.str "piece", .tuple [.str "blank", .str " "]]) (xa_cons xe_str (xa_cons (xe_td xe_key2) xa_nil))) xa_nil))))) (by decide)) fun v5 H5 a e s5 g5 => ?_)
  subst e
  dsimp only
  refine fs_ret s5 (xe_ixLR (xs := meanW.take 5 ++ meanW.drop 5) (xe_op (xe_var rfl) (xe_lst (ds := meanW.drop 5) (xa_cons (xe_var rfl) (xa_cons (xe_tup (ds := [.str "rule", .tuple [], .tuple []]) (xa_cons xe_str (xa_cons (xe_tup (ds := []) xa_nil) (xa_cons (xe_tup (ds := []) xa_nil) xa_nil)))) xa_nil)) (by decide)) (ox_cat (by decide))) (XE.mono (xe_tk (m := 7) rfl hp' (by decide) (by decide)) fun a ⟨n, e, h0, h1⟩ => ⟨n, e, h0, h1⟩)) fun v H' a ⟨z, hz, e⟩ s6 g6 i6 => ?_
  subst e
  rw [List.take_append_drop] at hz
  refine q1 nr v H' z s6.f.fr ?_ (Is.ext same_out i6)
  rcases hw with h | h | h | h | h
  · exact absurd h nk
  · rw [h]; exact wok_of (means_ok z hz).2
  · rw [h]; exact wok_of (means_ok z hz).1
  · exact absurd h nb
  · exact absurd h nr

def bk0 : Bk := ⟨firstK, meanK⟩
def noGr (K : PySem.W.Frag) : Vis := visD K (.list [])
def listed (w : Str) (d : PyData) : PyData := if w = "row" then (match d with | .tuple ds => .list ds | d => d) else d
def toldAt (s : Bk) (w : Str) (p : Key) : PyData := listed w (worthAt s w p)
def RowsOk (s : Bk) : Prop := ∀ p, ∃ ds, worthAt s "row" p = .tuple ds
section
variable {K : PySem.W.Frag} {W : Wd} {H0 H H' : Hp} {S : Frg} {σ : L2.St} {Δ : Env} {E : XK} {C : Addr} {s : Bk} {G : Vis} {te ty : TE} {ta : TA} {w m : Str} {p : Key}
theorem bk_seen {x dx t k g : Addr} {tab : Kds} {kv : List (List Key × V)} {kp : Kept} (fx : FX W H0 H (bkS C x dx t k g tab kv [])) (dt : DtT K (hid (W.fix (bkS C x dx t k g tab kv [])).M H) kv kp) : (bkV K C ⟨tab, kp⟩ (noGr K)).r (.ref x) (hid W.M H) := by
  have see : ∀ {a o}, (a, o) ∈ bkS C x dx t k g tab kv [] → hid W.M H a = some o := fun h => by rw [hid_out (fx.new _ h).2]; exact fx.j.2 _ h
  exact ⟨x, dx, t, k, g, rfl, see (.tail _ (.tail _ (.tail _ (.head _)))), .dct (see (.tail _ (.tail _ (.head _)))) (dtkv_of _), ⟨k, kv, rfl, see (.tail _ (.head _)), dt.ext same_out⟩, .lst (see (.head _)) .nil⟩
theorem xe_mkBook : XV K W (tMake C (spIni K C) [] E tNil) Δ (.o (bkV K C bk0 (noGr K))) := fun σ H j st Q q => fun x dx nx ndx ne => by
  have f1 : Fr W H (upd H dx (.own x)) := .new j ndx
  have nx1 : (upd H dx (.own x)) x = none := by rw [upd_ne ne.symm]; exact nx
  exact ⟨W, upd H dx (.own x), x, dx, rfl, (FX.nil f1.j).cons nx1, fun H' t k g kv fx dt => ⟨rfl, q (.ref x) H' _ (f1.trans fx.fr) rfl (bk_seen fx dt)⟩⟩
theorem fix_one {q : Addr} {vs : List V} : (W.fix [(q, .lst vs)]).M = fun a => W.M a ∨ a = q := by
  funext a
  exact propext ⟨fun z => z.imp id fun ⟨p, hp, e⟩ => by rw [List.mem_singleton.mp hp] at e; exact e.symm, fun z => z.imp id fun e => ⟨_, .head _, e.symm⟩⟩
/-- book.worth(key), as data -/
theorem xe_worth (h : XV K W te Δ (.o (bkV K C s G))) (hm : ∀ t k g, (bkF t k g).lookup m = none) (hy : XV K W ty Δ (.t (kD2 w p))) (hk : isKeyD (kD2 w p) = true) (l1 : strS 100000 (keyD p)) (l2 : w.length ≤ 100000) (rw' : w = "row" → ∃ ds, worthAt s w p = .tuple ds) :
    XV K W (tMeth C m (spWorth K C) [] E te (tCons ty tNil)) Δ (.d (toldAt s w p)) := fun σ H j st Q q =>
  h σ H j st _ fun v H1 a f1 e i => by
    subst e
    have i0 := i
    obtain ⟨b, dx, t, k, gg, rfl, hb, h1, h2, h3⟩ := i
    refine ⟨b, dx, _, rfl, (hid_some hb).2, hm t k gg, hy σ H1 f1.j (st.fr f1) _ fun v2 H2 a f2 e i2 => ?_⟩
    subst e
    have f12 := f1.trans f2
    refine ⟨W, s, G, w, p, f2.j, .cons (Is.fr f2 i0) (.cons i2 .nil), hk, l1, l2, fun ne v H' f i => ?_, fun e => ?_⟩
    · refine q v H' _ (f12.trans f) rfl ?_
      show Is K W.M H' v (.d (listed w _))
      unfold listed
      rw [if_neg ne]
      exact i
    · obtain ⟨ds, ed⟩ := rw' e
      refine ⟨ds, ed, fun q' H' vs fx dt => ?_⟩
      refine q _ H' _ (f12.trans fx.fr) rfl ?_
      show Is K W.M H' _ (.d (listed w (worthAt s w p)))
      unfold listed
      rw [if_pos e, ed]
      exact (show Dt K (hid W.M H') (.ref q') (.list ds) from .lst (by rw [hid_out (fx.new _ (.head _)).2]; exact fx.j.2 _ (.head _)) (DtAll.ext same_out _ _ dt))
theorem xe_kinds (h : XV K W te Δ (.o (bkV K C s G))) (hm : ∀ t k g, (bkF t k g).lookup m = none) : XV K W (tMeth C m (spKinds K C) [] E te tNil) Δ (.d (KD s.tab)) := fun σ H j st Q q =>
  h σ H j st _ fun v H1 a f1 e i => by
    subst e
    have i0 := i
    obtain ⟨b, dx, t, k, gg, rfl, hb, h1, h2, h3⟩ := i
    refine ⟨b, dx, _, rfl, (hid_some hb).2, hm t k gg, W, s, G, f1.j, .cons i0 .nil, fun D H' fx => ?_⟩
    exact q _ H' _ (f1.trans fx.fr) rfl (show Dt K (hid W.M H') (.ref D) (KD s.tab) from .dct (by rw [hid_out (fx.new _ (.head _)).2]; exact fx.j.2 _ (.head _)) (dtkv_of _))
end
theorem mean_none {w : Str} (h : w ≠ "name") (p : Key) : getT meanK [.inr w, p] = none := by
  unfold getT meanK
  have : (deedsS.map fun w => (([.inr "name", .inr w] : List Key), PyData.tuple [.str "deed", .str w])).find? (fun q => decide (q.1 = [.inr w, p])) = none := by
    refine List.find?_eq_none.mpr fun q hq => ?_
    obtain ⟨x, _, rfl⟩ := List.mem_map.mp hq
    simp [Ne.symm h]
  rw [this]
  rfl
theorem rows0 : RowsOk bk0 := fun p => ⟨[], by
  show (if ("row" : Str) = "kind" then _ else (getT meanK [.inr "row", p]).getD (bareD "row")) = _
  rw [if_neg (by decide), mean_none (by decide)]
  rfl⟩
theorem deeds_ok : ∀ w ∈ deedsS, isKeyD (kD2 "name" (.inr w)) = true ∧ w.length ≤ 100 ∧ PyData.eqv (toldAt bk0 "name" (.inr w)) (.tuple [.str "deed", .str w]) = true ∧ shp (toldAt bk0 "name" (.inr w)) ∧ shp (.tuple [.str "deed", .str w]) := by
  have h : (deedsS.all fun w => isKeyD (kD2 "name" (.inr w)) && decide (w.length ≤ 100) && PyData.eqv (toldAt bk0 "name" (.inr w)) (.tuple [.str "deed", .str w]) && !(toldAt bk0 "name" (.inr w)).hasDict && SeqAt.shaped (toldAt bk0 "name" (.inr w)) && !(PyData.tuple [.str "deed", .str w]).hasDict && SeqAt.shaped (.tuple [.str "deed", .str w])) = true := by decide +kernel
  intro w hw
  have := List.all_eq_true.mp h w hw
  simp only [Bool.and_eq_true, Bool.not_eq_true', decide_eq_true_eq] at this
  obtain ⟨⟨⟨⟨⟨⟨h1, h2⟩, h3⟩, h4⟩, h5⟩, h6⟩, h7⟩ := this
  exact ⟨h1, h2, h3, ⟨h4, h5⟩, h6, h7⟩
theorem first_ok : ∀ p ∈ firstK, isKeyD (kD2 "kind" (.inr p.1)) = true ∧ p.1.length ≤ 100 ∧ look firstK "other" p.1 = look firstK "" p.1 := by
  have h : (firstK.all fun p => isKeyD (kD2 "kind" (.inr p.1)) && decide (p.1.length ≤ 100) && decide (look firstK "other" p.1 = look firstK "" p.1)) = true := by decide +kernel
  intro p hp
  have := List.all_eq_true.mp h p hp
  simp only [Bool.and_eq_true, decide_eq_true_eq] at this
  exact ⟨this.1.1, this.1.2, this.2⟩
section
variable {K : PySem.W.Frag} {W : Wd} {Δ : Env} {te tl : TE} {k : Nat}
theorem xe_lcLK {xs : List PyData} {g : PyData → PyData} (h : XV K W tl Δ (.t (.list xs))) (n : xs.length ≤ 100000) (hs : ∀ D φ d, ¬ W.M D → d ∈ xs → XV K (W.add D φ) te ((Δ.set k none).set k (some (.t d))) (.d (g d))) :
    XV K W (tLc (iList K tl) (gName k) tYes te [k]) Δ (.d (.list (xs.map g))) :=
  XE.mono (xe_lc (P := fun i d => ∃ x, xs[i]? = some x ∧ d = g x) (xi_listK h) (fun m e => by rw [e]; exact n) fun D φ i a mD ⟨d, hd, ea⟩ => by
      subst ea
      exact XE.mono (hs D φ d mD (List.mem_of_getElem? hd)) fun a e => ⟨g d, e, d, hd, rfl⟩)
    fun a ⟨ds, hl, hp, e⟩ => by
      subst e
      have z : ds = xs.map g := by
        refine List.ext_getElem? fun i => ?_
        rw [List.getElem?_map]
        by_cases hi : i < ds.length
        · obtain ⟨c, h1, h2⟩ := hp i ds[i] (List.getElem?_eq_getElem hi)
          rw [h1, List.getElem?_eq_getElem hi, h2]
          rfl
        · rw [List.getElem?_eq_none (by omega), List.getElem?_eq_none (by omega)]
          rfl
      rw [z]
end
theorem boxes_ok : ∀ i < 256, isKeyD (kD2 "box" (.inl (i : Nat))) = true ∧ isKeyD (kD2 "row" (.inl (i : Nat))) = true := by decide +kernel
def last3 : List PyData := [kD2 "name" (.inr "Rule"), kD2 "active" (.inr "~"), kD2 "kind" (.inr "?")]
def due3 : PyData → PyData
  | .tuple [.str w, .str c] => toldAt bk0 w (.inr c)
  | d => d
theorem last3_ok : ∀ d ∈ last3, ∃ w c, d = kD2 w (.inr c) ∧ isKeyD (kD2 w (.inr c)) = true ∧ c.length ≤ 100 ∧ w.length ≤ 100 ∧ w ≠ "row" := by
  intro d hd
  rcases List.mem_cons.mp hd with rfl | hd
  · exact ⟨_, _, rfl, by decide +kernel, by decide, by decide, by decide⟩
  rcases List.mem_cons.mp hd with rfl | hd
  · exact ⟨_, _, rfl, by decide +kernel, by decide, by decide, by decide⟩
  rcases List.mem_cons.mp hd with rfl | hd
  · exact ⟨_, _, rfl, by decide +kernel, by decide, by decide, by decide⟩
  · cases hd
theorem last3_due : PyData.eqv (.list (last3.map due3)) (.list [.none, .none, .str "other"]) = true ∧ shp (.list (last3.map due3)) ∧ shp (.list [.none, .none, .str "other"]) := by
  have h : (PyData.eqv (.list (last3.map due3)) (.list [.none, .none, .str "other"]) && !(PyData.list (last3.map due3)).hasDict && SeqAt.shaped (.list (last3.map due3)) && !(PyData.list [.none, .none, .str "other"]).hasDict && SeqAt.shaped (.list [.none, .none, .str "other"])) = true := by decide +kernel
  simp only [Bool.and_eq_true, Bool.not_eq_true'] at h
  exact ⟨h.1.1.1.1, ⟨h.1.1.1.2, h.1.1.2⟩, h.1.2, h.2⟩
def aheadS : List Str := ["behind", "name", "iflike", "ifsame", "ifkind", "ifless", "else", "fi", "figures", "row", "text"]
def restS : List Str := ["rule", "through", "like", "kind", "set", "add", "keep", "all", "open", "shut", "later", "skip", "stay"]
def tStrsA (ws : List Str) : TA := ws.foldr (fun w t => tCons (tC (.str w)) t) tNil
theorem xa_strs {K : PySem.W.Frag} {W : Wd} {Δ : Env} : ∀ ws : List Str, XAs K W (tStrsA ws) Δ (dAll (strsD ws))
  | [] => xa_nil
  | w :: ws => xa_cons xe_str (xa_strs ws)
theorem ox_neDA {K : PySem.W.Frag} {W : Wd} {kvs : List (Str × Str)} (h : ∀ p ∈ KV2 kvs, valV (KV2 kvs) p.1 = some p.2 ∧ flatB p.2 = true) : OX K W rNeDA (.d (KD kvs)) (.d (KD kvs)) (· = .d (.bool false)) := fun v w H j i1 i2 Q q => by
  cases i1 with
  | dct h1 k1 =>
    cases i2 with
    | dct h2 k2 =>
      obtain rfl := dtkv_is k1
      obtain rfl := dtkv_is k2
      exact ⟨_, _, _, _, rfl, rfl, hid_le _ _ h1, hid_le _ _ h2, rfl, h, q _ H _ (.refl j) rfl (.bl _)⟩
theorem first_self : ∀ p ∈ KV2 firstK, valV (KV2 firstK) p.1 = some p.2 ∧ flatB p.2 = true := by decide +kernel
theorem tup_shp : ∀ ws ∈ [aheadS, restS, deedsS, aheadS ++ restS ++ (["box", "endname"] : List Str)], shp (.tuple (strsD ws)) := by
  have h : ([aheadS, restS, deedsS, aheadS ++ restS ++ (["box", "endname"] : List Str)].all fun ws => !(PyData.tuple (strsD ws)).hasDict && SeqAt.shaped (.tuple (strsD ws))) = true := by decide +kernel
  intro ws hw
  have := List.all_eq_true.mp h ws hw
  simp only [Bool.and_eq_true, Bool.not_eq_true'] at this
  exact this
theorem told_kind (s : Bk) (c : Str) : toldAt s "kind" (.inr c) = .str (look s.tab "other" c) := by
  unfold toldAt listed worthAt
  rw [if_neg (by decide), if_pos rfl]
  rfl
theorem told_box0 (n : Int) : toldAt bk0 "box" (.inl n) = .int 0 := by
  unfold toldAt listed worthAt
  rw [if_neg (by decide), if_neg (by decide)]
  show (getT meanK [.inr "box", .inl n]).getD (bareD "box") = _
  rw [mean_none (by decide)]
  rfl
theorem told_row0 (n : Int) : toldAt bk0 "row" (.inl n) = .list [] := by
  unfold toldAt listed worthAt
  rw [if_pos rfl, if_neg (by decide)]
  show (match (getT meanK [.inr "row", .inl n]).getD (bareD "row") with | .tuple ds => PyData.list ds | d => d) = _
  rw [mean_none (by decide)]
  rfl
def pre_l_begun_right (g : Unit) (W : Wd) (as : List A) : Prop := as = []
def post_l_begun_right (g : Unit) (a : A) : Prop := a = .d (.bool true)
theorem ok_l_begun_right (T : Top w K mg f fd) : FnOk P w K mg base CX0 7 (f 35) (fd 35) [] (spG K pre_l_begun_right post_l_begun_right) := by
  refine okDg T.F_l_begun_right sc_l_begun_right (fun g W as p => ?_) (fun cdv Ar outer s H E hr => ⟨_, (pss_cons (ps_set (i := 0) sc_l_begun_right.nd rfl (Or.inl rfl) (pe_tup (pa_cons pe_str (pa_cons pe_str (pa_cons pe_str (pa_cons pe_str (pa_cons pe_str (pa_cons pe_str (pa_cons pe_str (pa_cons pe_str (pa_cons pe_str (pa_cons pe_str (pa_cons pe_str pa_nil)))))))))))))
      (pss_cons (ps_set (i := 1) sc_l_begun_right.nd rfl (Or.inl rfl) (pe_tup (pa_cons pe_str (pa_cons pe_str (pa_cons pe_str (pa_cons pe_str (pa_cons pe_str (pa_cons pe_str (pa_cons pe_str (pa_cons pe_str (pa_cons pe_str (pa_cons pe_str (pa_cons pe_str (pa_cons pe_str (pa_cons pe_str pa_nil)))))))))))))))
      (pss_cons (ps_if (PW.pt (pw_or (pt_cmpR (op_neD hr.units) (pe_const (by rfl) T.g_EXCHANGED) (pv 0) (nomark _)) (pw_or1 (pt_cmpR (op_neD hr.units) (pe_const (by rfl) T.g_DEEDS) (pe_op op_catA (pe_op op_catA (pv 0) (pv 1)) (pe_tup (pa_cons pe_str (pa_cons pe_str pa_nil)))) (nomark _))))) (pss_one (ps_ret pe_bl)) pss_nil)
      (pss_cons (ps_set (i := 2) sc_l_begun_right.nd rfl (Or.inr rfl) (pe_make0 T.M_Book (ok_Book_init T) (hr.mono (by omega)) (by rfl) T.g_Book (b_Book_init T) .nil pass0))
      (pss_cons (ps_if (PW.pt (pw_or (pt_cmpR (op_neD hr.units) (pe_lc (own := [("_law_word", 8)]) (g := gName 8) (by rfl) sc_l_begun_right.nd (pi_tup (pe_const (by rfl) T.g_DEEDS)) (blkOk_by (own := [("_law_word", 8)]) (N := ["_law_ahead", "_law_rest", "_law_book", "_law_table", "_law_some", "_law_number", "_law_sign", "_law_key_here", "_law_word"]) (sc := defScope s_l_begun_right) (by decide +kernel)) (fun _ _ _ _ _ => pg_name (i := 8) sc_l_begun_right.nd rfl (Or.inl rfl)) (fun _ _ _ _ _ => (pts_one (pt_cmpR (show OpR _ (compareOp .NotEq) (rNeD K) from (op_neD hr.units)) (pe_meth (pv 2) T.cl_Book T.m_Book_worth (ok_Book_worth T) hr (b_Book_worth T) .nil pass0 (pa_cons (pe_tup (pa_cons pe_str (pa_cons (pv 8) pa_nil))) pa_nil)) (pe_tup (pa_cons pe_str (pa_cons (pv 8) pa_nil))) (nomark _)))) (fun _ _ _ _ _ => (pv 8))) (pe_lst pa_nil) (nomark _)) (pw_or1 (pt_cmpR op_ne (pe_meth0 (pv 2) T.cl_Book T.m_Book_depth (ok_Book_depth T) (hr.mono (by omega)) (b_Book_depth T) .nil pass0) pe_int (nomark _))))) (pss_one (ps_ret pe_bl)) pss_nil)
      (pss_cons (ps_set (i := 3) sc_l_begun_right.nd rfl (Or.inr rfl) (pe_call0 (ok_first_kinds T) (hr.mono (by omega)) (by rfl) T.g_first_kinds T.F_first_kinds.kp (b_first_kinds T) .nil pass0))
      (pss_cons (ps_lock (ps_setLc (i := 4) (own := [("_law_sign", 6)]) (g := gName 6) (by rfl) sc_l_begun_right.nd rfl rfl (sw_true rfl rfl rfl (by decide +kernel)) (pi_keys (pv 3)) (blkOk_by (own := [("_law_sign", 6)]) (N := ["_law_ahead", "_law_rest", "_law_book", "_law_table", "_law_some", "_law_number", "_law_sign", "_law_key_here", "_law_word"]) (sc := defScope s_l_begun_right) (by decide +kernel)) (fun _ _ _ _ _ => pg_name (i := 6) sc_l_begun_right.nd rfl (Or.inl rfl)) (fun _ _ _ _ _ => (pts_one (pt_cmpR op_ne (pe_meth (pv 2) T.cl_Book T.m_Book_worth (ok_Book_worth T) hr (b_Book_worth T) .nil pass0 (pa_cons (pe_tup (pa_cons pe_str (pa_cons (pv 6) pa_nil))) pa_nil)) (pe_dget (hu_of hr) (pv 3) (pv 6) (fun _ _ => rfl)) (nomark _)))) (fun _ _ _ _ _ => (pv 6))))
      (pss_cons (ps_if (PW.pt (pw_or (pt_cmpR (op_ne_dictA (Nat.lt_of_succ_lt (hu_of hr))) (pe_meth0 (pv 2) T.cl_Book T.m_Book_kinds (ok_Book_kinds T) (hr.mono (by omega)) (b_Book_kinds T) .nil pass0) (pv 3) (nomark _)) (pw_or1 (pt_cmpR (op_neD hr.units) (pv 4) (pe_lst pa_nil) (nomark _))))) (pss_one (ps_ret pe_bl)) pss_nil)
      (pss_cons (ps_for PassesOwn.never rfl (pi_range1 (by rfl) T.z_range (pa_cons pe_int pa_nil)) (pg_name (i := 5) sc_l_begun_right.nd rfl (Or.inl rfl)) (pss_one (ps_if (PW.pt (pw_or (pt_cmpR (op_neD hr.units) (pe_meth (pv 2) T.cl_Book T.m_Book_worth (ok_Book_worth T) hr (b_Book_worth T) .nil pass0 (pa_cons (pe_tup (pa_cons pe_str (pa_cons (pv 5) pa_nil))) pa_nil)) pe_int (nomark _)) (pw_or1 (pt_cmpR (op_neD hr.units) (pe_meth (pv 2) T.cl_Book T.m_Book_worth (ok_Book_worth T) hr (b_Book_worth T) .nil pass0 (pa_cons (pe_tup (pa_cons pe_str (pa_cons (pv 5) pa_nil))) pa_nil)) (pe_lst pa_nil) (nomark _))))) (pss_one (ps_ret pe_bl)) pss_nil)))
      (pss_one (ps_ret (pe_cmpR (op_eqD hr.units) (pe_lc (own := [("_law_key_here", 7)]) (g := gName 7) (tt := tYes) (by rfl) sc_l_begun_right.nd (pi_list (pe_lst (pa_cons (pe_tup (pa_cons pe_str (pa_cons pe_str pa_nil))) (pa_cons (pe_tup (pa_cons pe_str (pa_cons pe_str pa_nil))) (pa_cons (pe_tup (pa_cons pe_str (pa_cons pe_str pa_nil))) pa_nil))))) (blkOk_by (own := [("_law_key_here", 7)]) (N := ["_law_ahead", "_law_rest", "_law_book", "_law_table", "_law_some", "_law_number", "_law_sign", "_law_key_here", "_law_word"]) (sc := defScope s_l_begun_right) (by decide +kernel)) (fun _ _ _ _ _ => pg_name (i := 7) sc_l_begun_right.nd rfl (Or.inl rfl)) (fun _ _ _ _ _ => pts_nil) (fun _ _ _ _ _ => (pe_meth (pv 2) T.cl_Book T.m_Book_worth (ok_Book_worth T) hr (b_Book_worth T) .nil pass0 (pa_cons (pv 7) pa_nil)))) (pe_lst (pa_cons pe_non (pa_cons pe_non (pa_cons pe_str pa_nil)))) (nomark _))))))))))))), fun g W as p => ?_⟩)
  · rcases p with rfl; rfl
  obtain rfl := p
  intro σ H j st D nx rt bk ct
  let S : Option A → Option A → Option A → Option A → Option A → Option A → Env := fun a0 a1 a2 a3 a4 a5 => [a0, a1, a2, a3, a4, a5, none, none, none]
  have s0 : FS K W H H σ (S none none none none none none) [] := FS.nil j st
  let tA : A := .d (.tuple (strsD aheadS))
  let tR : A := .d (.tuple (strsD restS))
  refine seq_in (fs_asg s0 (xe_tup (ds := strsD aheadS) (xa_strs aheadS) (by decide)) fun v1 H1 a e s1 g1 => ?_)
  subst e
  refine seq_in (fs_asg s1 (xe_tup (ds := strsD restS) (xa_strs restS) (by decide)) fun v2 H2 a e s2 g2 => ?_)
  subst e
  have s2 : FS K W H H2 _ (S (some tA) (some tR) none none none none) [] := s2
  have sA := tup_shp aheadS (.head _)
  have sD := tup_shp deedsS (.tail _ (.tail _ (.head _)))
  have sB := tup_shp (aheadS ++ restS ++ (["box", "endname"] : List Str)) (.tail _ (.tail _ (.tail _ (.head _))))
  refine seq_in (fs_if s2 (B := (· = false)) (XT.is (xt_or (xt_test (xe_op (xe_ktup T.k_EXCHANGED (ds := strsD aheadS) rfl rfl) (xe_var rfl) (ox_neD sA.1 sA.1 sA.2 sA.2))) fun _ => xt_test (xe_op (xe_ktup T.k_DEEDS (ds := deedsK) rfl rfl) (xe_op (xe_op (xe_var rfl) (xe_var rfl) (ox_catT (by decide))) (xe_tup (ds := strsD ["box", "endname"]) (xa_strs _) (by decide)) (ox_catT (by decide))) (ox_neD sD.1 sB.1 sD.2 sB.2))) (by decide +kernel)) (fun H3 c _ _ => nomatch c) fun H3 _ s3 g3 => ?_)
  dsimp only [tNext]
  let tB : A := .o (bkV K (f 47) bk0 (noGr K))
  refine seq_in (fs_asg s3 xe_mkBook fun v4 H4 a e s4 g4 => ?_)
  subst e
  have s4 : FS K W H H4 _ (S (some tA) (some tR) (some tB) none none none) [] := s4
  have sN : shp (.list []) := ⟨by decide, by decide⟩
  refine seq_in (fs_if s4 (B := (· = false)) (XT.is (xt_or (xt_test (xe_op (XE.is (xe_lcF (b := fun _ => false) (h := id) (xi_tup (xe_ktup T.k_DEEDS (ds := deedsK) rfl rfl)) (by decide) fun d hd => ⟨_, gt_name, fun D φ mD => ?_, fun z => nomatch z⟩) (show _ = A.d (.list []) from by rw [List.filter_eq_nil_iff.mpr fun _ _ => Bool.false_ne_true]; rfl)) (xe_lst (ds := []) xa_nil) (ox_neD sN.1 sN.1 sN.2 sN.2))) fun _ => xt_test (xe_op (xe_bkMeth (bk0, []) (xe_var rfl) (fun _ _ _ => rfl) xa_nil rfl) xe_int (ox_ne rfl rfl rfl))) (by decide +kernel)) (fun H5 c _ _ => nomatch c) fun H5 _ s5 g5 => ?_)
  · obtain ⟨w9, hw, rfl⟩ := List.mem_map.mp hd
    obtain ⟨k1, k2, k3, k4, k5⟩ := deeds_ok w9 hw
    have l2 : w9.length ≤ 100000 := by omega
    refine XT.is (xt_test (xe_op (xe_worth (w := "name") (p := .inr w9) (xe_var rfl) (fun _ _ _ => rfl) (xe_tupK (ds := [.str "name", .str w9]) (xa_cons (xe_tf xe_str rfl) (xa_cons (xe_tf (xe_var rfl) rfl) xa_nil)) (Nat.le_of_ble_eq_true rfl)) k1 (fun s e => by cases e; exact l2) (by decide) fun e => absurd e (by decide)) (xe_tup (ds := [.str "deed", .str w9]) (xa_cons xe_str (xa_cons (xe_var rfl) xa_nil)) (Nat.le_of_ble_eq_true rfl)) (ox_neD k4.1 k5.1 k4.2 k5.2))) ?_
    rw [k3]
    rfl
  dsimp only [tNext]
  refine seq_in (via_asg (first_in s5 fun Tb H6 s6 g6 => ?_))
  have s6 : FS K W H H6 _ (S (some tA) (some tR) (some tB) (some (.v (.ref Tb))) none none) [(Tb, .dK (KV2 firstK))] := s6.put (i := 3) (v := .ref Tb) (a := .v (.ref Tb)) rfl
  refine seq_in ⟨Tb, .dK (KV2 firstK), s6.f.j.2 _ (.head _), trivial, fun od => ?_⟩
  have s7 := s6.to (s6.f.put (o' := .frz od (.dK (KV2 firstK))) (.head _)) (gr_put (.head _))
  rw [put_one] at s7
  refine fs_asg s7 (R := (· = A.d (.list []))) (XE.is (xe_lcF (b := fun _ => false) (h := id) (xi_keysF (d := Tb) (od := od) (kvs := firstK) (i0 := 3) rfl) (by rw [List.length_map]; decide) fun x hx => ⟨_, gt_name, fun D φ mD => ?_, fun z => nomatch z⟩) (show _ = A.d (.list []) from by rw [List.filter_eq_nil_iff.mpr fun _ _ => Bool.false_ne_true]; rfl)) fun v8 H8 a e s8 g8 => ?_
  · obtain ⟨pr, hpr, rfl⟩ := List.mem_map.mp hx
    obtain ⟨k1, k2, k3⟩ := first_ok pr hpr
    have l2 : pr.1.length ≤ 100000 := by omega
    refine XT.is (xt_test (xe_op (a := .d (.str (look firstK "other" pr.1))) (b := .d (.str (look firstK "" pr.1))) (XE.is (xe_worth (w := "kind") (p := .inr pr.1) (xe_var rfl) (fun _ _ _ => rfl) (xe_tupK (ds := [.str "kind", .str pr.1]) (xa_cons (xe_tf xe_str rfl) (xa_cons (xe_tf (xe_var rfl) rfl) xa_nil)) (Nat.le_of_ble_eq_true rfl)) k1 (fun s e => by cases e; exact l2) (by decide) fun e => absurd e (by decide)) (by rw [told_kind]; rfl)) (fun σ2 H2 j2 s2 Q2 q2 => ?_) (ox_ne rfl rfl rfl))) ?_
    · obtain ⟨w0, f0, k0⟩ := s2.get 3 (.v (.ref Tb)) rfl
      obtain ⟨w2, f2, k2⟩ := s2.get 6 (.d (.str pr.1)) rfl
      have k0 : w0 = .ref Tb := k0
      subst k0
      cases k2
      exact ⟨_, f0, _, f2, Tb, _, rfl, .inl ⟨KV2 firstK, .inr pr.1, .inr ⟨od, j2.1.2 _ (.head _)⟩, rfl, (valV_key hpr).symm⟩, q2 _ H2 _ (.refl j2) rfl (.str _)⟩
    · rw [k3, eqF_str]
      simp
  subst e
  refine ⟨s8.f.j.2 _ (.head _), ?_⟩
  have s9 := s8.to (s8.f.put (o' := .dK (KV2 firstK)) (.head _)) (gr_put (.head _))
  rw [put_one] at s9
  have s9 : FS K W H (upd H8 Tb (.dK (KV2 firstK))) _ (S (some tA) (some tR) (some tB) (some (.v (.ref Tb))) (some (.d (.list []))) none) [(Tb, .dK (KV2 firstK))] := s9
  obtain ⟨v3, f3, i3⟩ := s9.st.get 3 (.v (.ref Tb)) rfl
  have i3 : v3 = .ref Tb := i3
  subst i3
  have nF : ¬ (W.fix []).M Tb := fun z => z.elim (s9.f.new _ (.head _)).2 fun ⟨_, h, _⟩ => nomatch h
  have s10 : FS K W H (upd H8 Tb (.dK (KV2 firstK))) _ (S (some tA) (some tR) (some tB) (some (.d (KD firstK))) (some (.d (.list []))) none) [] := ⟨s9.f.drop, StOk.setSelf (s9.st.ext (same_sub (S1 := []) fun _ h => nomatch h)) f3 (a := .d (KD firstK)) (show Dt K (hid (W.fix []).M _) (.ref Tb) (KD firstK) from .dct (by rw [hid_out nF]; exact s9.f.j.2 _ (.head _)) (dtkv_of _))⟩
  dsimp only
  refine seq_in (fs_if s10 (B := (· = false)) (XT.is (xt_or (xt_test (xe_op (xe_kinds (xe_var rfl) fun _ _ _ => rfl) (xe_var rfl) (ox_neDA first_self))) fun _ => xt_test (xe_op (xe_var rfl) (xe_lst (ds := []) xa_nil) (ox_neD sN.1 sN.1 sN.2 sN.2))) (by decide +kernel)) (fun H11 c _ _ => nomatch c) fun H11 _ s11 g11 => ?_)
  dsimp only [tNext]
  let S5 : Option A → Env := fun a => S (some tA) (some tR) (some tB) (some (.d (KD firstK))) (some (.d (.list []))) a
  refine (show XS K (W.fix []) _ (S5 none) No (fun a => a = .d (.bool true)) No No from ?_) _ _ s11.f.j s11.st D (fun _ _ _ _ _ z => z.elim) (fun v H' a f r i => rt v H' a (s11.f.go f).fr r (Is.ext same_out i)) (fun _ _ _ _ _ z => z.elim) fun _ _ _ _ _ z => z.elim
  refine xs_seq (N1 := fun Δ => ∃ x, Δ = S5 x) ?_ ?_
  · refine xs_for (g := gName 5) (Nn := (· = 256)) (Y := fun i a => a = .d (.int (i : Int))) (fun _ _ Δ => ∃ x, Δ = S5 x) (xi_rng (Nn := (· = 256)) (xa_oneM xe_int fun a e => ⟨256, by rw [e], by decide, by decide, rfl⟩)) (fun _ _ => ⟨none, rfl⟩) ?_ fun _ Δ _ h => h
    rintro n i a Δ1 rfl li rfl ⟨x, rfl⟩
    refine ⟨S5 (some (.d (.int (i : Int)))), gx_name, ?_⟩
    obtain ⟨kb, kr⟩ := boxes_ok i li
    have key : ∀ {wd : Str}, XV K (W.fix []) (tTup (tCons (tC (.str wd)) (tCons (tVar 5) tNil))) (S5 (some (.d (.int (i : Int))))) (.t (kD2 wd (.inl (i : Int)))) := fun {wd} => xe_tupK (ds := [.str wd, .int (i : Int)]) (xa_cons (xe_tf xe_str rfl) (xa_cons (xe_tf (xe_var rfl) rfl) xa_nil)) (Nat.le_of_ble_eq_true rfl)
    have s0' : shp (.int 0) := ⟨by decide, by decide⟩
    refine xs_if (b := false) (XT.is (xt_or (xt_test (xe_op (a := .d (.int 0)) (XE.is (xe_worth (w := "box") (p := .inl (i : Int)) (xe_var rfl) (fun _ _ _ => rfl) key kb (fun s e => nomatch e) (by decide) fun e => absurd e (by decide)) (by rw [told_box0])) xe_int (ox_neD s0'.1 s0'.1 s0'.2 s0'.2))) fun _ => xt_test (xe_op (a := .d (.list [])) (XE.is (xe_worth (w := "row") (p := .inl (i : Int)) (xe_var rfl) (fun _ _ _ => rfl) key kr (fun s e => nomatch e) (by decide) fun _ => rows0 _) (by rw [told_row0])) (xe_lst (ds := []) xa_nil) (ox_neD sN.1 sN.1 sN.2 sN.2))) (by decide +kernel)) (fun z => nomatch z) fun _ => xs_next ⟨_, rfl⟩
  rintro Δ' ⟨x, rfl⟩
  obtain ⟨d1, d2, d3⟩ := last3_due
  refine xs_ret (xe_op (XE.is (xe_lcLK (xs := last3) (g := due3) (xe_lstK (ds := last3) (xa_cons xe_key2 (xa_cons xe_key2 (xa_cons xe_key2 xa_nil)))) (by decide) fun D φ d mD hd => ?_) rfl) (xe_lst (ds := [.none, .none, .str "other"]) (xa_cons xe_non (xa_cons xe_non (xa_cons xe_str xa_nil)))) (ox_eqD d2.1 d3.1 d2.2 d3.2)) fun a e => ?_
  · obtain ⟨w9, c9, rfl, k1, k2, k3, k4⟩ := last3_ok d hd
    exact xe_worth (w := w9) (p := .inr c9) (xe_var rfl) (fun _ _ _ => rfl) (xe_var rfl) k1 (fun s e => by cases e; omega) (by omega) fun e => absurd e k4
  · rw [e, d1]

/-! ### what is kept of a book, and what a put does to it -/
def kRep (q : Str × Key) : Str := PyData.shown (kD2 q.1 q.2)
def keptOf (s : Bk) : Sdt := allKeys.map fun q => (kRep q, toldAt s q.1 q.2)
theorem kRep_inj : ∀ q ∈ allKeys, ∀ r ∈ allKeys, kRep q = kRep r → q = r := by decide +kernel
theorem find_map {α β : Type} {f : α → Str} {g : α → β} : ∀ {l : List α}, (∀ q ∈ l, ∀ r ∈ l, f q = f r → q = r) → ∀ q ∈ l, (l.map fun r => (f r, g r)).find? (fun p => decide (p.1 = f q)) = some (f q, g q)
  | [], _, q, h => nomatch h
  | a :: l, inj, q, h => by
    rw [List.map_cons, List.find?_cons]
    by_cases e : f a = f q
    · have := inj a (.head _) q h e
      subst this
      simp
    · have hq : q ∈ l := by
        rcases List.mem_cons.mp h with rfl | h
        · exact absurd rfl e
        · exact h
      simp only [decide_eq_false e]
      exact find_map (fun a ha b hb => inj a (.tail _ ha) b (.tail _ hb)) q hq
theorem getS_kept {s : Bk} {q : Str × Key} (hq : q ∈ allKeys) : getS (keptOf s) (kRep q) = some (toldAt s q.1 q.2) := by
  unfold getS keptOf
  rw [find_map kRep_inj q hq]
  rfl
theorem putD_kept {s s' : Bk} {q : Str × Key} {d : PyData} (hq : q ∈ allKeys) (h : ∀ r ∈ allKeys, toldAt s' r.1 r.2 = if r = q then d else toldAt s r.1 r.2) : putD (keptOf s) (kRep q) d = keptOf s' := by
  unfold putD
  rw [if_pos]
  · unfold keptOf
    rw [List.map_map]
    refine List.map_congr_left fun r hr => ?_
    show (if kRep r = kRep q then (kRep r, d) else (kRep r, toldAt s r.1 r.2)) = (kRep r, toldAt s' r.1 r.2)
    rw [h r hr]
    by_cases e : r = q
    · rw [if_pos (by rw [e]), if_pos e]
    · rw [if_neg fun z => e (kRep_inj r hr q hq z), if_neg e]
  · exact List.any_eq_true.mpr ⟨_, List.mem_map.mpr ⟨q, hq, rfl⟩, decide_eq_true rfl⟩
theorem look_putS (kvs : List (Str × Str)) (k z y j : Str) : look (putS kvs k z) y j = if j = k then z else look kvs y j := by
  unfold look putS
  by_cases a : (kvs.any fun p => decide (p.1 = k)) = true
  · rw [if_pos a]
    induction kvs with
    | nil => simp at a
    | cons p r ih =>
      rw [List.map_cons]
      by_cases e : p.1 = k
      · rw [if_pos e]
        by_cases ej : j = k
        · rw [if_pos ej]
          simp [List.find?_cons, e, ej]
        · rw [if_neg ej]
          have e' : ¬ p.1 = j := fun q => ej (q.symm.trans e)
          simp only [List.find?_cons, decide_eq_false e']
          by_cases zr : (r.any fun p => decide (p.1 = k)) = true
          · have := ih zr
            rw [if_neg ej] at this
            exact this
          · have : (r.map fun p => if p.1 = k then (p.1, z) else p) = r := by
              refine (List.map_congr_left (g := id) fun q hq => ?_).trans (List.map_id r)
              by_cases eq : q.1 = k
              · exact absurd (List.any_eq_true.mpr ⟨q, hq, decide_eq_true eq⟩) zr
              · rw [if_neg eq]; rfl
            rw [this]
      · rw [if_neg e]
        have zr : (r.any fun p => decide (p.1 = k)) = true := by
          rw [List.any_cons, decide_eq_false e, Bool.false_or] at a
          exact a
        have := ih zr
        by_cases ej : p.1 = j
        · have ne : ¬ j = k := fun q => e (ej.trans q)
          rw [if_neg ne]
          simp [List.find?_cons, ej]
        · simp only [List.find?_cons, decide_eq_false ej]
          exact this
  · rw [if_neg a]
    induction kvs with
    | nil =>
      by_cases ej : j = k
      · rw [if_pos ej]; simp [ej]
      · rw [if_neg ej]
        have : ¬ k = j := fun q => ej q.symm
        simp [List.find?_cons, this]
    | cons p r ih =>
      have z1 : ¬ p.1 = k := fun e => a (by rw [List.any_cons, decide_eq_true e]; rfl)
      have z2 : ¬ (r.any fun p => decide (p.1 = k)) = true := fun e => a (by rw [List.any_cons, e, Bool.or_true])
      rw [List.cons_append]
      by_cases ej : p.1 = j
      · have ne : ¬ j = k := fun q => z1 (ej.trans q)
        rw [if_neg ne]
        simp [List.find?_cons, ej]
      · simp only [List.find?_cons, decide_eq_false ej]
        exact ih z2
theorem eqv_bare {w : Str} {d : PyData} (hw : Wok w d) (nk : w ≠ "kind") (h : PyData.eqv (keptD w d) (bareD w) = true) : keptD w d = bareD w := by
  have hi := hw.is
  unfold isWorthD at hi
  rw [eqF_str, eqF_str, eqF_str, decide_eq_false nk, if_neg (by decide)] at hi
  unfold keptD bareD at *
  by_cases h1 : w = "box"
  · subst h1
    rw [if_neg (by decide), if_pos rfl] at h ⊢
    rw [decide_eq_true rfl, if_pos rfl] at hi
    cases d <;> simp [isNumD, isWholeD] at hi
    simp [PyData.eqv] at h
    rw [h]
  · rw [decide_eq_false h1, if_neg (by decide)] at hi
    by_cases h2 : w = "row"
    · subst h2
      rw [if_pos rfl, if_neg (by decide), if_pos rfl] at h ⊢
      rw [decide_eq_true rfl, if_pos rfl] at hi
      cases d <;> simp [isRowWorthD, isRowD] at hi
      rename_i ds
      cases ds with
      | nil => rfl
      | cons a r => simp [PyData.eqv, PyData.eqvAll] at h
    · rw [if_neg h2, if_neg h1, if_neg h2] at h ⊢
      cases d <;> simp [PyData.eqv] at h
      rfl
theorem listed_kept {w : Str} {d : PyData} (hw : Wok w d) : listed w (keptD w d) = d := by
  unfold listed keptD
  by_cases h : w = "row"
  · obtain ⟨ds, rfl⟩ := row_list hw.is h
    rw [if_pos h, if_pos h]
  · rw [if_neg h, if_neg h]
theorem worth_keep {s : Bk} {w : Str} {p : Key} {d : PyData} (hw : Wok w d) (hk : isKeyD (kD2 w p) = true) {w' : Str} {p' : Key} (hk' : isKeyD (kD2 w' p') = true) : worthAt (bkKeep s w p (keptD w d)) w' p' = if w' = w ∧ p' = p then keptD w d else worthAt s w' p' := by
  by_cases k : w = "kind"
  · subst k
    obtain ⟨x, hx⟩ := kind_str hw.is rfl
    rw [hx]
    obtain ⟨c, rfl⟩ : ∃ c, p = .inr c := by
      rcases key_words hk with ⟨_, h⟩ | ⟨h, _⟩ | ⟨h, _⟩ | ⟨h, _⟩ | ⟨h, _⟩
      · exact sign_str h
      all_goals exact absurd h (by decide)
    unfold bkKeep worthAt
    rw [if_pos rfl]
    by_cases k' : w' = "kind"
    · subst k'
      obtain ⟨c', rfl⟩ : ∃ c, p' = .inr c := by
        rcases key_words hk' with ⟨_, h⟩ | ⟨h, _⟩ | ⟨h, _⟩ | ⟨h, _⟩ | ⟨h, _⟩
        · exact sign_str h
        all_goals exact absurd h (by decide)
      rw [if_pos rfl, if_pos rfl]
      show PyData.str (look (if x = "other" then dropS s.tab c else putS s.tab c x) "other" c') = _
      have e : look (if x = "other" then dropS s.tab c else putS s.tab c x) "other" c' = if c' = c then x else look s.tab "other" c' := by
        by_cases o : x = "other"
        · rw [if_pos o, look_drop, o]
        · rw [if_neg o, look_putS]
      rw [e]
      by_cases z : c' = c
      · rw [if_pos z, if_pos ⟨rfl, by rw [z]⟩]
      · rw [if_neg z, if_neg fun h => z (Sum.inr.inj h.2)]
        rfl
    · rw [if_neg k', if_neg k', if_neg (fun h : w' = ("kind" : Str) ∧ p' = .inr c => k' h.1)]
  · unfold bkKeep worthAt
    rw [if_neg k]
    by_cases k' : w' = "kind"
    · rw [if_pos k', if_pos k', if_neg (fun h : w' = w ∧ p' = p => k (h.1.symm.trans k'))]
    · rw [if_neg k', if_neg k']
      have ke : ([Sum.inr w', p'] : List Key) = [.inr w, p] ↔ (w' = w ∧ p' = p) := ⟨fun h => by
        have := List.cons.inj h
        exact ⟨Sum.inr.inj this.1, (List.cons.inj this.2).1⟩, fun h => by rw [h.1, h.2]⟩
      show (getT (if PyData.eqv (keptD w d) (bareD w) = true then dropT s.kp [.inr w, p] else putT s.kp [.inr w, p] (keptD w d)) [.inr w', p']).getD (bareD w') = _
      by_cases b : PyData.eqv (keptD w d) (bareD w) = true
      · rw [if_pos b, getT_drop]
        by_cases z : w' = w ∧ p' = p
        · rw [if_pos (ke.mpr z), if_pos z, eqv_bare hw k b, z.1]
          rfl
        · rw [if_neg fun h => z (ke.mp h), if_neg z]
      · rw [if_neg b, getT_put]
        by_cases z : w' = w ∧ p' = p
        · rw [if_pos (ke.mpr z), if_pos z]
          rfl
        · rw [if_neg fun h => z (ke.mp h), if_neg z]
structure Inv21 (s : Bk) (i : Nat) : Prop where
  tab : s.tab.length ≤ 1000 + i
  kp : s.kp.length ≤ 1000 + i
  rows : ∀ q ∈ allKeys, q.1 = "row" → ∃ ds, worthAt s q.1 q.2 = .tuple ds
  ok : ∀ q ∈ allKeys, Wok q.1 (toldAt s q.1 q.2)
theorem keys_ok : ∀ q ∈ allKeys, isKeyD (kD2 q.1 q.2) = true ∧ q.1.length ≤ 100 ∧ smallD (keyD q.2) = true := by
  have h : (allKeys.all fun q => isKeyD (kD2 q.1 q.2) && decide (q.1.length ≤ 100) && smallD (keyD q.2)) = true := by decide +kernel
  intro q hq
  have := List.all_eq_true.mp h q hq
  simp only [Bool.and_eq_true, decide_eq_true_eq] at this
  exact ⟨this.1.1, this.1.2, this.2⟩
theorem inv0 : Inv21 bk0 0 := by
  refine ⟨by decide +kernel, by decide +kernel, fun q _ e => by rw [e]; exact rows0 _, ?_⟩
  have h : (allKeys.all fun q => wokB q.1 (toldAt bk0 q.1 q.2)) = true := by decide +kernel
  exact fun q hq => wok_of (List.all_eq_true.mp h q hq)
theorem told_keep {s : Bk} {q : Str × Key} {d : PyData} (hw : Wok q.1 d) (hq : q ∈ allKeys) : ∀ r ∈ allKeys, toldAt (bkKeep s q.1 q.2 (keptD q.1 d)) r.1 r.2 = if r = q then d else toldAt s r.1 r.2 := fun r hr => by
  unfold toldAt
  rw [worth_keep hw (keys_ok q hq).1 (keys_ok r hr).1]
  by_cases e : r = q
  · subst e
    rw [if_pos ⟨rfl, rfl⟩, if_pos rfl]
    exact listed_kept hw
  · rw [if_neg fun h => e (Prod.ext h.1 h.2), if_neg e]
theorem inv_keep {s : Bk} {i : Nat} {q : Str × Key} {d : PyData} (iv : Inv21 s i) (hw : Wok q.1 d) (hq : q ∈ allKeys) : Inv21 (bkKeep s q.1 q.2 (keptD q.1 d)) (i + 1) := by
  refine ⟨?_, ?_, fun r hr e => ?_, fun r hr => ?_⟩
  · unfold bkKeep
    split
    · show (if _ then _ else _ : List (Str × Str)).length ≤ _
      split
      · exact Nat.le_trans (List.length_filter_le _ _) (Nat.le_succ_of_le iv.tab)
      · exact Nat.le_trans (putS_len _ _ _) (Nat.succ_le_succ iv.tab)
    · exact Nat.le_succ_of_le iv.tab
  · unfold bkKeep
    split
    · exact Nat.le_succ_of_le iv.kp
    · show (if _ then _ else _ : Kept).length ≤ _
      split
      · exact Nat.le_trans (dropT_len _ _) (Nat.le_succ_of_le iv.kp)
      · exact Nat.le_trans (putT_len _ _ _) (Nat.succ_le_succ iv.kp)
  · rw [worth_keep hw (keys_ok q hq).1 (keys_ok r hr).1]
    by_cases z : r.1 = q.1 ∧ r.2 = q.2
    · rw [if_pos z]
      obtain ⟨ds, rfl⟩ := row_list hw.is (z.1.symm.trans e)
      exact ⟨ds, by unfold keptD; rw [if_pos (z.1.symm.trans e)]⟩
    · rw [if_neg z]
      exact iv.rows r hr e
  · rw [told_keep hw hq r hr]
    by_cases e : r = q
    · rw [if_pos e, e]; exact hw
    · rw [if_neg e]; exact iv.ok r hr

theorem putD_new {sd : Sdt} {k : Str} {d : PyData} (h : k ∉ sd.map (·.1)) : putD sd k d = sd ++ [(k, d)] := by
  unfold putD
  rw [if_neg]
  intro z
  obtain ⟨p, hp, e⟩ := List.any_eq_true.mp z
  exact h (List.mem_map.mpr ⟨p, hp, of_decide_eq_true e⟩)
theorem putD_all : ∀ (l acc : Sdt), ((acc ++ l).map (·.1)).Nodup → l.foldl (fun a p => putD a p.1 p.2) acc = acc ++ l
  | [], acc, _ => by rw [List.append_nil]; rfl
  | p :: l, acc, nd => by
    have h : p.1 ∉ acc.map (·.1) := fun z => by
      rw [List.map_append, List.nodup_append] at nd
      exact nd.2.2 _ z _ (.head _) rfl
    show l.foldl _ (putD acc p.1 p.2) = _
    rw [putD_new h, putD_all l (acc ++ [p]) (by rw [List.append_assoc]; exact nd), List.append_assoc]
    rfl
section
variable {K : PySem.W.Frag} {H : Hp}
theorem DtS.merge {kvs : List (Key × V)} {l : Sdt} (h : DtS K H kvs l) : ∀ {acc : List (Key × V)} {a : Sdt}, DtS K H acc a → DtS K H (mergeK acc kvs) (l.foldl (fun a p => putD a p.1 p.2) a) := by
  induction h with
  | nil => exact fun z => z
  | cons hd _ ih => exact fun z => ih (z.put hd)
theorem pairs_in : ∀ {l : Sdt} {vs : List V}, DtAll K H vs (l.map fun x => PyData.tuple [.str x.1, x.2]) → ∃ ps kvs, vs = ps.map V.ref ∧ Paired (fun p (kv : Key × V) => SqT K H p [kV kv.1, kv.2]) ps kvs ∧ DtS K H kvs l
  | [], _, .nil => ⟨[], [], rfl, .nil, .nil⟩
  | (k, d) :: l, _, .cons h t => by
    obtain ⟨ps, kvs, e, pr, ds⟩ := pairs_in t
    cases h with
    | tup h1 d1 =>
      cases d1 with
      | cons a1 d2 =>
        cases d2 with
        | cons a2 d3 =>
          cases d3
          cases a1
          exact ⟨_ :: ps, (.inr k, _) :: kvs, by rw [e]; rfl, .cons h1 pr, .cons a2 ds⟩
theorem paired_same {H' : Hp} (s : Same H H') : ∀ {ps : List Addr} {kvs : List (Key × V)}, Paired (fun p (kv : Key × V) => SqT K H p [kV kv.1, kv.2]) ps kvs → Paired (fun p (kv : Key × V) => SqT K H' p [kV kv.1, kv.2]) ps kvs
  | _, _, .nil => .nil
  | _, _, .cons h t => .cons (sqT_same s h) (paired_same s t)
end
def rDictP (K : PySem.W.Frag) : List V → Hp → VK → Prop := fun xs H Q => ∃ (a : Addr) (ps : List Addr) (kvs : List (Key × V)), xs = [.ref a] ∧ SqL K H a (ps.map V.ref) ∧ Paired (fun p kv => SqT K H p [kV kv.1, kv.2]) ps kvs ∧ ∀ p, H p = none → Q (.ref p) (upd H p (.dK (mergeK [] kvs)))
theorem fs_dictP {K : PySem.W.Frag} {W : Wd} {H0 H : Hp} {S : Frg} {σ : L2.St} {Δ : Env} {tl : TE} {l : Sdt} {Q : VK} (s : FS K W H0 H σ Δ S) (h : XV K (W.fix S) tl Δ (.d (.list (l.map fun x => PyData.tuple [.str x.1, x.2])))) (nd : (l.map (·.1)).Nodup)
    (q : ∀ F H' kv, FS K W H0 H' σ Δ ((F, .dK kv) :: S) → Gr W H S H' ((F, .dK kv) :: S) → DtS K (hid (W.fix ((F, .dK kv) :: S)).M H') kv l → Q (.ref F) H') : tCB (rDictP K) (tCons tl tNil) σ H Q :=
  s.in h fun v H1 a e s1 g1 i1 => by
    subst e
    cases i1 with
    | lst h1 d1 =>
      obtain ⟨ps, kvs, e, pr, ds⟩ := pairs_in d1
      subst e
      refine ⟨_, ps, kvs, rfl, .inl (.inl (hid_le _ _ h1)), paired_same hid_le pr, fun F nF => ?_⟩
      have m := DtS.merge ds .nil
      rw [putD_all l [] nd] at m
      exact q F _ _ (s1.to (s1.f.cons nF) (gr_cons nF)) (gr_trans g1 (gr_cons nF)) (m.ext (gr_cons nF))
def firstP : PyData → PyData
  | .tuple [.str w, .str c] => firstD w (.inr c)
  | .tuple [.str w, .int i] => firstD w (.inl i)
  | d => d
def pairP (d : PyData) : PyData := .tuple [.str d.shown, firstP d]
theorem pairs_first : keysD.map pairP = (keptOf bk0).map fun x => PyData.tuple [.str x.1, x.2] := by kernel_rfl
theorem kept_nd (s : Bk) : ((keptOf s).map (·.1)).Nodup := by
  have e : (keptOf s).map (·.1) = allKeys.map kRep := by unfold keptOf; rw [List.map_map]; rfl
  rw [e]
  decide +kernel
theorem key_rep : ∀ q ∈ allKeys, (kD2 q.1 q.2).hasDict = false ∧ (kD2 q.1 q.2).showable = true ∧ (kD2 q.1 q.2).depth ≤ 60 ∧ wt (kD2 q.1 q.2) ≤ 1000000 := by
  have h : (allKeys.all fun q => !(kD2 q.1 q.2).hasDict && (kD2 q.1 q.2).showable && decide ((kD2 q.1 q.2).depth ≤ 60) && decide (wt (kD2 q.1 q.2) ≤ 1000000)) = true := by decide +kernel
  intro q hq
  have := List.all_eq_true.mp h q hq
  simp only [Bool.and_eq_true, Bool.not_eq_true', decide_eq_true_eq] at this
  exact ⟨this.1.1.1, this.1.1.2, this.1.2, this.2⟩
theorem firstP_key (w : Str) (p : Key) : firstP (kD2 w p) = firstD w p := by cases p <;> rfl
theorem stOk_less {K : PySem.W.Frag} {M : Addr → Prop} {H : Hp} {σ : L2.St} {Δ Δ' : Env} (s : StOk K M H σ Δ) (l : Δ'.length = Δ.length) (h : ∀ (i : Nat) (a : A), Δ'[i]? = some (some a) → Δ[i]? = some (some a)) : StOk K M H σ Δ' := ⟨by rw [s.len, l], fun i a e => s.get i a (h i a e)⟩
/-- Book(), into the fragment -/
theorem fs_mkBook {K : PySem.W.Frag} {W : Wd} {H0 H : Hp} {S : Frg} {σ : L2.St} {Δ : Env} {C : Addr} {E : XK} {Q : VK} (s : FS K W H0 H σ Δ S)
    (q : ∀ H' x dx t k g kv, FS K W H0 H' σ Δ (bkS C x dx t k g firstK kv [] ++ S) → Gr W H S H' (bkS C x dx t k g firstK kv [] ++ S) → DtT K (hid (W.fix (bkS C x dx t k g firstK kv [] ++ S)).M H') kv meanK → Q (.ref x) H') : tMake C (spIni K C) [] E tNil σ H Q := fun x dx nx ndx ne => by
  have f1 : Fr (W.fix S) H (upd H dx (.own x)) := .new s.f.j ndx
  have s1 := s.go f1
  have nx1 : (upd H dx (.own x)) x = none := by rw [upd_ne ne.symm]; exact nx
  refine ⟨W.fix S, upd H dx (.own x), x, dx, rfl, (FX.nil s1.f.j).cons nx1, fun H' t k g kv fx dt => ⟨rfl, q H' x dx t k g kv (s1.join fx) (gr_trans f1.same (gr_join fx)) ?_⟩⟩
  rw [fix_app]
  exact dt
theorem fs_forRg {K : PySem.W.Frag} {W : Wd} {H0 H : Hp} {S : Frg} {σ : L2.St} {Δ : Env} {D : Ends} {ta : TA} {tb : TS} {k : Nat} {m : Int} (s : FS K W H0 H σ Δ S) (ha : XA K (W.fix S) ta Δ fun as => ∃ n : Int, as = [.d (.int n)] ∧ 0 ≤ n ∧ n < m) (sm : m ≤ 10000) (Pv : Nat → L2.St → Hp → Prop)
    (h0 : ∀ H', FS K W H0 H' σ Δ S → Gr W H S H' S → Pv 0 σ H') (hs : ∀ (i : Nat) σ' H', (i : Int) < m → Pv i σ' H' → tb { D with nx := Pv (i + 1), ct := Pv (i + 1), bk := D.nx } (σ'.set k (some (.int (i : Int)))) H') (hd : ∀ (i : Nat) σ' H', Pv i σ' H' → D.nx σ' H') : tFor (iRng1 ta) (gName k) tb D σ H :=
  ha σ H s.f.j s.st _ fun us H3 as f3 hn i3 => by
    obtain ⟨n, rfl, n0, n1⟩ := hn
    cases i3 with
    | cons i4 i5 =>
      cases i5
      cases i4
      refine ⟨n, rfl, by omega, by omega, for_range Pv (h0 H3 (s.go f3) f3.same) (fun i σ' H' hi p => ?_) fun σ' H' p => hd _ σ' H' p⟩
      show tb _ (σ'.set k (some (.int (0 + (i : Int))))) H'
      rw [Int.zero_add]
      exact hs i σ' H' (by omega) p

section
variable {K : PySem.W.Frag} {W : Wd} {H0 H : Hp} {S L : Frg} {σ : L2.St} {Δ : Env} {D : Ends} {te : TE} {ts tu : TS} {C b dx tb k g F : Addr} {tab tab' : Kds} {kv kv' : List (List Key × V)} {kd kd' : List (Key × V)}
theorem via_ifnn (h : te σ H fun x H1 => rIsNotNo x .non H1 fun z H3 => ∃ b, z = .bl b ∧ if b = true then ts D σ H3 else tu D σ H3) : tIfS (tTest (tOp rIsNotNo te (tC .non))) ts tu D σ H := h
abbrev sx (C F b dx tb k g : Addr) (kd : List (Key × V)) (tab : Kds) (kv : List (List Key × V)) : Frg := (F, .dK kd) :: bkS C b dx tb k g tab kv []
structure Nd21 (L : Frg) (F b tb k g : Addr) : Prop where
  l : ∀ q ∈ L, q.1 ≠ F ∧ q.1 ≠ tb ∧ q.1 ≠ k
  f : F ≠ g ∧ F ≠ k ∧ F ≠ tb ∧ F ≠ b
  g : g ≠ k ∧ g ≠ tb ∧ g ≠ b
  k : k ≠ tb ∧ k ≠ b
  t : tb ≠ b
theorem nd21 (nd : ((L ++ sx C F b dx tb k g kd tab kv).map (·.1)).Nodup) : Nd21 L F b tb k g := by
  rw [List.map_append, List.nodup_append] at nd
  obtain ⟨_, h2, h3⟩ := nd
  have m : ∀ q ∈ L, ∀ x ∈ [F, g, k, tb, b], q.1 ≠ x := fun q hq x hx => h3 q.1 (List.mem_map.mpr ⟨q, hq, rfl⟩) x hx
  have h2 : [F, g, k, tb, b].Nodup := h2
  simp only [List.nodup_cons, List.mem_cons, not_or] at h2
  obtain ⟨⟨a1, a2, a3, a4, _⟩, ⟨b1, b2, b3, _⟩, ⟨c1, c2, _⟩, ⟨d1, _⟩, _⟩ := h2
  exact ⟨fun q hq => ⟨m q hq F (by simp), m q hq tb (by simp), m q hq k (by simp)⟩, ⟨a1, a2, a3, a4⟩, ⟨b1, b2, b3⟩, ⟨c1, c2⟩, d1⟩
theorem put_app' {S S' : Frg} {a : Addr} {o : HO} : Frg.put (S ++ S') a o = Frg.put S a o ++ Frg.put S' a o := List.map_append
theorem put_hd' {S : Frg} {a : Addr} {o u : HO} : Frg.put ((a, u) :: S) a o = (a, o) :: S.put a o := by
  unfold Frg.put
  rw [List.map_cons, if_pos rfl]
theorem put_tab (n : Nd21 L F b tb k g) : (L ++ sx C F b dx tb k g kd tab kv).put tb (.dK (KV2 tab')) = L ++ sx C F b dx tb k g kd tab' kv := by
  rw [put_app', put_no fun q hq => (n.l q hq).2.1]
  unfold sx bkS
  rw [put_cons n.f.2.2.1, put_cons n.g.2.1, put_cons n.k.1, put_hd', put_cons n.t.symm]
  rfl
theorem put_kep (n : Nd21 L F b tb k g) : (L ++ sx C F b dx tb k g kd tab kv).put k (.dT kv') = L ++ sx C F b dx tb k g kd tab kv' := by
  rw [put_app', put_no fun q hq => (n.l q hq).2.2]
  unfold sx bkS
  rw [put_cons n.f.2.1, put_cons n.g.1, put_hd', put_cons n.k.1.symm, put_cons n.k.2.symm]
  rfl
theorem put_dic (n : Nd21 L F b tb k g) : (L ++ sx C F b dx tb k g kd tab kv).put F (.dK kd') = L ++ sx C F b dx tb k g kd' tab kv := by
  rw [put_app', put_no fun q hq => (n.l q hq).1]
  unfold sx bkS
  rw [put_hd', put_cons n.f.1.symm, put_cons n.f.2.1.symm, put_cons n.f.2.2.1.symm, put_cons n.f.2.2.2.symm]
  rfl
theorem bkPut_S {s' : Bk} (n : Nd21 L F b tb k g) : bkPut (L ++ sx C F b dx tb k g kd tab kv) tb k s' kv' = L ++ sx C F b dx tb k g kd s'.tab kv' := by
  unfold bkPut
  rw [put_tab n, put_kep n]
theorem bkIn_S {s : Bk} : BkIn C b dx tb k g s kv [] (L ++ sx C F b dx tb k g kd s.tab kv) :=
  ⟨List.mem_append_right _ (.tail _ (.tail _ (.tail _ (.tail _ (.head _))))), List.mem_append_right _ (.tail _ (.tail _ (.tail _ (.head _)))), List.mem_append_right _ (.tail _ (.tail _ (.head _))), List.mem_append_right _ (.tail _ (.head _))⟩
/-- the worth drawn: data that is no list, or a list of one's own -/
def Drawn (L : Frg) (d : PyData) (a : A) : Prop := (L = [] ∧ a = .d d ∧ kitB (tyN d) "list" = some false) ∨ ∃ p vs ds, L = [(p, .lst vs)] ∧ a = .w (.ref p) vs ds ∧ d = .list ds
theorem Drawn.arg {d : PyData} {a : A} (h : Drawn L d a) : WArg (L ++ S) d a := by
  rcases h with ⟨_, e, _⟩ | ⟨p, vs, ds, e1, e2, e3⟩
  · exact .inl e
  · exact .inr ⟨p, vs, ds, e2, e3, List.mem_append_left _ (by rw [e1]; exact .head _)⟩
theorem notlist {w : Str} {d : PyData} (h : isWorthD w d = true) (n : w ≠ "row") : kitB (tyN d) "list" = some false := by
  rw [kit_list]
  cases d with
  | list ds => exact absurd (row_of h) n
  | _ => rfl
/-- isinstance(worth, list) -/
theorem xe_isDrawn {d : PyData} {a : A} {i : Nat} (h : Drawn L d a) (e : Δ[i]? = some (some a)) : XV K (W.fix (L ++ S)) (tCB (rIsi K) (tCons (tVar i) (tCons (tC (.ty "list")) tNil))) Δ (.d (.bool (!L.isEmpty))) := by
  rcases h with ⟨rfl, rfl, hn⟩ | ⟨p, vs, ds, rfl, rfl, rfl⟩
  · exact xe_isi (xe_var e) hn
  · exact xe_isiO (p := p) (List.mem_append_left _ (.head _)) e (kit_list (.list ds))
/-- list(worth) if isinstance(worth, list) else worth -/
theorem xe_copied {d : PyData} {a : A} {i : Nat} (h : Drawn L d a) (e : Δ[i]? = some (some a)) : XV K (W.fix (L ++ S)) (tIf (tB (tCB (rIsi K) (tCons (tVar i) (tCons (tC (.ty "list")) tNil)))) (tCB (rLstOf K) (tCons (tVar i) tNil)) (tVar i)) Δ (.d d) := by
  refine xe_if (xt_B (xe_isDrawn h e)) (fun c => ?_) fun c => ?_
  · rcases h with ⟨rfl, _⟩ | ⟨p, vs, ds, rfl, rfl, rfl⟩
    · cases c
    · exact xe_lstO (p := p) (List.mem_append_left _ (.head _)) e
  · rcases h with ⟨rfl, rfl, _⟩ | ⟨p, vs, ds, rfl, rfl, rfl⟩
    · exact xe_var e
    · cases c
/-- if isinstance(worth, list): worth.append(None) -/
theorem fs_appDrawn {d : PyData} {a : A} {i : Nat} (s : FS K W H0 H σ Δ (L ++ S)) (h : Drawn L d a) (e : Δ[i]? = some (some a)) (sm : ∀ ds, d = .list ds → ds.length ≤ 10000) (q : ∀ H', FS K W H0 H' σ Δ S → Gr W H (L ++ S) H' S → D.nx σ H') :
    tIfS (tB (tCB (rIsi K) (tCons (tVar i) (tCons (tC (.ty "list")) tNil)))) (tDrop (tBM K "list" rAppend (tVar i) (tCons (tC .non) tNil))) tNext D σ H := by
  refine fs_if s (xt_B (xe_isDrawn h e)) (fun H1 c s1 g1 => ?_) fun H1 c s1 g1 => ?_
  · rcases h with ⟨rfl, _⟩ | ⟨p, vs, ds, rfl, rfl, rfl⟩
    · cases c
    · obtain ⟨v0, e0, i0⟩ := s1.st.get i _ e
      obtain ⟨e1, dd⟩ := is_w i0
      subst e1
      have hl : vs.length ≤ 10000 := by rw [dd.length]; exact sm ds rfl
      refine ⟨_, e0, .inl ⟨rfl, _, .inl (.inl (s1.f.j.2 _ (.head _)))⟩, fs_app s1 (.head _) (Nat.lt_of_le_of_lt hl (by decide)) fun s2 g2 => ?_⟩
      have nd := s1.f.nd
      rw [show ([(p, HO.lst vs)] ++ S : Frg) = (p, HO.lst vs) :: S from rfl] at s2 g2 nd
      rw [put_hdN nd] at s2 g2
      exact q _ s2.drop (gr_drop (gr_trans g1 g2))
  · rcases h with ⟨rfl, rfl, _⟩ | ⟨p, vs, ds, rfl, rfl, rfl⟩
    · exact q _ s1 g1
    · cases c
end
theorem rowW_len (n : Nat) : (rowW.take n).length ≤ 10000 := by rw [List.length_take]; exact Nat.le_trans (Nat.min_le_right _ _) (by decide)
theorem wd_in {K : PySem.W.Frag} {W : Wd} {H0 H : Hp} {S : Frg} {σ : L2.St} {Δ : Env} {E : XK} {ta : TA} {pa : Addr} {w : Str} {Q : VK} (s : FS K W H0 H σ Δ S) (hp : HasPool (W.fix S) pa) (hw : w = "kind" ∨ w = "active" ∨ w = "name" ∨ w = "box" ∨ w = "row") (ha : XAs K (W.fix S) ta Δ [.v (.ref pa), .d (.str w)])
    (q : ∀ L a d v H', FS K W H0 H' σ Δ (L ++ S) → Gr W H S H' (L ++ S) → Is K (W.fix (L ++ S)).M H' v a → Drawn L d a → Wok w d → Q v H') : tCall (spWd K) [] E ta σ H Q :=
  ha σ H s.f.j s.st _ fun us H7 as f7 e i7 => by
    subst e
    have s7 := s.go f7
    refine ⟨W.fix S, pa, w, ?_, s7.f.j, hp, hw, fun n v H' d f wk i => ?_, fun e p H' vs n hn fx dt => ?_⟩
    · cases i7 with
      | cons h1 i8 =>
        cases i8 with
        | cons h2 i9 =>
          cases i9
          cases h2
          have e : _ = V.ref pa := h1
          rw [e]
          rfl
    · exact q [] (.d d) d v H' (s7.go f) (gr_trans f7.same f.same) i (.inl ⟨rfl, rfl, notlist wk.is n⟩) wk
    · refine q [(p, .lst vs)] (.w (.ref p) vs (rowW.take n)) (.list (rowW.take n)) (.ref p) H' (s7.join fx) (gr_trans f7.same (gr_join fx)) ⟨rfl, ?_⟩ (.inr ⟨p, vs, _, rfl, rfl, rfl⟩) (by rw [e]; exact wok_of (rowW_ok n hn))
      rw [fix_app]
      exact dt

section
variable {K : PySem.W.Frag} {W : Wd} {H0 H H' : Hp} {S S1 S2 L : Frg} {σ : L2.St} {Δ : Env} {E : XK} {D : Ends} {te ty to : TE} {Q : VK} {C : Addr} {s : Bk} {G : Vis} {w m : Str} {p : Key}
theorem gr_joinP (f : FX W H0 H S) (h1 : ∀ p ∈ S1, p ∈ S) (g : FX (W.fix S1) H H' S2) : Gr W H S H' (S2 ++ S) := fun a o e => by
  by_cases m : (W.fix S).M a
  · rw [hid_in m] at e; cases e
  · rw [hid_out m] at e
    have n2 : ¬ (W.fix (S2 ++ S)).M a := by
      rw [fix_app]
      rintro (z | ⟨p, hp, q⟩)
      · exact m z
      · have := (g.new p hp).1
        rw [q, e] at this
        cases this
    rw [hid_out n2]
    refine g.keep a o (fun z => ?_) e
    rcases z with (z | ⟨q, hq, e'⟩) | ⟨q, hq, e'⟩
    · exact m (.inl z)
    · exact m (.inr ⟨q, h1 q hq, e'⟩)
    · have := (g.new q hq).1
      rw [e', e] at this
      cases this
theorem worth_in (z : FS K W H0 H σ Δ S) (h : XV K (W.fix S) te Δ (.o (bkV K C s G))) (hm : ∀ t k g, (bkF t k g).lookup m = none) (hy : XV K (W.fix S) ty Δ (.t (kD2 w p))) (hk : isKeyD (kD2 w p) = true) (l1 : strS 100000 (keyD p)) (l2 : w.length ≤ 100000) (rows : w = "row" → ∃ ds, worthAt s w p = .tuple ds) (nl : w ≠ "row" → kitB (tyN (toldAt s w p)) "list" = some false)
    (q : ∀ L a v H', FS K W H0 H' σ Δ (L ++ S) → Gr W H S H' (L ++ S) → Is K (W.fix (L ++ S)).M H' v a → Drawn L (toldAt s w p) a → Q v H') : tMeth C m (spWorth K C) [] E te (tCons ty tNil) σ H Q :=
  z.in h fun v H1 a e s1 g1 i => by
    subst e
    have i0 := i
    obtain ⟨b, dx, t, k, gg, rfl, hb, h1, h2, h3⟩ := i
    refine ⟨b, dx, _, rfl, (hid_some hb).2, hm t k gg, s1.in hy fun v2 H2 a e s2 g2 i2 => ?_⟩
    subst e
    refine ⟨W.fix S, s, G, w, p, s2.f.j, .cons (i0.ext (M' := (W.fix S).M) g2) (.cons i2 .nil), hk, l1, l2, fun ne v H' f i => ?_, fun e => ?_⟩
    · refine q [] (.d (toldAt s w p)) v H' (s2.go f) (gr_trans (gr_trans g1 g2) f.same) ?_ (.inl ⟨rfl, rfl, nl ne⟩)
      show Is K (W.fix S).M H' v (.d (listed w _))
      unfold listed
      rw [if_neg ne]
      exact i
    · obtain ⟨ds, ed⟩ := rows e
      have et : toldAt s w p = .list ds := by unfold toldAt listed; rw [if_pos e, ed]
      refine ⟨ds, ed, fun q' H' vs fx dt => ?_⟩
      refine q [(q', .lst vs)] (.w (.ref q') vs ds) (.ref q') H' (s2.join fx) (gr_trans (gr_trans g1 g2) (gr_join fx)) ⟨rfl, ?_⟩ (.inr ⟨q', vs, ds, rfl, rfl, et⟩)
      rw [fix_app]
      exact dt
/-- repr(told) against repr of what is kept: the same -/
theorem told_same {d : PyData} {a : A} {tb : TE} {i : Nat} {x : Str} {Q' : Bool → Hp → Prop} (z : FS K W H0 H σ Δ (L ++ S)) (h : Drawn L d a) (e : Δ[i]? = some (some a)) (ex : d.shown = x) (wk : d.hasDict = false ∧ d.showable = true ∧ d.depth ≤ 60 ∧ wt d ≤ 1000000)
    (hb : ∀ {S' : Frg} {Δ' : Env}, (∀ j, j ≠ i → Δ'[j]? = Δ[j]?) → XV K (W.fix S') tb Δ' (.d (.str x))) (q : ∀ H', FS K W H0 H' σ Δ (L ++ S) → Gr W H (L ++ S) H' (L ++ S) → Q' false H') : tTest (tOp rNe (tCB (rRepr K) (tCons (tVar i) tNil)) tb) σ H Q' := by
  have t : ∀ {S' : Frg} {Δ' : Env}, Δ'[i]? = some (some (.d d)) → (∀ j, j ≠ i → Δ'[j]? = Δ[j]?) → XT K (W.fix S') (tTest (tOp rNe (tCB (rRepr K) (tCons (tVar i) tNil)) tb)) Δ' (· = false) := fun {S' Δ'} e1 e2 =>
    XT.is (xt_test (xe_op (xe_cb (xa_cons (xe_var e1) xa_nil) (cx_repr wk.1 wk.2.1 wk.2.2.1 wk.2.2.2)) (hb e2) (ox_ne rfl rfl rfl))) (by rw [eqF_str, ex]; simp)
  rcases h with ⟨rfl, rfl, _⟩ | ⟨p, vs, ds, rfl, rfl, rfl⟩
  · refine t e (fun _ _ => rfl) σ H z.f.j z.st Q' fun b H1 f hb => ?_
    subst hb
    exact q H1 (z.go f) f.same
  · obtain ⟨h1, st'⟩ := own_seen z (List.mem_append_left _ (.head _)) e
    have li : i < Δ.length := (List.getElem?_eq_some_iff.mp e).1
    refine z.partT h1 st' (t (List.getElem?_set_self li) fun j hj => List.getElem?_set_ne (Ne.symm hj)) fun b H1 hb z1 g1 => ?_
    have hb : b = false := hb
    subst hb
    exact q H1 z1 g1
theorem fs_clear {i : Nat} {t : Addr} {kv : List (Key × V)} (z : FS K W H0 H σ Δ ((t, .dK kv) :: S)) (e : Δ[i]? = some (some (.v (.ref t)))) (q : ∀ H', FS K W H0 H' σ Δ S → Gr W H ((t, .dK kv) :: S) H' S → D.nx σ H') : tDrop (tBM0 K "dict" rDClear (tVar i)) D σ H := by
  obtain ⟨v0, e0, i0⟩ := z.st.get i _ e
  have i0 : v0 = .ref t := i0
  subst i0
  have nd := z.f.nd
  have z1 := z.to (z.f.put (o' := .dK []) (.head _)) (gr_put (.head _))
  have g1 := gr_put (W := W) (H := H) (S := (t, .dK kv) :: S) (o' := .dK []) (.head _)
  rw [put_hdN nd] at z1 g1
  exact ⟨_, e0, .inr (.inr (.inl ⟨rfl, .inl ⟨_, z.f.j.2 _ (.head _)⟩⟩)), t, kv, rfl, rfl, z.f.j.2 _ (.head _), q _ z1.drop (gr_drop g1)⟩
end
theorem via_ifS {tt : TT} {ts tu : TS} {D : Ends} {σ : L2.St} {H : Hp} (h : tt σ H fun b H1 => if b = true then ts D σ H1 else tu D σ H1) : tIfS tt ts tu D σ H := h
theorem signs3 : ∀ i c : Nat, ("a~1" : Str).cps[i]? = some c → (("kind", .inr (oneS c)) : Str × Key) ∈ allKeys
  | 0, c, h => by cases h; exact .head _
  | 1, c, h => by cases h; exact .tail _ (.head _)
  | 2, c, h => by cases h; exact .tail _ (.tail _ (.head _))
  | n + 3, c, h => by
    have e : ("a~1" : Str).cps.size = 3 := rfl
    rw [Array.getElem?_eq_none (by omega)] at h
    cases h

theorem stOk_blank {K : PySem.W.Frag} {M : Addr → Prop} {H : Hp} {σ : L2.St} (n : Nat) (l : σ.length = n) : StOk K M H σ (List.replicate n none) := ⟨by rw [l, List.length_replicate], fun i a e => by
  rw [List.getElem?_replicate] at e
  split at e <;> cases e⟩
theorem StOk.forget {K : PySem.W.Frag} {M : Addr → Prop} {H : Hp} {σ : L2.St} {Δ : Env} (s : StOk K M H σ Δ) (k : Nat) : StOk K M H σ (Δ.set k none) := ⟨by rw [List.length_set]; exact s.len, fun i a e => by
  by_cases z : k = i
  · subst z
    rw [List.getElem?_set] at e
    split at e
    · split at e <;> cases e
    · exact s.get _ a e
  · rw [List.getElem?_set_ne z] at e
    exact s.get i a e⟩
theorem ok_l_right (T : Top w K mg f fd) : FnG P w K mg base CX0 11 (f 36) (fd 36) ["_law_pool_here"] (spD K preKey (fun _ a => a = .d (.bool true))) := by
  refine okDG T.F_l_right sc_l_right (fun W as p => ?_) (fun cdv Ar outer s H E hr ng => ⟨_, (pss_cons (ps_set (i := 1) sc_l_right.nd rfl (Or.inl rfl) (pe_make0 T.M_Book (ok_Book_init T) (hr.mono (by omega)) (by rfl) T.g_Book (b_Book_init T) .nil pass0))
      (pss_cons (ps_set (i := 2) sc_l_right.nd rfl (Or.inl rfl) (pe_callTy (show CallR _ (.type "dict") (rDictP K) from call_dictP rfl) (by rfl) T.z_dict (by decide +kernel) (pa_cons (pe_lc (own := [("_law_key_here", 4)]) (g := gName 4) (tt := tYes) (by rfl) sc_l_right.nd (pi_list (pe_call0 (ok_l_every T) (hr.mono (by omega)) (by rfl) T.g_l_every T.F_l_every.kp (b_l_every T) .nil pass0)) (blkOk_by (own := [("_law_key_here", 4)]) (N := ["_law_pool_here", "_law_book", "_law_kept", "_law_turn", "_law_key_here", "_law_worth_here", "_law_other", "_law_told", "_law_table", "_law_sign"]) (sc := defScope s_l_right) (by decide +kernel)) (fun _ _ _ _ _ => pg_name (i := 4) sc_l_right.nd rfl (Or.inl rfl)) (fun _ _ _ _ _ => pts_nil) (fun _ _ _ _ _ => (pe_tup (pa_cons (pe_callB (show CallR _ (.builtin "repr") (rRepr K) from (call_repr ng hr.units)) (by rfl) T.z_repr (by decide +kernel) (pa_cons (pv 4) pa_nil)) (pa_cons (pe_call (ok_l_first T) (hr.mono (by omega)) (by rfl) T.g_l_first T.F_l_first.kp (b_l_first T) .nil pass0 (pa_cons (pv 4) pa_nil)) pa_nil))))) pa_nil)))
      (pss_cons (ps_for PassesOwn.never rfl (pi_range1 (by rfl) T.z_range (pa_cons (pe_call (ok_l_take T) (hr.mono (by omega)) (by rfl) T.g_l_take T.F_l_take.kp (b_l_take T) .nil pass0 (pa_cons (pv 0) (pa_cons pe_int pa_nil))) pa_nil)) (pg_name (i := 3) sc_l_right.nd rfl (Or.inl rfl)) (pss_cons (ps_set (i := 4) sc_l_right.nd rfl (Or.inl rfl) (pe_call (ok_l_key T) (hr.mono (by omega)) (by rfl) T.g_l_key T.F_l_key.kp (b_l_key T) .nil pass0 (pa_cons (pv 0) pa_nil)))
      (pss_cons (ps_set (i := 5) sc_l_right.nd rfl (Or.inl rfl) (pe_call (ok_l_worth T) (hr.mono (by omega)) (by rfl) T.g_l_worth T.F_l_worth.kp (b_l_worth T) .nil pass0 (pa_cons (pv 0) (pa_cons (pe_ix ix_tup (pv 4) pe_int (fun _ _ => rfl)) pa_nil))))
      (pss_cons (ps_if (pt_cmpR o_notN (pe_meth (pv 1) T.cl_Book T.m_Book_put (ok_Book_put T) hr (b_Book_put T).choose_spec.2 (b_Book_put T).choose_spec.1 pass0 (pa_cons (pv 4) (pa_cons (pv 5) pa_nil))) pe_non (nomark _)) (pss_one (ps_ret pe_bl)) pss_nil)
      (pss_cons (ps_dput (hu_of hr) (pv 2) (pe_callB (call_repr ng hr.units) (by rfl) T.z_repr (by decide +kernel) (pa_cons (pv 4) pa_nil)) (pe_ifExp (pt_val (pe_callB call_isi (by rfl) T.z_isinstance (by decide +kernel) (pa_cons (pv 5) (pa_cons (pe_bltn (v := .ty "list") (by rfl) T.z_list (by decide +kernel) rfl) pa_nil)))) (pe_callTy c_lst (by rfl) T.z_list (by decide +kernel) (pa_cons (pv 5) pa_nil)) (pv 5)) rfl)
      (pss_cons (ps_if (pt_val (pe_callB call_isi (by rfl) T.z_isinstance (by decide +kernel) (pa_cons (pv 5) (pa_cons (pe_bltn (v := .ty "list") (by rfl) T.z_list (by decide +kernel) rfl) pa_nil)))) (pss_one (ps_expr (pe_bm PySem.F.plainAttrs_list PySem.F.slot_list_append PySem.F.type_list_append mt_append (pv 5) (pa_cons pe_non pa_nil)))) pss_nil)
      (pss_cons (ps_for PassesOwn.never rfl (pi_list (pe_call0 (ok_l_every T) (hr.mono (by omega)) (by rfl) T.g_l_every T.F_l_every.kp (b_l_every T) .nil pass0)) (pg_name (i := 6) sc_l_right.nd rfl (Or.inl rfl)) (pss_cons (ps_set (i := 7) sc_l_right.nd rfl (Or.inl rfl) (pe_meth (pv 1) T.cl_Book T.m_Book_worth (ok_Book_worth T) (hr.mono (by omega)) (b_Book_worth T) .nil pass0 (pa_cons (pv 6) pa_nil)))
      (pss_cons (ps_if (pt_cmpR op_ne (pe_callB (call_repr ng hr.units) (by rfl) T.z_repr (by decide +kernel) (pa_cons (pv 7) pa_nil)) (pe_callB (call_repr ng hr.units) (by rfl) T.z_repr (by decide +kernel) (pa_cons (pe_dget (hu_of hr) (pv 2) (pe_callB (call_repr ng hr.units) (by rfl) T.z_repr (by decide +kernel) (pa_cons (pv 6) pa_nil)) (fun _ _ => rfl)) pa_nil)) (nomark _)) (pss_one (ps_ret pe_bl)) pss_nil)
      (pss_one (ps_if (pt_val (pe_callB call_isi (by rfl) T.z_isinstance (by decide +kernel) (pa_cons (pv 7) (pa_cons (pe_bltn (v := .ty "list") (by rfl) T.z_list (by decide +kernel) rfl) pa_nil)))) (pss_one (ps_expr (pe_bm PySem.F.plainAttrs_list PySem.F.slot_list_append PySem.F.type_list_append mt_append (pv 7) (pa_cons pe_non pa_nil)))) pss_nil)))))
      (pss_cons (ps_set (i := 8) sc_l_right.nd rfl (Or.inl rfl) (pe_meth0 (pv 1) T.cl_Book T.m_Book_kinds (ok_Book_kinds T) (hr.mono (by omega)) (b_Book_kinds T) .nil pass0))
      (pss_cons (ps_for PassesOwn.never rfl (pi_str pe_str) (pg_name (i := 9) sc_l_right.nd rfl (Or.inl rfl)) (pss_one (ps_if (pt_cmpR op_ne (pe_dget2 (hu_of hr) (pv 8) (pv 9) pe_str ⟨rfl, rfl, rfl, rfl⟩) (pe_dget (hu_of hr) (pv 2) (pe_callB (call_repr ng hr.units) (by rfl) T.z_repr (by decide +kernel) (pa_cons (pe_tup (pa_cons pe_str (pa_cons (pv 9) pa_nil))) pa_nil)) (fun _ _ => rfl)) (nomark _)) (pss_one (ps_ret pe_bl)) pss_nil)))
      (pss_one (ps_expr (pe_dclear (pv 8)))))))))))))
      (pss_one (ps_ret pe_bl))))), fun W as p => ?_⟩)
  · obtain ⟨_, rfl, _⟩ := p; rfl
  obtain ⟨pa, rfl, hp⟩ := p
  intro σ H j st D nx rt bk ct
  let Z : Option A → Option A → Env := fun a1 a2 => [some (.v (.ref pa)), a1, a2, none, none, none, none, none, none, none]
  have s0 : FS K W H H σ (Z none none) [] := FS.nil j st
  have pf : ∀ {H' : Hp} {S : Frg}, FX W H H' S → HasPool (W.fix S) pa := fun f => HasPool.fix hp fun p h => (f.new p h).2
  refine seq_in (via_asg (fs_mkBook s0 fun H1 b dx tb k g kv s1 g1 dt1 => ?_))
  have s1 : FS K W H H1 _ (Z (some (.v (.ref b))) none) (bkS (f 47) b dx tb k g firstK kv []) := s1.put (i := 1) (v := .ref b) (a := .v (.ref b)) rfl
  refine seq_in (via_asg (fs_dictP (l := keptOf bk0) s1 (XE.is (xe_lcLK (xs := keysD) (g := pairP) (XE.is (xe_callg (pre := pre_l_every) (post := post_l_every) (E := E0) () xa_nil rfl) rfl) (by decide) fun D φ d mD hd => ?_) (by rw [pairs_first])) (kept_nd _) fun F H2 kd s2 g2 ds2 => ?_))
  · obtain ⟨q, hq, rfl⟩ := List.mem_map.mp hd
    obtain ⟨r1, r2, r3, r4⟩ := key_rep q hq
    refine XE.is (xe_tup (ds := [.str (PyData.shown (kD2 q.1 q.2)), firstD q.1 q.2]) (xa_cons (xe_cb (xa_cons (xe_td (xe_var rfl)) xa_nil) (cx_repr r1 r2 r3 r4)) (xa_cons (XE.mono (xe_callg (pre := pre_l_first) (post := post_l_first) (E := E0) (q.1, q.2) (xa_cons (xe_var rfl) xa_nil) ⟨rfl, (keys_ok q hq).1⟩) fun a e => e) xa_nil)) (Nat.le_of_ble_eq_true rfl)) ?_
    show A.d (.tuple [.str (PyData.shown (kD2 q.1 q.2)), firstD q.1 q.2]) = A.d (.tuple [.str (PyData.shown (kD2 q.1 q.2)), firstP (kD2 q.1 q.2)])
    rw [firstP_key]
  have s2 : FS K W H H2 _ (Z (some (.v (.ref b))) (some (.v (.ref F)))) ((F, .dK kd) :: bkS (f 47) b dx tb k g firstK kv []) := s2.put (i := 2) (v := .ref F) (a := .v (.ref F)) rfl
  have dt2 := dt1.ext g2
  let Sx : Kds → List (List Key × V) → List (Key × V) → Frg := fun tab kv kd => (F, .dK kd) :: bkS (f 47) b dx tb k g tab kv []
  let No' : A → Prop := fun _ => False
  let Zb : Env := Z (some (.v (.ref b))) (some (.v (.ref F)))
  let Pv : Nat → L2.St → Hp → Prop := fun i σ' H' => ∃ s kv kd, FS K W H H' σ' Zb (Sx s.tab kv kd) ∧ DtT K (hid (W.fix (Sx s.tab kv kd)).M H') kv s.kp ∧ DtS K (hid (W.fix (Sx s.tab kv kd)).M H') kd (keptOf s) ∧ Inv21 s i
  have p0 : Pv 0 _ H2 := ⟨bk0, kv, kd, s2, dt2, ds2, inv0⟩
  dsimp only
  refine seq_in (fs_forRg (m := 21) s2 (xa_oneM (xe_tk (i := 0) (m := 21) rfl (pf s2.f) (by decide) (by decide)) fun a ⟨n, e, h⟩ => ⟨n, by rw [e], h⟩) (by decide) Pv (fun H3 s3 g3 => ⟨bk0, kv, kd, s3, dt2.ext g3, ds2.ext g3, inv0⟩) (fun i σ4 H4 hi ⟨s, kv4, kd4, s4, dt4, ds4, iv⟩ => ?_) fun i σ4 H4 ⟨s, kv', kd', s4, _, _, _⟩ => ?_)
  rotate_left
  · exact fs_ret s4 xe_bl fun v H' a e s5 g5 i5 => rt v H' a s5.f.fr e (Is.ext same_out i5)
  have s5 := s4.put (i := 3) (v := .int (i : Int)) (a := .d (.int (i : Int))) (.int _)
  refine seq_in (fs_asg s5 (xe_call (pre := preKey) (post := postKey) (E := E0) (xa_cons (xe_var rfl) xa_nil) ⟨pa, rfl, pf s5.f⟩) fun v6 H6 a ⟨q, hq, e⟩ s6 g6 => ?_)
  subst e
  dsimp only
  obtain ⟨kq, lq, sq⟩ := keys_ok q hq
  have words : q.1 = "kind" ∨ q.1 = "active" ∨ q.1 = "name" ∨ q.1 = "box" ∨ q.1 = "row" := by
    rcases key_words kq with ⟨h, _⟩ | ⟨h, _⟩ | ⟨h, _⟩ | ⟨h, _⟩ | ⟨h, _⟩
    · exact .inl h
    · exact .inr (.inl h)
    · exact .inr (.inr (.inl h))
    · exact .inr (.inr (.inr (.inl h)))
    · exact .inr (.inr (.inr (.inr h)))
  refine seq_in (via_asg (wd_in s6 (pf s6.f) words (xa_cons (xe_var rfl) (xa_cons (xe_op (xe_td (xe_var rfl)) xe_int (ox_ixT (by decide) rfl)) xa_nil)) fun L a d v7 H7 s7 g7 i7 dr wk => ?_))
  have s8 := s7.put (i := 5) i7
  dsimp only
  have iw := inv_keep iv wk hq
  have nd8 := nd21 s8.f.nd
  have it := iv.tab
  have ik := iv.kp
  have lT : s.tab.length ≤ 100000 ∧ s.kp.length ≤ 100000 := ⟨by omega, by omega⟩
  have hqS : strS 100000 (keyD q.2) := fun x e => by
    rw [e] at sq
    exact Nat.le_trans (of_decide_eq_true sq) (by decide)
  refine seq_in (via_ifnn (put_in s8 bkIn_S rfl (dt4.ext (gr_trans g6 g7)) lT kq ⟨hqS, by omega⟩ ⟨wk.is, wk.m, wk.l⟩ wk.k dr.arg (xe_var rfl) (xa_cons (xe_var rfl) (xa_cons (xe_var rfl) xa_nil)) fun H9 kv9 s9 g9 dt9 => ⟨rfl, false, rfl, iteF ?_⟩))
  dsimp only [tNext]
  rw [bkPut_S nd8] at s9 g9 dt9
  obtain ⟨r1, r2, r3, r4⟩ := key_rep q hq
  have ds9 := ds4.ext (gr_trans (gr_trans g6 g7) g9)
  have lk : kd4.length < sizeLine := by rw [ds4.len]; unfold keptOf; rw [List.length_map]; decide
  refine seq_in (fs_dputS s9 (List.mem_append_right _ (.head _)) lk ds9 (xe_copied dr rfl) (xe_var rfl) (xe_cb (xa_cons (xe_td (xe_var rfl)) xa_nil) (cx_repr r1 r2 r3 r4)) fun H10 kd10 s10 g10 ds10 => ?_)
  rw [put_dic nd8] at s10 g10 ds10
  have dt10 := dt9.ext g10
  dsimp only
  refine seq_in (fs_appDrawn s10 dr rfl (fun ds e => (wk.l ds e).1) fun H11 s11 g11 => ?_)
  have dt11 := dt10.ext g11
  have ds11 := ds10.ext g11
  have ek : putD (keptOf s) (PyData.shown (kD2 q.1 q.2)) d = keptOf (bkKeep s q.1 q.2 (keptD q.1 d)) := putD_kept hq (told_keep wk hq)
  rw [ek] at ds11
  generalize hs' : bkKeep s q.1 q.2 (keptD q.1 d) = s' at *
  dsimp only
  let vb : A := .o (atV (.ref b) (bkV K (f 47) s' (noGr K)))
  let vk : A := .o (atV (.ref F) (dictV K (keptOf s')))
  let Sy : Frg := Sx s'.tab kv9 kd10
  have seen : ∀ {H' : Hp} {a : Addr} {o : HO}, FX W H H' Sy → (a, o) ∈ Sy → hid (W.fix []).M H' a = some o := fun {H' a o} fx hm => by
    rw [hid_out fun z => z.elim (fx.new _ hm).2 fun ⟨_, h, _⟩ => nomatch h]
    exact fx.j.2 _ hm
  have bseen : ∀ {H' : Hp}, FX W H H' Sy → DtT K (hid (W.fix Sy).M H') kv9 s'.kp → Is K (W.fix []).M H' (.ref b) vb := fun {H'} fx dt => ⟨rfl, b, dx, tb, k, g, rfl, seen fx (.tail _ (.tail _ (.tail _ (.tail _ (.head _))))), .dct (seen fx (.tail _ (.tail _ (.tail _ (.head _))))) (dtkv_of _), ⟨k, kv9, rfl, seen fx (.tail _ (.tail _ (.head _))), dt.ext (same_sub fun _ h => nomatch h)⟩, .lst (seen fx (.tail _ (.head _))) .nil⟩
  have kseen : ∀ {H' : Hp}, FX W H H' Sy → DtS K (hid (W.fix Sy).M H') kd10 (keptOf s') → Is K (W.fix []).M H' (.ref F) vk := fun {H'} fx ds => ⟨rfl, F, kd10, rfl, seen fx (.head _), ds.ext (same_sub fun _ h => nomatch h)⟩
  let Zo : Option A → Option A → Env := fun x6 x7 => [some (.v (.ref pa)), some vb, some vk, none, none, none, x6, x7, none, none]
  obtain ⟨u1, e1, j1⟩ := s11.st.get 1 (.v (.ref b)) rfl
  obtain ⟨u2, e2, j2⟩ := s11.st.get 2 (.v (.ref F)) rfl
  obtain ⟨u0, e0, j0⟩ := s11.st.get 0 (.v (.ref pa)) rfl
  have j1 : u1 = .ref b := j1
  have j2 : u2 = .ref F := j2
  subst j1 j2
  have len11 := s11.st.len
  have st12 : StOk K (W.fix []).M H11 _ (Zo none none) := ⟨len11, fun i a e => by
    match i, e with
    | 0, e => cases e; exact ⟨_, e0, j0⟩
    | 1, e => cases e; exact ⟨_, e1, bseen s11.f dt11⟩
    | 2, e => cases e; exact ⟨_, e2, kseen s11.f ds11⟩
    | 3, e | 4, e | 5, e | 6, e | 7, e | 8, e | 9, e => cases e
    | n + 10, e => cases e⟩
  refine seq_in (s11.partS (S1 := []) (fun _ h => nomatch h) st12 (N := fun Δ => ∃ x6 x7, Δ = Zo x6 x7) (Rt := No') ?_ (fun σ12 H12 Δ2 ⟨x6, x7, e⟩ st13 fx12 g12 => ?_) fun v H' a z _ _ _ => z.elim)
  · refine xs_for (g := gName 6) (Nn := (· = keysD.length)) (Y := fun i a => ∃ d, keysD[i]? = some d ∧ a = .t d) (fun _ _ Δ => ∃ x6 x7, Δ = Zo x6 x7) (xi_listK (XE.is (xe_callg (pre := pre_l_every) (post := post_l_every) (E := E0) () xa_nil rfl) rfl)) (fun _ _ => ⟨none, none, rfl⟩) ?_ fun _ Δ _ h => h
    rintro n0 i0 a0 Δ1 hn li ⟨d0, hd0, rfl⟩ ⟨x6, x7, rfl⟩
    obtain ⟨r, hr', rfl⟩ := List.mem_map.mp (List.mem_of_getElem? hd0)
    refine ⟨Zo (some (.t (kD2 r.1 r.2))) x7, gx_name, ?_⟩
    intro σa Ha ja sta Da nxa rta bka cta
    have z0 : FS K (W.fix []) Ha Ha σa (Zo (some (.t (kD2 r.1 r.2))) x7) [] := FS.nil ja sta
    obtain ⟨kr, lr, sr⟩ := keys_ok r hr'
    obtain ⟨y1, y2, y3, y4⟩ := key_rep r hr'
    have wr := iw.ok r hr'
    have wdp := wr.dp
    have wwt := wr.wt
    have hrS : strS 100000 (keyD r.2) := fun x e => by
      rw [e] at sr
      exact Nat.le_trans (of_decide_eq_true sr) (by decide)
    refine seq_in (via_asg (worth_in z0 (G := noGr K) (s := s') (w := r.1) (p := r.2) (xe_at (xe_var rfl)) (fun _ _ _ => rfl) (xe_var rfl) kr hrS (by omega) (iw.rows r hr') (fun ne => notlist wr.is ne) fun L2 a2 vv H2' z2 g2' i2 dr2 => ?_))
    have z3 := z2.put (i := 7) i2
    dsimp only
    refine seq_in (via_ifS (told_same (i := 7) z3 dr2 rfl rfl ⟨wr.s.1, wr.sh, by omega, by omega⟩ (fun {S' Δ'} he => xe_cb (xa_cons (xe_dgetS (sd := keptOf s') (xe_at (x := .ref F) (xe_var (i := 2) (by rw [he 2 (by decide)]; rfl))) (xe_cb (xa_cons (xe_td (xe_var (i := 6) (by rw [he 6 (by decide)]; rfl))) xa_nil) (cx_repr y1 y2 y3 y4)) (getS_kept hr')) xa_nil) (cx_repr wr.s.1 wr.sh (by omega) (by omega))) fun H4' z4 g4' => iteF ?_))
    dsimp only [tNext]
    exact fs_appDrawn z4 dr2 rfl (fun ds e => (wr.l ds e).1) fun H5' z5 g5' => nxa _ H5' _ z5.f.fr z5.out ⟨_, _, rfl⟩
  subst e
  dsimp only
  have dt13 := dt11.ext g12
  have ds13 := ds11.ext g12
  obtain ⟨w0, f0, k0⟩ := st13.get 0 (.v (.ref pa)) rfl
  obtain ⟨w1, f1', k1⟩ := st13.get 1 vb rfl
  obtain ⟨w2, f2', k2⟩ := st13.get 2 vk rfl
  have k1' : w1 = .ref b := k1.1
  have k2' : w2 = .ref F := k2.1
  subst k1' k2'
  have bl13 := stOk_blank (K := K) (M := (W.fix Sy).M) (H := H12) (σ := σ12) 10 st13.len
  have s13 : FS K W H H12 σ12 Zb Sy := ⟨fx12, ((bl13.setSelf (a := .v (.ref pa)) f0 k0).setSelf (a := .v (.ref b)) f1' rfl).setSelf (a := .v (.ref F)) f2' rfl⟩
  refine seq_in (via_asg ⟨_, f1', b, dx, _, rfl, fx12.j.2 _ (.tail _ (.tail _ (.tail _ (.tail _ (.head _))))), rfl, W.fix [], s', noGr K, ⟨fx12.j.1, fun _ h => nomatch h⟩, .cons (bseen fx12 dt13).2 .nil, fun Tb H14 fx => ?_⟩)
  have g14 := gr_joinP (S1 := []) fx12 (fun _ h => nomatch h) fx
  have s14 := (s13.to (fx12.joinP (S1 := []) (fun _ h => nomatch h) fx) g14).put (i := 8) (v := .ref Tb) (a := .v (.ref Tb)) rfl
  dsimp only
  have dt14 := dt13.ext g14
  have ds14 := ds13.ext g14
  have seen2 : ∀ {H' : Hp} {a : Addr} {o : HO}, FX W H H' ([(Tb, .dK (KV2 s'.tab))] ++ Sy) → (a, o) ∈ [(Tb, HO.dK (KV2 s'.tab))] ++ Sy → hid (W.fix []).M H' a = some o := fun {H' a o} fx hm => by
    rw [hid_out fun z => z.elim (fx.new _ hm).2 fun ⟨_, h, _⟩ => nomatch h]
    exact fx.j.2 _ hm
  let vt : A := .o (atV (.ref Tb) (visD K (KD s'.tab)))
  let Z9 : Option A → Env := fun x9 => [some (.v (.ref pa)), some (.v (.ref b)), some vk, none, none, none, none, none, some vt, x9]
  obtain ⟨w8, f8, k8⟩ := s14.st.get 8 (.v (.ref Tb)) rfl
  obtain ⟨w0', f0', k0'⟩ := s14.st.get 0 (.v (.ref pa)) rfl
  obtain ⟨w1', f1'', k1''⟩ := s14.st.get 1 (.v (.ref b)) rfl
  obtain ⟨w2', f2'', k2''⟩ := s14.st.get 2 (.v (.ref F)) rfl
  have k8 : w8 = .ref Tb := k8
  have k2'' : w2' = .ref F := k2''
  subst k8 k2''
  have bl15 := stOk_blank (K := K) (M := (W.fix []).M) (H := H14) 10 s14.st.len
  have st15 : StOk K (W.fix []).M H14 _ (Z9 none) := (((bl15.setSelf (a := .v (.ref pa)) f0' k0').setSelf (a := .v (.ref b)) f1'' k1'').setSelf (a := vk) f2'' ⟨rfl, F, kd10, rfl, seen2 s14.f (.tail _ (.head _)), ds14.ext (same_sub fun _ h => nomatch h)⟩).setSelf (a := vt) f8 ⟨rfl, .dct (seen2 s14.f (.head _)) (dtkv_of _)⟩
  refine seq_in (s14.partS (S1 := []) (fun _ h => nomatch h) st15 (N := fun Δ => ∃ x9, Δ = Z9 x9) (Rt := No') ?_ (fun σ16 H16 Δ3 ⟨x9, e⟩ st16 fx16 g16 => ?_) fun v H' a z _ _ _ => z.elim)
  · refine xs_for (g := gName 9) (Nn := (· = ("a~1" : Str).cps.size)) (Y := fun i a => ∃ c, ("a~1" : Str).cps[i]? = some c ∧ a = .d (.str (oneS c))) (fun _ _ Δ => ∃ x9, Δ = Z9 x9) (xi_str xe_str) (fun _ _ => ⟨none, rfl⟩) ?_ fun _ Δ _ h => h
    rintro n0 i0 a0 Δ1 hn li ⟨c, hc, rfl⟩ ⟨x9, rfl⟩
    have hq3 := signs3 i0 c hc
    generalize oneS c = x at *
    have hk3 : getS (keptOf s') (PyData.shown (kD2 "kind" (.inr x))) = some (.str (look s'.tab "other" x)) := (getS_kept (s := s') hq3).trans (congrArg some (told_kind s' x))
    have hy3 : (kD2 "kind" (.inr x)).hasDict = false ∧ (kD2 "kind" (.inr x)).showable = true ∧ (kD2 "kind" (.inr x)).depth ≤ 60 ∧ wt (kD2 "kind" (.inr x)) ≤ 1000000 := key_rep _ hq3
    refine ⟨Z9 (some (.d (.str x))), gx_name, ?_⟩
    have key3 : XV K (W.fix []) (tTup (tCons (tC (.str "kind")) (tCons (tVar 9) tNil))) (Z9 (some (.d (.str x)))) (.d (kD2 "kind" (.inr x))) := xe_td (xe_tupK (ds := [.str "kind", .str x]) (xa_cons (xe_tf xe_str rfl) (xa_cons (xe_tf (xe_var rfl) rfl) xa_nil)) (Nat.le_of_ble_eq_true rfl))
    have left3 : XV K (W.fix []) (tDGet2 (tVar 8) (tVar 9) (tC (.str "other"))) (Z9 (some (.d (.str x)))) (.d (.str (look s'.tab "other" x))) := xe_dget (xe_od (xe_at (x := .ref Tb) (xe_var (i := 8) rfl))) (xe_var rfl) xe_str
    have right3 : XV K (W.fix []) (tDGet (tVar 2) (tCB (rRepr K) (tCons (tTup (tCons (tC (.str "kind")) (tCons (tVar 9) tNil))) tNil))) (Z9 (some (.d (.str x)))) (.d (.str (look s'.tab "other" x))) := xe_dgetS (xe_at (x := .ref F) (xe_var (i := 2) rfl)) (xe_cb (xa_cons key3 xa_nil) (cx_repr hy3.1 hy3.2.1 hy3.2.2.1 hy3.2.2.2)) hk3
    exact xs_if (b := false) (XT.is (xt_test (xe_op left3 right3 (ox_ne rfl rfl rfl))) (by rw [eqF_str, decide_eq_true rfl]; rfl)) (fun z => nomatch z) fun _ => xs_next ⟨_, rfl⟩
  subst e
  dsimp only
  obtain ⟨w8, f8, k8⟩ := st16.get 8 vt rfl
  obtain ⟨w0', f0', k0'⟩ := st16.get 0 (.v (.ref pa)) rfl
  obtain ⟨w1', f1'', k1''⟩ := st16.get 1 (.v (.ref b)) rfl
  obtain ⟨w2', f2'', k2''⟩ := st16.get 2 vk rfl
  have k8 : w8 = .ref Tb := k8.1
  have k2'' : w2' = .ref F := k2''.1
  subst k8 k2''
  have bl17 := stOk_blank (K := K) (M := (W.fix ((Tb, .dK (KV2 s'.tab)) :: Sy)).M) (H := H16) (σ := σ16) 10 st16.len
  have st17 := ((bl17.setSelf (a := .v (.ref pa)) f0' k0').setSelf (a := .v (.ref b)) f1'' k1'').setSelf (a := .v (.ref F)) f2'' rfl
  have s17 : FS K W H H16 σ16 (Zb.set 8 (some (.v (.ref Tb)))) ((Tb, .dK (KV2 s'.tab)) :: Sy) := ⟨fx16, st17.setSelf (a := .v (.ref Tb)) f8 rfl⟩
  refine fs_clear (i := 8) s17 rfl fun H18 s18 g18 => ?_
  have G := gr_trans g16 g18
  exact ⟨s', kv9, kd10, ⟨s18.f, s18.st.forget 8⟩, dt14.ext G, ds14.ext G, iw⟩
theorem xe_onPool {K : PySem.W.Frag} {W : Wd} {Δ : Env} {E E' : XK} {pre : Wd → List A → Prop} {post : List A → A → Prop} {s kk : Nat} {ns : List Int} {n : Int} (hs : Δ[s]? = some (some (.s ns))) (hk : Δ[kk]? = some (some (.d (.int n)))) (hl : ns.length ≤ 63) (h0 : 0 ≤ n) (h1 : n < 1000)
    (h : ∀ p, HasPool (W.add p isPool) p → pre (W.add p isPool) [.v (.ref p)]) (m : ∀ p a, post [.v (.ref p)] a → a = .d (.bool true)) : XV K W (tCall (spD K pre post) [] E (tCons (tCall (spPool K) [] E' (tCons (tVar s) (tCons (tVar kk) tNil))) tNil)) Δ (.d (.bool true)) := fun σ H j st Q q => by
  obtain ⟨v1, e1, a, rfl, sq⟩ := st.get s _ hs
  obtain ⟨v2, e2, i2⟩ := st.get kk _ hk
  cases i2
  refine ⟨_, e1, _, e2, a, ns, n, rfl, sqL_le sq, hl, h0, h1, fun p H1 sm np hp => ?_⟩
  obtain ⟨u, hu, pu⟩ := hp
  have mp : ¬ W.M p := W.fresh j np
  have keepM : ∀ b, W.M b → H1 b = H b := fun b mb => by
    cases z : H b with
    | none => exact absurd z (W.live H b j mb)
    | some o => exact sm b o z
  have j1 : W.J H1 := W.loc H H1 keepM j
  have back : ∀ {H2 : Hp}, Fr (W.add p isPool) H1 H2 → Fr W H H2 := fun {H2} f => ⟨fun a o nm e => f.keep a o (fun z => z.elim nm (ne_of_none e np)) (sm a o e), f.j.1⟩
  refine ⟨W.add p isPool, [.v (.ref p)], ⟨j1, u, hu, pu⟩, h p (hasPool_new mp), .cons rfl .nil, fun v H' a f r i => ?_⟩
  have e := m p a r
  subst e
  exact q v H' _ (back f) rfl (i.ext hid_add_le)
def sp_law (K : PySem.W.Frag) : Sp := fun vs H Q _ => ∃ (a : Addr) (ns : List Int), vs = [.ref a] ∧ SqL K H a (ns.map V.int) ∧ ns.length ≤ 63 ∧ ∀ H', Q (.bl true) H'
theorem ok_law (T : Top w K mg f fd) : FnG P w K mg base CX0 12 (f 37) (fd 37) ["_law_script"] (sp_law K) := by
  refine okG0 T.F_law sc_law (fun vs H Q E h => ?_) (fun cdv Ar outer s H vs Q E hr ng h => ?_)
  · obtain ⟨_, _, rfl, _⟩ := h
    rfl
  refine ⟨_, (pss_cons (ps_if (pt_not (pt_val (pe_call0 (ok_l_begun_right T) (hr.mono (by omega)) (by rfl) T.g_l_begun_right T.F_l_begun_right.kp (b_l_begun_right T) .nil pass0))) (pss_one (ps_ret pe_bl)) pss_nil)
      (pss_cons (ps_for PassesOwn.never rfl (pi_range1 (by rfl) T.z_range (pa_cons (pe_callB (c_max rfl) (by rfl) T.z_max (by decide +kernel) (pa_cons pe_int (pa_cons (pe_callB (c_min rfl) (by rfl) T.z_min (by decide +kernel) (pa_cons (pe_callB c_len (by rfl) T.z_len (by decide +kernel) (pa_cons (pv 0) pa_nil)) (pa_cons pe_int pa_nil))) pa_nil))) pa_nil)) (pg_name (i := 1) sc_law.nd rfl (Or.inl rfl)) (pss_one (ps_if (pt_not (pt_val (pe_callG (ok_l_right T) hr ng (by rfl) T.g_l_right T.F_l_right.kp (b_l_right T) .nil pass0 (pa_cons (pe_call (ok_l_pool T) (hr.mono (by omega)) (by rfl) T.g_l_pool T.F_l_pool.kp (b_l_pool T) .nil pass0 (pa_cons (pv 0) (pa_cons (pv 1) pa_nil))) pa_nil)))) (pss_one (ps_ret pe_bl)) pss_nil)))
      (pss_one (ps_ret pe_bl)))), ?_⟩
  obtain ⟨a, ns, rfl, hS, hl, q⟩ := h
  refine run_law hS q ?_
  let S : Option A → Env := fun b => [some (.s ns), b]
  refine xs_seq (N1 := fun Δ => Δ = S none) (xs_if (b := false) (XT.is (xt_not (xt_B (b := true) (XE.mono (xe_callg (pre := pre_l_begun_right) (post := post_l_begun_right) (E := E0) () xa_nil rfl) fun a e => e))) rfl) (fun z => nomatch z) fun _ => xs_next rfl) ?_
  rintro Δ' rfl
  refine xs_seq (N1 := fun _ => True) ?_ fun Δ _ => xs_ret xe_bl fun a e => e
  refine xs_for (g := gName 1) (Nn := fun n => n ≤ 10) (Y := fun i a => a = .d (.int (i : Int))) (fun _ _ Δ => ∃ x1, Δ = S x1) (xi_rng (Nn := fun n => n ≤ 10) (xa_rng (Nn := fun n => n ≤ 10) (xe_cb (xa_cons xe_int (xa_cons (xe_cb (xa_cons (xe_cb (xa_cons (xe_var rfl) xa_nil) cx_lenI) (xa_cons xe_int xa_nil)) cx_min) xa_nil)) cx_max) ?_ ?_ ?_)) (fun _ _ => ⟨_, rfl⟩) ?_ fun _ _ _ _ => trivial
  · split <;> split <;> omega
  · split <;> split <;> omega
  · split <;> split <;> omega
  rintro n i a Δ1 hn hi rfl ⟨x1, rfl⟩
  refine ⟨S (some (.d (.int (i : Int)))), gx_name, ?_⟩
  exact xs_if (b := false) (XT.is (xt_not (xt_B (b := true) (xe_onPool (s := 0) (kk := 1) rfl rfl hl (by omega) (by omega) (fun p hp => ⟨p, rfl, hp⟩) fun p a e => e))) rfl) (fun z => nomatch z) fun _ => xs_next ⟨_, rfl⟩


end
/-! ### what the top leaves -/
theorem all_mk {l : PySem.W.OpenLaw} {w : World} {K : PySem.W.Frag} {h : Heap} {mg : Str → Option Value} {fa f0 f1 f2 f3 f4 f5 f6 f7 f8 f9 f10 f11 f12 f13 f14 f15 f16 f17 f18 f19 f20 f21 f22 f23 f24 f25 f26 f27 f28 f29 f30 f31 f32 f33 f34 f35 f36 f37 C47 kd24 : Addr} (X : K.In h) (G : h.Ns mainGlobals mg) (hfa : mg "law" = some (.ref fa))
    {od0 an0 od1 an1 od2 an2 od3 an3 od4 an4 od5 an5 od6 an6 od7 an7 od8 an8 od9 an9 od10 an10 od11 an11 od12 an12 od13 an13 od14 an14 od15 an15 od16 an16 od17 an17 od18 an18 od19 an19 od20 an20 od21 an21 od22 an22 od23 an23 od24 an24 od25 an25 od26 an26 od27 an27 od28 an28 od29 an29 od30 an30 od31 an31 od32 an32 od33 an33 od34 an34 od35 an35 od36 an36 od37 an37 : Option Addr} {sl0 sl1 sl2 sl3 sl4 sl5 sl6 sl7 sl8 sl9 sl10 sl11 sl12 sl13 sl14 sl15 sl16 sl17 sl18 sl19 sl20 sl21 sl22 sl23 sl24 sl25 sl26 sl27 sl28 sl29 sl30 sl31 sl32 sl33 sl34 sl35 sl36 sl37 : Array (Option Value)} {oc0 kV0 dc0 pm0 cd0 ct0 oc1 kV1 dc1 pm1 cd1 ct1 oc2 kV2 dc2 pm2 cd2 ct2 oc3 kV3 dc3 pm3 cd3 ct3 oc4 kV4 dc4 pm4 cd4 ct4 oc5 kV5 dc5 pm5 cd5 ct5 oc6 kV6 dc6 pm6 cd6 ct6 oc7 kV7 dc7 pm7 cd7 ct7 oc8 kV8 dc8 pm8 cd8 ct8 oc9 kV9 dc9 pm9 cd9 ct9 oc10 kV10 dc10 pm10 cd10 ct10 oc11 kV11 dc11 pm11 cd11 ct11 oc12 kV12 dc12 pm12 cd12 ct12 oc13 kV13 dc13 pm13 cd13 ct13 oc14 kV14 dc14 pm14 cd14 ct14 oc15 kV15 dc15 pm15 cd15 ct15 oc16 kV16 dc16 pm16 cd16 ct16 oc17 kV17 dc17 pm17 cd17 ct17 oc18 kV18 dc18 pm18 cd18 ct18 oc19 kV19 dc19 pm19 cd19 ct19 oc20 kV20 dc20 pm20 cd20 ct20 oc21 kV21 dc21 pm21 cd21 ct21 oc22 kV22 dc22 pm22 cd22 ct22 oc23 kV23 dc23 pm23 cd23 ct23 oc24 dc24 pm24 cd24 ct24 oc25 kV25 dc25 pm25 cd25 ct25 oc26 kV26 dc26 pm26 cd26 ct26 oc27 kV27 dc27 pm27 cd27 ct27 oc28 kV28 dc28 pm28 cd28 ct28 oc29 kV29 dc29 pm29 cd29 ct29 oc30 kV30 dc30 pm30 cd30 ct30 oc31 kV31 dc31 pm31 cd31 ct31 oc32 kV32 dc32 pm32 cd32 ct32 oc33 kV33 dc33 pm33 cd33 ct33 oc34 kV34 dc34 pm34 cd34 ct34 oc35 kV35 dc35 pm35 cd35 ct35 oc36 kV36 dc36 pm36 cd36 ct36 oc37 kV37 dc37 pm37 cd37 ct37 : Value}
    (aC47 : PySem.W.nsIn K mainGlobals "Book" = some (some (.ref C47)))
    (pg47 : PySem.W.plainGet K C47 Str.empty = true)
    (hd47 : PySem.W.hasDictIn K C47 = true)
    (po47 : PySem.W.plainOver K C47 = true)
    (sa47 : PySem.W.findIn K (.ref C47) "__setattr__" = some (some (.builtin "object.__setattr__")))
    (mk47 : PySem.W.makesIn K C47 = true)
    (kc47 : PySem.W.keepIn K (.ref C47) = true)
    (na47_0 : PySem.W.findIn K (.ref C47) "table" = some none)
    (na47_1 : PySem.W.findIn K (.ref C47) "kept" = some none)
    (na47_2 : PySem.W.findIn K (.ref C47) "groups" = some none)
    (a0 : PySem.W.nsIn K mainGlobals "is_sign" = some (some (.ref f0)))
    (l0 : K.lookup f0 = some ⟨oc0, od0, .func (PySem.W.fnOf "is_sign" "is_sign" (defArgs s_is_sign) (defBody s_is_sign) (defScope s_is_sign) .none kV0 dc0 pm0 an0 cd0 ct0), sl0⟩)
    (c0 : PySem.W.codeIn K cd0 "is_sign" = true) (k0 : PySem.W.keepIn K (.ref f0) = true)
    (a1 : PySem.W.nsIn K mainGlobals "is_whole" = some (some (.ref f1)))
    (l1 : K.lookup f1 = some ⟨oc1, od1, .func (PySem.W.fnOf "is_whole" "is_whole" (defArgs s_is_whole) (defBody s_is_whole) (defScope s_is_whole) .none kV1 dc1 pm1 an1 cd1 ct1), sl1⟩)
    (c1 : PySem.W.codeIn K cd1 "is_whole" = true) (k1 : PySem.W.keepIn K (.ref f1) = true)
    (a2 : PySem.W.nsIn K mainGlobals "is_kind" = some (some (.ref f2)))
    (l2 : K.lookup f2 = some ⟨oc2, od2, .func (PySem.W.fnOf "is_kind" "is_kind" (defArgs s_is_kind) (defBody s_is_kind) (defScope s_is_kind) .none kV2 dc2 pm2 an2 cd2 ct2), sl2⟩)
    (c2 : PySem.W.codeIn K cd2 "is_kind" = true) (k2 : PySem.W.keepIn K (.ref f2) = true)
    (a3 : PySem.W.nsIn K mainGlobals "first_kinds" = some (some (.ref f3)))
    (l3 : K.lookup f3 = some ⟨oc3, od3, .func (PySem.W.fnOf "first_kinds" "first_kinds" (defArgs s_first_kinds) (defBody s_first_kinds) (defScope s_first_kinds) .none kV3 dc3 pm3 an3 cd3 ct3), sl3⟩)
    (c3 : PySem.W.codeIn K cd3 "first_kinds" = true) (k3 : PySem.W.keepIn K (.ref f3) = true)
    (a4 : PySem.W.nsIn K mainGlobals "kind_in" = some (some (.ref f4)))
    (l4 : K.lookup f4 = some ⟨oc4, od4, .func (PySem.W.fnOf "kind_in" "kind_in" (defArgs s_kind_in) (defBody s_kind_in) (defScope s_kind_in) .none kV4 dc4 pm4 an4 cd4 ct4), sl4⟩)
    (c4 : PySem.W.codeIn K cd4 "kind_in" = true) (k4 : PySem.W.keepIn K (.ref f4) = true)
    (a5 : PySem.W.nsIn K mainGlobals "is_name" = some (some (.ref f5)))
    (l5 : K.lookup f5 = some ⟨oc5, od5, .func (PySem.W.fnOf "is_name" "is_name" (defArgs s_is_name) (defBody s_is_name) (defScope s_is_name) .none kV5 dc5 pm5 an5 cd5 ct5), sl5⟩)
    (c5 : PySem.W.codeIn K cd5 "is_name" = true) (k5 : PySem.W.keepIn K (.ref f5) = true)
    (a6 : PySem.W.nsIn K mainGlobals "is_piece" = some (some (.ref f6)))
    (l6 : K.lookup f6 = some ⟨oc6, od6, .func (PySem.W.fnOf "is_piece" "is_piece" (defArgs s_is_piece) (defBody s_is_piece) (defScope s_is_piece) .none kV6 dc6 pm6 an6 cd6 ct6), sl6⟩)
    (c6 : PySem.W.codeIn K cd6 "is_piece" = true) (k6 : PySem.W.keepIn K (.ref f6) = true)
    (a7 : PySem.W.nsIn K mainGlobals "turn_of" = some (some (.ref f7)))
    (l7 : K.lookup f7 = some ⟨oc7, od7, .func (PySem.W.fnOf "turn_of" "turn_of" (defArgs s_turn_of) (defBody s_turn_of) (defScope s_turn_of) .none kV7 dc7 pm7 an7 cd7 ct7), sl7⟩)
    (c7 : PySem.W.codeIn K cd7 "turn_of" = true) (k7 : PySem.W.keepIn K (.ref f7) = true)
    (a8 : PySem.W.nsIn K mainGlobals "is_row" = some (some (.ref f8)))
    (l8 : K.lookup f8 = some ⟨oc8, od8, .func (PySem.W.fnOf "is_row" "is_row" (defArgs s_is_row) (defBody s_is_row) (defScope s_is_row) .none kV8 dc8 pm8 an8 cd8 ct8), sl8⟩)
    (c8 : PySem.W.codeIn K cd8 "is_row" = true) (k8 : PySem.W.keepIn K (.ref f8) = true)
    (a9 : PySem.W.nsIn K mainGlobals "is_balanced" = some (some (.ref f9)))
    (l9 : K.lookup f9 = some ⟨oc9, od9, .func (PySem.W.fnOf "is_balanced" "is_balanced" (defArgs s_is_balanced) (defBody s_is_balanced) (defScope s_is_balanced) .none kV9 dc9 pm9 an9 cd9 ct9), sl9⟩)
    (c9 : PySem.W.codeIn K cd9 "is_balanced" = true) (k9 : PySem.W.keepIn K (.ref f9) = true)
    (a10 : PySem.W.nsIn K mainGlobals "hands_among" = some (some (.ref f10)))
    (l10 : K.lookup f10 = some ⟨oc10, od10, .func (PySem.W.fnOf "hands_among" "hands_among" (defArgs s_hands_among) (defBody s_hands_among) (defScope s_hands_among) .none kV10 dc10 pm10 an10 cd10 ct10), sl10⟩)
    (c10 : PySem.W.codeIn K cd10 "hands_among" = true) (k10 : PySem.W.keepIn K (.ref f10) = true)
    (a11 : PySem.W.nsIn K mainGlobals "are_marks" = some (some (.ref f11)))
    (l11 : K.lookup f11 = some ⟨oc11, od11, .func (PySem.W.fnOf "are_marks" "are_marks" (defArgs s_are_marks) (defBody s_are_marks) (defScope s_are_marks) .none kV11 dc11 pm11 an11 cd11 ct11), sl11⟩)
    (c11 : PySem.W.codeIn K cd11 "are_marks" = true) (k11 : PySem.W.keepIn K (.ref f11) = true)
    (a12 : PySem.W.nsIn K mainGlobals "is_body" = some (some (.ref f12)))
    (l12 : K.lookup f12 = some ⟨oc12, od12, .func (PySem.W.fnOf "is_body" "is_body" (defArgs s_is_body) (defBody s_is_body) (defScope s_is_body) .none kV12 dc12 pm12 an12 cd12 ct12), sl12⟩)
    (c12 : PySem.W.codeIn K cd12 "is_body" = true) (k12 : PySem.W.keepIn K (.ref f12) = true)
    (a13 : PySem.W.nsIn K mainGlobals "is_rule" = some (some (.ref f13)))
    (l13 : K.lookup f13 = some ⟨oc13, od13, .func (PySem.W.fnOf "is_rule" "is_rule" (defArgs s_is_rule) (defBody s_is_rule) (defScope s_is_rule) .none kV13 dc13 pm13 an13 cd13 ct13), sl13⟩)
    (c13 : PySem.W.codeIn K cd13 "is_rule" = true) (k13 : PySem.W.keepIn K (.ref f13) = true)
    (a14 : PySem.W.nsIn K mainGlobals "is_box" = some (some (.ref f14)))
    (l14 : K.lookup f14 = some ⟨oc14, od14, .func (PySem.W.fnOf "is_box" "is_box" (defArgs s_is_box) (defBody s_is_box) (defScope s_is_box) .none kV14 dc14 pm14 an14 cd14 ct14), sl14⟩)
    (c14 : PySem.W.codeIn K cd14 "is_box" = true) (k14 : PySem.W.keepIn K (.ref f14) = true)
    (a15 : PySem.W.nsIn K mainGlobals "is_key" = some (some (.ref f15)))
    (l15 : K.lookup f15 = some ⟨oc15, od15, .func (PySem.W.fnOf "is_key" "is_key" (defArgs s_is_key) (defBody s_is_key) (defScope s_is_key) .none kV15 dc15 pm15 an15 cd15 ct15), sl15⟩)
    (c15 : PySem.W.codeIn K cd15 "is_key" = true) (k15 : PySem.W.keepIn K (.ref f15) = true)
    (a16 : PySem.W.nsIn K mainGlobals "is_sign_piece" = some (some (.ref f16)))
    (l16 : K.lookup f16 = some ⟨oc16, od16, .func (PySem.W.fnOf "is_sign_piece" "is_sign_piece" (defArgs s_is_sign_piece) (defBody s_is_sign_piece) (defScope s_is_sign_piece) .none kV16 dc16 pm16 an16 cd16 ct16), sl16⟩)
    (c16 : PySem.W.codeIn K cd16 "is_sign_piece" = true) (k16 : PySem.W.keepIn K (.ref f16) = true)
    (a17 : PySem.W.nsIn K mainGlobals "is_meaning" = some (some (.ref f17)))
    (l17 : K.lookup f17 = some ⟨oc17, od17, .func (PySem.W.fnOf "is_meaning" "is_meaning" (defArgs s_is_meaning) (defBody s_is_meaning) (defScope s_is_meaning) .none kV17 dc17 pm17 an17 cd17 ct17), sl17⟩)
    (c17 : PySem.W.codeIn K cd17 "is_meaning" = true) (k17 : PySem.W.keepIn K (.ref f17) = true)
    (a18 : PySem.W.nsIn K mainGlobals "is_number_worth" = some (some (.ref f18)))
    (l18 : K.lookup f18 = some ⟨oc18, od18, .func (PySem.W.fnOf "is_number_worth" "is_number_worth" (defArgs s_is_number_worth) (defBody s_is_number_worth) (defScope s_is_number_worth) .none kV18 dc18 pm18 an18 cd18 ct18), sl18⟩)
    (c18 : PySem.W.codeIn K cd18 "is_number_worth" = true) (k18 : PySem.W.keepIn K (.ref f18) = true)
    (a19 : PySem.W.nsIn K mainGlobals "is_row_worth" = some (some (.ref f19)))
    (l19 : K.lookup f19 = some ⟨oc19, od19, .func (PySem.W.fnOf "is_row_worth" "is_row_worth" (defArgs s_is_row_worth) (defBody s_is_row_worth) (defScope s_is_row_worth) .none kV19 dc19 pm19 an19 cd19 ct19), sl19⟩)
    (c19 : PySem.W.codeIn K cd19 "is_row_worth" = true) (k19 : PySem.W.keepIn K (.ref f19) = true)
    (a20 : PySem.W.nsIn K mainGlobals "is_worth" = some (some (.ref f20)))
    (l20 : K.lookup f20 = some ⟨oc20, od20, .func (PySem.W.fnOf "is_worth" "is_worth" (defArgs s_is_worth) (defBody s_is_worth) (defScope s_is_worth) .none kV20 dc20 pm20 an20 cd20 ct20), sl20⟩)
    (c20 : PySem.W.codeIn K cd20 "is_worth" = true) (k20 : PySem.W.keepIn K (.ref f20) = true)
    (a21 : PySem.W.nsIn K mainGlobals "first_meanings" = some (some (.ref f21)))
    (l21 : K.lookup f21 = some ⟨oc21, od21, .func (PySem.W.fnOf "first_meanings" "first_meanings" (defArgs s_first_meanings) (defBody s_first_meanings) (defScope s_first_meanings) .none kV21 dc21 pm21 an21 cd21 ct21), sl21⟩)
    (c21 : PySem.W.codeIn K cd21 "first_meanings" = true) (k21 : PySem.W.keepIn K (.ref f21) = true)
    (a22 : PySem.W.findIn K (.ref C47) "__init__" = some (some (.ref f22))) (i22 : PySem.W.isFn K (.ref f22) = true)
    (l22 : K.lookup f22 = some ⟨oc22, od22, .func (PySem.W.fnOf "__init__" "Book.__init__" (defArgs s_Book_init) (defBody s_Book_init) (defScope s_Book_init) .none kV22 dc22 pm22 an22 cd22 ct22), sl22⟩)
    (c22 : PySem.W.codeIn K cd22 "Book.__init__" = true) (k22 : PySem.W.keepIn K (.ref f22) = true)
    (a23 : PySem.W.findIn K (.ref C47) "worth" = some (some (.ref f23))) (i23 : PySem.W.isFn K (.ref f23) = true)
    (l23 : K.lookup f23 = some ⟨oc23, od23, .func (PySem.W.fnOf "worth" "Book.worth" (defArgs s_Book_worth) (defBody s_Book_worth) (defScope s_Book_worth) .none kV23 dc23 pm23 an23 cd23 ct23), sl23⟩)
    (c23 : PySem.W.codeIn K cd23 "Book.worth" = true) (k23 : PySem.W.keepIn K (.ref f23) = true)
    (a24 : PySem.W.findIn K (.ref C47) "put" = some (some (.ref f24))) (i24 : PySem.W.isFn K (.ref f24) = true)
    (l24 : K.lookup f24 = some ⟨oc24, od24, .func (PySem.W.fnOf "put" "Book.put" (defArgs s_Book_put) (defBody s_Book_put) (defScope s_Book_put) .none (.ref kd24) dc24 pm24 an24 cd24 ct24), sl24⟩)
    (c24 : PySem.W.codeIn K cd24 "Book.put" = true) (k24 : PySem.W.keepIn K (.ref f24) = true)
    (kw24_0 : PySem.W.nsIn K kd24 "for_all" = some (some (.bool false)))
    (a25 : PySem.W.findIn K (.ref C47) "kinds" = some (some (.ref f25))) (i25 : PySem.W.isFn K (.ref f25) = true)
    (l25 : K.lookup f25 = some ⟨oc25, od25, .func (PySem.W.fnOf "kinds" "Book.kinds" (defArgs s_Book_kinds) (defBody s_Book_kinds) (defScope s_Book_kinds) .none kV25 dc25 pm25 an25 cd25 ct25), sl25⟩)
    (c25 : PySem.W.codeIn K cd25 "Book.kinds" = true) (k25 : PySem.W.keepIn K (.ref f25) = true)
    (a26 : PySem.W.findIn K (.ref C47) "depth" = some (some (.ref f26))) (i26 : PySem.W.isFn K (.ref f26) = true)
    (l26 : K.lookup f26 = some ⟨oc26, od26, .func (PySem.W.fnOf "depth" "Book.depth" (defArgs s_Book_depth) (defBody s_Book_depth) (defScope s_Book_depth) .none kV26 dc26 pm26 an26 cd26 ct26), sl26⟩)
    (c26 : PySem.W.codeIn K cd26 "Book.depth" = true) (k26 : PySem.W.keepIn K (.ref f26) = true)
    (a27 : PySem.W.findIn K (.ref C47) "kept_at" = some (some (.ref f27))) (i27 : PySem.W.isFn K (.ref f27) = true)
    (l27 : K.lookup f27 = some ⟨oc27, od27, .func (PySem.W.fnOf "kept_at" "Book.kept_at" (defArgs s_Book_kept_at) (defBody s_Book_kept_at) (defScope s_Book_kept_at) .none kV27 dc27 pm27 an27 cd27 ct27), sl27⟩)
    (c27 : PySem.W.codeIn K cd27 "Book.kept_at" = true) (k27 : PySem.W.keepIn K (.ref f27) = true)
    (a28 : PySem.W.findIn K (.ref C47) "keep" = some (some (.ref f28))) (i28 : PySem.W.isFn K (.ref f28) = true)
    (l28 : K.lookup f28 = some ⟨oc28, od28, .func (PySem.W.fnOf "keep" "Book.keep" (defArgs s_Book_keep) (defBody s_Book_keep) (defScope s_Book_keep) .none kV28 dc28 pm28 an28 cd28 ct28), sl28⟩)
    (c28 : PySem.W.codeIn K cd28 "Book.keep" = true) (k28 : PySem.W.keepIn K (.ref f28) = true)
    (a29 : PySem.W.nsIn K mainGlobals "_law_pool" = some (some (.ref f29)))
    (l29 : K.lookup f29 = some ⟨oc29, od29, .func (PySem.W.fnOf "_law_pool" "_law_pool" (defArgs s_l_pool) (defBody s_l_pool) (defScope s_l_pool) .none kV29 dc29 pm29 an29 cd29 ct29), sl29⟩)
    (c29 : PySem.W.codeIn K cd29 "_law_pool" = true) (k29 : PySem.W.keepIn K (.ref f29) = true)
    (a30 : PySem.W.nsIn K mainGlobals "_law_take" = some (some (.ref f30)))
    (l30 : K.lookup f30 = some ⟨oc30, od30, .func (PySem.W.fnOf "_law_take" "_law_take" (defArgs s_l_take) (defBody s_l_take) (defScope s_l_take) .none kV30 dc30 pm30 an30 cd30 ct30), sl30⟩)
    (c30 : PySem.W.codeIn K cd30 "_law_take" = true) (k30 : PySem.W.keepIn K (.ref f30) = true)
    (a31 : PySem.W.nsIn K mainGlobals "_law_key" = some (some (.ref f31)))
    (l31 : K.lookup f31 = some ⟨oc31, od31, .func (PySem.W.fnOf "_law_key" "_law_key" (defArgs s_l_key) (defBody s_l_key) (defScope s_l_key) .none kV31 dc31 pm31 an31 cd31 ct31), sl31⟩)
    (c31 : PySem.W.codeIn K cd31 "_law_key" = true) (k31 : PySem.W.keepIn K (.ref f31) = true)
    (a32 : PySem.W.nsIn K mainGlobals "_law_worth" = some (some (.ref f32)))
    (l32 : K.lookup f32 = some ⟨oc32, od32, .func (PySem.W.fnOf "_law_worth" "_law_worth" (defArgs s_l_worth) (defBody s_l_worth) (defScope s_l_worth) .none kV32 dc32 pm32 an32 cd32 ct32), sl32⟩)
    (c32 : PySem.W.codeIn K cd32 "_law_worth" = true) (k32 : PySem.W.keepIn K (.ref f32) = true)
    (a33 : PySem.W.nsIn K mainGlobals "_law_first" = some (some (.ref f33)))
    (l33 : K.lookup f33 = some ⟨oc33, od33, .func (PySem.W.fnOf "_law_first" "_law_first" (defArgs s_l_first) (defBody s_l_first) (defScope s_l_first) .none kV33 dc33 pm33 an33 cd33 ct33), sl33⟩)
    (c33 : PySem.W.codeIn K cd33 "_law_first" = true) (k33 : PySem.W.keepIn K (.ref f33) = true)
    (a34 : PySem.W.nsIn K mainGlobals "_law_every" = some (some (.ref f34)))
    (l34 : K.lookup f34 = some ⟨oc34, od34, .func (PySem.W.fnOf "_law_every" "_law_every" (defArgs s_l_every) (defBody s_l_every) (defScope s_l_every) .none kV34 dc34 pm34 an34 cd34 ct34), sl34⟩)
    (c34 : PySem.W.codeIn K cd34 "_law_every" = true) (k34 : PySem.W.keepIn K (.ref f34) = true)
    (a35 : PySem.W.nsIn K mainGlobals "_law_begun_right" = some (some (.ref f35)))
    (l35 : K.lookup f35 = some ⟨oc35, od35, .func (PySem.W.fnOf "_law_begun_right" "_law_begun_right" (defArgs s_l_begun_right) (defBody s_l_begun_right) (defScope s_l_begun_right) .none kV35 dc35 pm35 an35 cd35 ct35), sl35⟩)
    (c35 : PySem.W.codeIn K cd35 "_law_begun_right" = true) (k35 : PySem.W.keepIn K (.ref f35) = true)
    (a36 : PySem.W.nsIn K mainGlobals "_law_right" = some (some (.ref f36)))
    (l36 : K.lookup f36 = some ⟨oc36, od36, .func (PySem.W.fnOf "_law_right" "_law_right" (defArgs s_l_right) (defBody s_l_right) (defScope s_l_right) .none kV36 dc36 pm36 an36 cd36 ct36), sl36⟩)
    (c36 : PySem.W.codeIn K cd36 "_law_right" = true) (k36 : PySem.W.keepIn K (.ref f36) = true)
    (a37 : PySem.W.nsIn K mainGlobals "law" = some (some (.ref f37)))
    (l37 : K.lookup f37 = some ⟨oc37, od37, .func (PySem.W.fnOf "law" "law" (defArgs s_law) (defBody s_law) (defScope s_law) .none kV37 dc37 pm37 an37 cd37 ct37), sl37⟩)
    (c37 : PySem.W.codeIn K cd37 "law" = true) (k37 : PySem.W.keepIn K (.ref f37) = true)
    (zisinstance : PySem.W.nsIn K mainGlobals "isinstance" = some none)
    (zstr : PySem.W.nsIn K mainGlobals "str" = some none)
    (zlen : PySem.W.nsIn K mainGlobals "len" = some none)
    (zint : PySem.W.nsIn K mainGlobals "int" = some none)
    (zbool : PySem.W.nsIn K mainGlobals "bool" = some none)
    (zall : PySem.W.nsIn K mainGlobals "all" = some none)
    (ztuple : PySem.W.nsIn K mainGlobals "tuple" = some none)
    (zlist : PySem.W.nsIn K mainGlobals "list" = some none)
    (zrange : PySem.W.nsIn K mainGlobals "range" = some none)
    (zdict : PySem.W.nsIn K mainGlobals "dict" = some none)
    (zmax : PySem.W.nsIn K mainGlobals "max" = some none)
    (zrepr : PySem.W.nsIn K mainGlobals "repr" = some none)
    (zmin : PySem.W.nsIn K mainGlobals "min" = some none)
    {x0 : Addr} {xd0 : Option Addr} {xn0 : Nat} {xs0 : Array (Option Value)} {x0t0 x0t1 x0t2 x0t3 x0t4 x0t5 x0t6 x0t7 x0t8 x0t9 : Tok} (n0 : PySem.W.nsIn K mainGlobals "KINDS" = some (some (.ref x0)))
    (m0 : K.lookup x0 = some ⟨.type "tuple", xd0, .seq #[.str "escape" x0t0, .str "open" x0t1, .str "shut" x0t2, .str "mark" x0t3, .str "letter" x0t4, .str "other" x0t5, .str "blank" x0t6, .str "active" x0t7, .str "remark" x0t8, .str "gone" x0t9] xn0, xs0⟩)
    {x1 : Addr} {xn1 : Nat} {x1t0 x1u0 x1t1 x1u1 x1t2 x1u2 x1t3 x1u3 x1t4 x1u4 x1t5 x1u5 x1t6 x1u6 x1t7 x1u7 x1t8 x1u8 : Tok} (n1 : PySem.W.nsIn K mainGlobals "FIRST_BUT_LETTERS" = some (some (.ref x1)))
    (m1 : K.lookup x1 = some ⟨.type "dict", none, .dict #[⟨PyData.keyHash w.params " ", .str " " x1t0, .str "blank" x1u0⟩, ⟨PyData.keyHash w.params "\t", .str "\t" x1t1, .str "blank" x1u1⟩, ⟨PyData.keyHash w.params "\n", .str "\n" x1t2, .str "blank" x1u2⟩, ⟨PyData.keyHash w.params "\\", .str "\\" x1t3, .str "escape" x1u3⟩, ⟨PyData.keyHash w.params "{", .str "{" x1t4, .str "open" x1u4⟩, ⟨PyData.keyHash w.params "}", .str "}" x1t5, .str "shut" x1u5⟩, ⟨PyData.keyHash w.params "#", .str "#" x1t6, .str "mark" x1u6⟩, ⟨PyData.keyHash w.params "~", .str "~" x1t7, .str "active" x1u7⟩, ⟨PyData.keyHash w.params "!", .str "!" x1t8, .str "remark" x1u8⟩] xn1, #[]⟩) (xs_1 : (x1 == sysModules) = false)
    {t2 : Tok} (n2 : PySem.W.nsIn K mainGlobals "LETTERS" = some (some (.str "abcdefghijklmnopqrstuvwxyzABCDEFGHIJKLMNOPQRSTUVWXYZ" t2)))
    {t3 : Tok} (n3 : PySem.W.nsIn K mainGlobals "MOST_SIGNS_OF_NAME" = some (some (.int 30 t3)))
    {x4 : Addr} {xd4 : Option Addr} {xn4 : Nat} {xs4 : Array (Option Value)} {x4t0 x4t1 x4t2 x4t3 x4t4 x4t5 : Tok} (n4 : PySem.W.nsIn K mainGlobals "WORDS_OF_ANY_SIGN" = some (some (.ref x4)))
    (m4 : K.lookup x4 = some ⟨.type "tuple", xd4, .seq #[.str "open" x4t0, .str "shut" x4t1, .str "mark" x4t2, .str "letter" x4t3, .str "other" x4t4, .str "active" x4t5] xn4, xs4⟩)
    {t5 : Tok} (n5 : PySem.W.nsIn K mainGlobals "MOST_HANDS" = some (some (.int 9 t5)))
    {t6 : Tok} (n6 : PySem.W.nsIn K mainGlobals "MOST_MARKS" = some (some (.int 30 t6)))
    {x7 : Addr} {xd7 : Option Addr} {xn7 : Nat} {xs7 : Array (Option Value)} {x7t0 x7t1 x7t2 : Tok} (n7 : PySem.W.nsIn K mainGlobals "WORDS_OF_NO_MARKS" = some (some (.ref x7)))
    (m7 : K.lookup x7 = some ⟨.type "tuple", xd7, .seq #[.str "open" x7t0, .str "shut" x7t1, .str "mark" x7t2] xn7, xs7⟩)
    {t8 : Tok} (n8 : PySem.W.nsIn K mainGlobals "MOST_BOX" = some (some (.int 255 t8)))
    {x9 : Addr} {xd9 : Option Addr} {xn9 : Nat} {xs9 : Array (Option Value)} {x9t0 x9t1 x9t2 : Tok} (n9 : PySem.W.nsIn K mainGlobals "WORDS_OF_NO_SIGN_PIECE" = some (some (.ref x9)))
    (m9 : K.lookup x9 = some ⟨.type "tuple", xd9, .seq #[.str "name" x9t0, .str "active" x9t1, .str "hand" x9t2] xn9, xs9⟩)
    {x10 : Addr} {xd10 : Option Addr} {xn10 : Nat} {xs10 : Array (Option Value)} {x10t0 x10t1 x10t2 x10t3 x10t4 x10t5 x10t6 x10t7 x10t8 x10t9 x10t10 x10t11 x10t12 x10t13 x10t14 x10t15 x10t16 x10t17 x10t18 x10t19 x10t20 x10t21 x10t22 x10t23 x10t24 x10t25 : Tok} (n10 : PySem.W.nsIn K mainGlobals "DEEDS" = some (some (.ref x10)))
    (m10 : K.lookup x10 = some ⟨.type "tuple", xd10, .seq #[.str "behind" x10t0, .str "name" x10t1, .str "iflike" x10t2, .str "ifsame" x10t3, .str "ifkind" x10t4, .str "ifless" x10t5, .str "else" x10t6, .str "fi" x10t7, .str "figures" x10t8, .str "row" x10t9, .str "text" x10t10, .str "rule" x10t11, .str "through" x10t12, .str "like" x10t13, .str "kind" x10t14, .str "set" x10t15, .str "add" x10t16, .str "keep" x10t17, .str "all" x10t18, .str "open" x10t19, .str "shut" x10t20, .str "later" x10t21, .str "skip" x10t22, .str "stay" x10t23, .str "box" x10t24, .str "endname" x10t25] xn10, xs10⟩)
    {t11 : Tok} (n11 : PySem.W.nsIn K mainGlobals "GREAT" = some (some (.int 1000000000000 t11)))
    {x12 : Addr} {xd12 : Option Addr} {xn12 : Nat} {xs12 : Array (Option Value)} 
    {x13 : Addr} {xn13 : Nat} {x13t0 x13t1 x13t2 x13t3 x13u2 : Tok} (n13 : PySem.W.nsIn K mainGlobals "BARE_WORTHS" = some (some (.ref x13)))
    (m13 : K.lookup x13 = some ⟨.type "dict", none, .dict #[⟨PyData.keyHash w.params "name", .str "name" x13t0, .none⟩, ⟨PyData.keyHash w.params "active", .str "active" x13t1, .none⟩, ⟨PyData.keyHash w.params "box", .str "box" x13t2, .int 0 x13u2⟩, ⟨PyData.keyHash w.params "row", .str "row" x13t3, .ref x12⟩] xn13, #[]⟩)
    (m12 : K.lookup x12 = some ⟨.type "tuple", xd12, .seq #[] xn12, xs12⟩)
    {x14 : Addr} {xd14 : Option Addr} {xn14 : Nat} {xs14 : Array (Option Value)} {x14t0 x14t1 x14t2 x14t3 x14t4 x14t5 x14t6 x14t7 x14t8 x14t9 x14t10 : Tok} (n14 : PySem.W.nsIn K mainGlobals "EXCHANGED" = some (some (.ref x14)))
    (m14 : K.lookup x14 = some ⟨.type "tuple", xd14, .seq #[.str "behind" x14t0, .str "name" x14t1, .str "iflike" x14t2, .str "ifsame" x14t3, .str "ifkind" x14t4, .str "ifless" x14t5, .str "else" x14t6, .str "fi" x14t7, .str "figures" x14t8, .str "row" x14t9, .str "text" x14t10] xn14, xs14⟩)
    : ∃ fd : FuncData, (∀ (s : Shared) (v : Value), BindsTo s fd ⟨[v], []⟩ [("_law_script", v)]) ∧ ∀ base : Heap, K.In base → base.Ns mainGlobals mg → FnG l.prog w K mg base CX0 12 fa fd ["_law_script"] (sp_law K) := by
  have e := hfa.symm.trans (PySem.W.mg_of X G a37)
  cases e
  have T : Top w K mg (fun i => [f0, f1, f2, f3, f4, f5, f6, f7, f8, f9, f10, f11, f12, f13, f14, f15, f16, f17, f18, f19, f20, f21, f22, f23, f24, f25, f26, f27, f28, f29, f30, f31, f32, f33, f34, f35, f36, fa, x0, x1, x4, x7, x9, x10, x12, x13, x14, C47].getD i 0) (fun i => [PySem.W.fnOf "is_sign" "is_sign" (defArgs s_is_sign) (defBody s_is_sign) (defScope s_is_sign) .none kV0 dc0 pm0 an0 cd0 ct0,
      PySem.W.fnOf "is_whole" "is_whole" (defArgs s_is_whole) (defBody s_is_whole) (defScope s_is_whole) .none kV1 dc1 pm1 an1 cd1 ct1,
      PySem.W.fnOf "is_kind" "is_kind" (defArgs s_is_kind) (defBody s_is_kind) (defScope s_is_kind) .none kV2 dc2 pm2 an2 cd2 ct2,
      PySem.W.fnOf "first_kinds" "first_kinds" (defArgs s_first_kinds) (defBody s_first_kinds) (defScope s_first_kinds) .none kV3 dc3 pm3 an3 cd3 ct3,
      PySem.W.fnOf "kind_in" "kind_in" (defArgs s_kind_in) (defBody s_kind_in) (defScope s_kind_in) .none kV4 dc4 pm4 an4 cd4 ct4,
      PySem.W.fnOf "is_name" "is_name" (defArgs s_is_name) (defBody s_is_name) (defScope s_is_name) .none kV5 dc5 pm5 an5 cd5 ct5,
      PySem.W.fnOf "is_piece" "is_piece" (defArgs s_is_piece) (defBody s_is_piece) (defScope s_is_piece) .none kV6 dc6 pm6 an6 cd6 ct6,
      PySem.W.fnOf "turn_of" "turn_of" (defArgs s_turn_of) (defBody s_turn_of) (defScope s_turn_of) .none kV7 dc7 pm7 an7 cd7 ct7,
      PySem.W.fnOf "is_row" "is_row" (defArgs s_is_row) (defBody s_is_row) (defScope s_is_row) .none kV8 dc8 pm8 an8 cd8 ct8,
      PySem.W.fnOf "is_balanced" "is_balanced" (defArgs s_is_balanced) (defBody s_is_balanced) (defScope s_is_balanced) .none kV9 dc9 pm9 an9 cd9 ct9,
      PySem.W.fnOf "hands_among" "hands_among" (defArgs s_hands_among) (defBody s_hands_among) (defScope s_hands_among) .none kV10 dc10 pm10 an10 cd10 ct10,
      PySem.W.fnOf "are_marks" "are_marks" (defArgs s_are_marks) (defBody s_are_marks) (defScope s_are_marks) .none kV11 dc11 pm11 an11 cd11 ct11,
      PySem.W.fnOf "is_body" "is_body" (defArgs s_is_body) (defBody s_is_body) (defScope s_is_body) .none kV12 dc12 pm12 an12 cd12 ct12,
      PySem.W.fnOf "is_rule" "is_rule" (defArgs s_is_rule) (defBody s_is_rule) (defScope s_is_rule) .none kV13 dc13 pm13 an13 cd13 ct13,
      PySem.W.fnOf "is_box" "is_box" (defArgs s_is_box) (defBody s_is_box) (defScope s_is_box) .none kV14 dc14 pm14 an14 cd14 ct14,
      PySem.W.fnOf "is_key" "is_key" (defArgs s_is_key) (defBody s_is_key) (defScope s_is_key) .none kV15 dc15 pm15 an15 cd15 ct15,
      PySem.W.fnOf "is_sign_piece" "is_sign_piece" (defArgs s_is_sign_piece) (defBody s_is_sign_piece) (defScope s_is_sign_piece) .none kV16 dc16 pm16 an16 cd16 ct16,
      PySem.W.fnOf "is_meaning" "is_meaning" (defArgs s_is_meaning) (defBody s_is_meaning) (defScope s_is_meaning) .none kV17 dc17 pm17 an17 cd17 ct17,
      PySem.W.fnOf "is_number_worth" "is_number_worth" (defArgs s_is_number_worth) (defBody s_is_number_worth) (defScope s_is_number_worth) .none kV18 dc18 pm18 an18 cd18 ct18,
      PySem.W.fnOf "is_row_worth" "is_row_worth" (defArgs s_is_row_worth) (defBody s_is_row_worth) (defScope s_is_row_worth) .none kV19 dc19 pm19 an19 cd19 ct19,
      PySem.W.fnOf "is_worth" "is_worth" (defArgs s_is_worth) (defBody s_is_worth) (defScope s_is_worth) .none kV20 dc20 pm20 an20 cd20 ct20,
      PySem.W.fnOf "first_meanings" "first_meanings" (defArgs s_first_meanings) (defBody s_first_meanings) (defScope s_first_meanings) .none kV21 dc21 pm21 an21 cd21 ct21,
      PySem.W.fnOf "__init__" "Book.__init__" (defArgs s_Book_init) (defBody s_Book_init) (defScope s_Book_init) .none kV22 dc22 pm22 an22 cd22 ct22,
      PySem.W.fnOf "worth" "Book.worth" (defArgs s_Book_worth) (defBody s_Book_worth) (defScope s_Book_worth) .none kV23 dc23 pm23 an23 cd23 ct23,
      PySem.W.fnOf "put" "Book.put" (defArgs s_Book_put) (defBody s_Book_put) (defScope s_Book_put) .none (.ref kd24) dc24 pm24 an24 cd24 ct24,
      PySem.W.fnOf "kinds" "Book.kinds" (defArgs s_Book_kinds) (defBody s_Book_kinds) (defScope s_Book_kinds) .none kV25 dc25 pm25 an25 cd25 ct25,
      PySem.W.fnOf "depth" "Book.depth" (defArgs s_Book_depth) (defBody s_Book_depth) (defScope s_Book_depth) .none kV26 dc26 pm26 an26 cd26 ct26,
      PySem.W.fnOf "kept_at" "Book.kept_at" (defArgs s_Book_kept_at) (defBody s_Book_kept_at) (defScope s_Book_kept_at) .none kV27 dc27 pm27 an27 cd27 ct27,
      PySem.W.fnOf "keep" "Book.keep" (defArgs s_Book_keep) (defBody s_Book_keep) (defScope s_Book_keep) .none kV28 dc28 pm28 an28 cd28 ct28,
      PySem.W.fnOf "_law_pool" "_law_pool" (defArgs s_l_pool) (defBody s_l_pool) (defScope s_l_pool) .none kV29 dc29 pm29 an29 cd29 ct29,
      PySem.W.fnOf "_law_take" "_law_take" (defArgs s_l_take) (defBody s_l_take) (defScope s_l_take) .none kV30 dc30 pm30 an30 cd30 ct30,
      PySem.W.fnOf "_law_key" "_law_key" (defArgs s_l_key) (defBody s_l_key) (defScope s_l_key) .none kV31 dc31 pm31 an31 cd31 ct31,
      PySem.W.fnOf "_law_worth" "_law_worth" (defArgs s_l_worth) (defBody s_l_worth) (defScope s_l_worth) .none kV32 dc32 pm32 an32 cd32 ct32,
      PySem.W.fnOf "_law_first" "_law_first" (defArgs s_l_first) (defBody s_l_first) (defScope s_l_first) .none kV33 dc33 pm33 an33 cd33 ct33,
      PySem.W.fnOf "_law_every" "_law_every" (defArgs s_l_every) (defBody s_l_every) (defScope s_l_every) .none kV34 dc34 pm34 an34 cd34 ct34,
      PySem.W.fnOf "_law_begun_right" "_law_begun_right" (defArgs s_l_begun_right) (defBody s_l_begun_right) (defScope s_l_begun_right) .none kV35 dc35 pm35 an35 cd35 ct35,
      PySem.W.fnOf "_law_right" "_law_right" (defArgs s_l_right) (defBody s_l_right) (defScope s_l_right) .none kV36 dc36 pm36 an36 cd36 ct36,
      PySem.W.fnOf "law" "law" (defArgs s_law) (defBody s_law) (defScope s_law) .none kV37 dc37 pm37 an37 cd37 ct37].getD i (PySem.W.fnOf "is_sign" "is_sign" (defArgs s_is_sign) (defBody s_is_sign) (defScope s_is_sign) .none kV0 dc0 pm0 an0 cd0 ct0)) := {
    F_is_sign := fun_mk (st := s_is_sign) l0 c0 k0
    g_is_sign := PySem.W.mg_of X G a0
    F_is_whole := fun_mk (st := s_is_whole) l1 c1 k1
    g_is_whole := PySem.W.mg_of X G a1
    F_is_kind := fun_mk (st := s_is_kind) l2 c2 k2
    g_is_kind := PySem.W.mg_of X G a2
    F_first_kinds := fun_mk (st := s_first_kinds) l3 c3 k3
    g_first_kinds := PySem.W.mg_of X G a3
    F_kind_in := fun_mk (st := s_kind_in) l4 c4 k4
    g_kind_in := PySem.W.mg_of X G a4
    F_is_name := fun_mk (st := s_is_name) l5 c5 k5
    g_is_name := PySem.W.mg_of X G a5
    F_is_piece := fun_mk (st := s_is_piece) l6 c6 k6
    g_is_piece := PySem.W.mg_of X G a6
    F_turn_of := fun_mk (st := s_turn_of) l7 c7 k7
    g_turn_of := PySem.W.mg_of X G a7
    F_is_row := fun_mk (st := s_is_row) l8 c8 k8
    g_is_row := PySem.W.mg_of X G a8
    F_is_balanced := fun_mk (st := s_is_balanced) l9 c9 k9
    g_is_balanced := PySem.W.mg_of X G a9
    F_hands_among := fun_mk (st := s_hands_among) l10 c10 k10
    g_hands_among := PySem.W.mg_of X G a10
    F_are_marks := fun_mk (st := s_are_marks) l11 c11 k11
    g_are_marks := PySem.W.mg_of X G a11
    F_is_body := fun_mk (st := s_is_body) l12 c12 k12
    g_is_body := PySem.W.mg_of X G a12
    F_is_rule := fun_mk (st := s_is_rule) l13 c13 k13
    g_is_rule := PySem.W.mg_of X G a13
    F_is_box := fun_mk (st := s_is_box) l14 c14 k14
    g_is_box := PySem.W.mg_of X G a14
    F_is_key := fun_mk (st := s_is_key) l15 c15 k15
    g_is_key := PySem.W.mg_of X G a15
    F_is_sign_piece := fun_mk (st := s_is_sign_piece) l16 c16 k16
    g_is_sign_piece := PySem.W.mg_of X G a16
    F_is_meaning := fun_mk (st := s_is_meaning) l17 c17 k17
    g_is_meaning := PySem.W.mg_of X G a17
    F_is_number_worth := fun_mk (st := s_is_number_worth) l18 c18 k18
    g_is_number_worth := PySem.W.mg_of X G a18
    F_is_row_worth := fun_mk (st := s_is_row_worth) l19 c19 k19
    g_is_row_worth := PySem.W.mg_of X G a19
    F_is_worth := fun_mk (st := s_is_worth) l20 c20 k20
    g_is_worth := PySem.W.mg_of X G a20
    F_first_meanings := fun_mk (st := s_first_meanings) l21 c21 k21
    g_first_meanings := PySem.W.mg_of X G a21
    F_Book_init := fun_mk (st := s_Book_init) l22 c22 k22
    F_Book_worth := fun_mk (st := s_Book_worth) l23 c23 k23
    F_Book_put := ⟨⟨_, _, _, _, _, _, _, _, _, _, rfl, l24, c24, .inl ⟨rfl, rfl⟩, .inr ⟨_, rfl, fun z hz => by cases List.mem_singleton.mp hz; exact ⟨_, kw24_0, rfl⟩⟩⟩, k24⟩
    F_Book_kinds := fun_mk (st := s_Book_kinds) l25 c25 k25
    F_Book_depth := fun_mk (st := s_Book_depth) l26 c26 k26
    F_Book_kept_at := fun_mk (st := s_Book_kept_at) l27 c27 k27
    F_Book_keep := fun_mk (st := s_Book_keep) l28 c28 k28
    F_l_pool := fun_mk (st := s_l_pool) l29 c29 k29
    g_l_pool := PySem.W.mg_of X G a29
    F_l_take := fun_mk (st := s_l_take) l30 c30 k30
    g_l_take := PySem.W.mg_of X G a30
    F_l_key := fun_mk (st := s_l_key) l31 c31 k31
    g_l_key := PySem.W.mg_of X G a31
    F_l_worth := fun_mk (st := s_l_worth) l32 c32 k32
    g_l_worth := PySem.W.mg_of X G a32
    F_l_first := fun_mk (st := s_l_first) l33 c33 k33
    g_l_first := PySem.W.mg_of X G a33
    F_l_every := fun_mk (st := s_l_every) l34 c34 k34
    g_l_every := PySem.W.mg_of X G a34
    F_l_begun_right := fun_mk (st := s_l_begun_right) l35 c35 k35
    g_l_begun_right := PySem.W.mg_of X G a35
    F_l_right := fun_mk (st := s_l_right) l36 c36 k36
    g_l_right := PySem.W.mg_of X G a36
    F_law := fun_mk (st := s_law) l37 c37 k37
    g_law := PySem.W.mg_of X G a37
    z_isinstance := PySem.W.mg_none_of X G zisinstance
    z_str := PySem.W.mg_none_of X G zstr
    z_len := PySem.W.mg_none_of X G zlen
    z_int := PySem.W.mg_none_of X G zint
    z_bool := PySem.W.mg_none_of X G zbool
    z_all := PySem.W.mg_none_of X G zall
    z_tuple := PySem.W.mg_none_of X G ztuple
    z_list := PySem.W.mg_none_of X G zlist
    z_range := PySem.W.mg_none_of X G zrange
    z_dict := PySem.W.mg_none_of X G zdict
    z_max := PySem.W.mg_none_of X G zmax
    z_repr := PySem.W.mg_none_of X G zrepr
    z_min := PySem.W.mg_none_of X G zmin
    g_KINDS := ⟨_, PySem.W.mg_of X G n0, rfl⟩
    k_KINDS := fun H => .inr ⟨_, _, _, m0, rfl, rfl, (by show 10 ≤ sizeLine; decide), (.cons ⟨_, rfl⟩ (.cons ⟨_, rfl⟩ (.cons ⟨_, rfl⟩ (.cons ⟨_, rfl⟩ (.cons ⟨_, rfl⟩ (.cons ⟨_, rfl⟩ (.cons ⟨_, rfl⟩ (.cons ⟨_, rfl⟩ (.cons ⟨_, rfl⟩ (.cons ⟨_, rfl⟩ .nil))))))))))⟩
    g_FIRST_BUT_LETTERS := ⟨_, PySem.W.mg_of X G n1, rfl⟩
    k_FIRST_BUT_LETTERS := kdic_mk [(" ", "blank", x1t0, x1u0), ("\t", "blank", x1t1, x1u1), ("\n", "blank", x1t2, x1u2), ("\\", "escape", x1t3, x1u3), ("{", "open", x1t4, x1u4), ("}", "shut", x1t5, x1u5), ("#", "mark", x1t6, x1u6), ("~", "active", x1t7, x1u7), ("!", "remark", x1t8, x1u8)] xs_1 (show ([" ", "\t", "\n", "\\", "{", "}", "#", "~", "!"] : List Str).Nodup by decide) m1
    g_LETTERS := ⟨_, PySem.W.mg_of X G n2, _, rfl⟩
    g_MOST_SIGNS_OF_NAME := ⟨_, PySem.W.mg_of X G n3, _, rfl⟩
    g_WORDS_OF_ANY_SIGN := ⟨_, PySem.W.mg_of X G n4, rfl⟩
    k_WORDS_OF_ANY_SIGN := fun H => .inr ⟨_, _, _, m4, rfl, rfl, (by show 6 ≤ sizeLine; decide), (.cons ⟨_, rfl⟩ (.cons ⟨_, rfl⟩ (.cons ⟨_, rfl⟩ (.cons ⟨_, rfl⟩ (.cons ⟨_, rfl⟩ (.cons ⟨_, rfl⟩ .nil))))))⟩
    g_MOST_HANDS := ⟨_, PySem.W.mg_of X G n5, _, rfl⟩
    g_MOST_MARKS := ⟨_, PySem.W.mg_of X G n6, _, rfl⟩
    g_WORDS_OF_NO_MARKS := ⟨_, PySem.W.mg_of X G n7, rfl⟩
    k_WORDS_OF_NO_MARKS := fun H => .inr ⟨_, _, _, m7, rfl, rfl, (by show 3 ≤ sizeLine; decide), (.cons ⟨_, rfl⟩ (.cons ⟨_, rfl⟩ (.cons ⟨_, rfl⟩ .nil)))⟩
    g_MOST_BOX := ⟨_, PySem.W.mg_of X G n8, _, rfl⟩
    g_WORDS_OF_NO_SIGN_PIECE := ⟨_, PySem.W.mg_of X G n9, rfl⟩
    k_WORDS_OF_NO_SIGN_PIECE := fun H => .inr ⟨_, _, _, m9, rfl, rfl, (by show 3 ≤ sizeLine; decide), (.cons ⟨_, rfl⟩ (.cons ⟨_, rfl⟩ (.cons ⟨_, rfl⟩ .nil)))⟩
    g_DEEDS := ⟨_, PySem.W.mg_of X G n10, rfl⟩
    k_DEEDS := fun H => .inr ⟨_, _, _, m10, rfl, rfl, (by show 26 ≤ sizeLine; decide), (.cons ⟨_, rfl⟩ (.cons ⟨_, rfl⟩ (.cons ⟨_, rfl⟩ (.cons ⟨_, rfl⟩ (.cons ⟨_, rfl⟩ (.cons ⟨_, rfl⟩ (.cons ⟨_, rfl⟩ (.cons ⟨_, rfl⟩ (.cons ⟨_, rfl⟩ (.cons ⟨_, rfl⟩ (.cons ⟨_, rfl⟩ (.cons ⟨_, rfl⟩ (.cons ⟨_, rfl⟩ (.cons ⟨_, rfl⟩ (.cons ⟨_, rfl⟩ (.cons ⟨_, rfl⟩ (.cons ⟨_, rfl⟩ (.cons ⟨_, rfl⟩ (.cons ⟨_, rfl⟩ (.cons ⟨_, rfl⟩ (.cons ⟨_, rfl⟩ (.cons ⟨_, rfl⟩ (.cons ⟨_, rfl⟩ (.cons ⟨_, rfl⟩ (.cons ⟨_, rfl⟩ (.cons ⟨_, rfl⟩ .nil))))))))))))))))))))))))))⟩
    g_GREAT := ⟨_, PySem.W.mg_of X G n11, _, rfl⟩
    k_BARE_WORTHS_3 := fun H => .inr ⟨_, _, _, m12, rfl, rfl, (by show 0 ≤ sizeLine; decide), .nil⟩
    g_BARE_WORTHS := ⟨_, PySem.W.mg_of X G n13, rfl⟩
    k_BARE_WORTHS := kmix_mk [("name", x13t0, .none), ("active", x13t1, .none), ("box", x13t2, .int 0 x13u2), ("row", x13t3, .ref x12)] (show (["name", "active", "box", "row"] : List Str).Nodup by decide) m13 (.cons ⟨rfl, rfl⟩ (.cons ⟨rfl, rfl⟩ (.cons ⟨rfl, ⟨_, rfl⟩⟩ (.cons ⟨rfl, rfl⟩ .nil))))
    g_EXCHANGED := ⟨_, PySem.W.mg_of X G n14, rfl⟩
    k_EXCHANGED := fun H => .inr ⟨_, _, _, m14, rfl, rfl, (by show 11 ≤ sizeLine; decide), (.cons ⟨_, rfl⟩ (.cons ⟨_, rfl⟩ (.cons ⟨_, rfl⟩ (.cons ⟨_, rfl⟩ (.cons ⟨_, rfl⟩ (.cons ⟨_, rfl⟩ (.cons ⟨_, rfl⟩ (.cons ⟨_, rfl⟩ (.cons ⟨_, rfl⟩ (.cons ⟨_, rfl⟩ (.cons ⟨_, rfl⟩ .nil)))))))))))⟩
    g_Book := PySem.W.mg_of X G aC47
    cl_Book := ⟨pg47, hd47, po47, sa47⟩
    n_Book_table := na47_0
    n_Book_kept := na47_1
    n_Book_groups := na47_2
    M_Book := ⟨mk47, a22, i22, kc47⟩
    m_Book_worth := ⟨a23, i23, k23⟩
    m_Book_put := ⟨a24, i24, k24⟩
    m_Book_kinds := ⟨a25, i25, k25⟩
    m_Book_depth := ⟨a26, i26, k26⟩
    m_Book_kept_at := ⟨a27, i27, k27⟩
    m_Book_keep := ⟨a28, i28, k28⟩ }
  exact ⟨PySem.W.fnOf "law" "law" (defArgs s_law) (defBody s_law) (defScope s_law) .none kV37 dc37 pm37 an37 cd37 ct37, fun s v => .of_eq rfl, fun base _ _ => ok_law T⟩
end V2
open PySem PySem.W PyProof.Rows
set_option maxHeartbeats 0 in
theorem PySem.Challenge.cw_mouthrules_k21_books_have_worths_holds : PySem.Challenge.rw_mouthrules_k21_books_have_worths.Holds := by
  w_on; o_law; k_head; (case hw => w_witness2)
  k_fill
  refine V2.walkG (l := PySem.Challenge.rw_mouthrules_k21_books_have_worths) (n := 63) (k := 12) (x := "_law_script") (CX := fun _ => L2.CX0) (sp := fun w => V2.sp_law _) rfl (by decide) rfl ⟨rfl, by decide, by decide⟩ (fun w h Y => PySem.W.kIn_of Y) ?F (fun _ _ a ns hl _ hS => ⟨a, ns, rfl, hS, hl, fun _ => rfl⟩) (fun _ _ _ _ _ h => h)
  case F =>
    intro w mg fa h KX G hmg
    refine' V2.all_mk KX G hmg ?aC47 ?pg47 ?hd47 ?po47 ?sa47 ?mk47 ?kc47 ?na47_0 ?na47_1 ?na47_2 ?a0 ?l0 ?c0 ?k0 ?a1 ?l1 ?c1 ?k1 ?a2 ?l2 ?c2 ?k2 ?a3 ?l3 ?c3 ?k3 ?a4 ?l4 ?c4 ?k4 ?a5 ?l5 ?c5 ?k5 ?a6 ?l6 ?c6 ?k6 ?a7 ?l7 ?c7 ?k7 ?a8 ?l8 ?c8 ?k8 ?a9 ?l9 ?c9 ?k9 ?a10 ?l10 ?c10 ?k10 ?a11 ?l11 ?c11 ?k11 ?a12 ?l12 ?c12 ?k12 ?a13 ?l13 ?c13 ?k13 ?a14 ?l14 ?c14 ?k14 ?a15 ?l15 ?c15 ?k15 ?a16 ?l16 ?c16 ?k16 ?a17 ?l17 ?c17 ?k17 ?a18 ?l18 ?c18 ?k18 ?a19 ?l19 ?c19 ?k19 ?a20 ?l20 ?c20 ?k20 ?a21 ?l21 ?c21 ?k21 ?a22 ?i22 ?l22 ?c22 ?k22 ?a23 ?i23 ?l23 ?c23 ?k23 ?a24 ?i24 ?l24 ?c24 ?k24 ?kw24_0 ?a25 ?i25 ?l25 ?c25 ?k25 ?a26 ?i26 ?l26 ?c26 ?k26 ?a27 ?i27 ?l27 ?c27 ?k27 ?a28 ?i28 ?l28 ?c28 ?k28 ?a29 ?l29 ?c29 ?k29 ?a30 ?l30 ?c30 ?k30 ?a31 ?l31 ?c31 ?k31 ?a32 ?l32 ?c32 ?k32 ?a33 ?l33 ?c33 ?k33 ?a34 ?l34 ?c34 ?k34 ?a35 ?l35 ?c35 ?k35 ?a36 ?l36 ?c36 ?k36 ?a37 ?l37 ?c37 ?k37 ?zisinstance ?zstr ?zlen ?zint ?zbool ?zall ?ztuple ?zlist ?zrange ?zdict ?zmax ?zrepr ?zmin ?n0 ?m0 ?n1 ?m1 ?xs_1 ?n2 ?n3 ?n4 ?m4 ?n5 ?n6 ?n7 ?m7 ?n8 ?n9 ?m9 ?n10 ?m10 ?n11 ?n13 ?m13 ?m12 ?n14 ?m14
    (case aC47 => k_is)
    (case pg47 => k_is)
    (case hd47 => k_is)
    (case po47 => k_is)
    (case sa47 => k_is)
    (case mk47 => k_is)
    (case kc47 => k_is)
    (case na47_0 => k_is)
    (case na47_1 => k_is)
    (case na47_2 => k_is)
    (case a0 => k_is)
    (case l0 => k_is)
    (case c0 => k_is)
    (case k0 => k_is)
    (case a1 => k_is)
    (case l1 => k_is)
    (case c1 => k_is)
    (case k1 => k_is)
    (case a2 => k_is)
    (case l2 => k_is)
    (case c2 => k_is)
    (case k2 => k_is)
    (case a3 => k_is)
    (case l3 => k_is)
    (case c3 => k_is)
    (case k3 => k_is)
    (case a4 => k_is)
    (case l4 => k_is)
    (case c4 => k_is)
    (case k4 => k_is)
    (case a5 => k_is)
    (case l5 => k_is)
    (case c5 => k_is)
    (case k5 => k_is)
    (case a6 => k_is)
    (case l6 => k_is)
    (case c6 => k_is)
    (case k6 => k_is)
    (case a7 => k_is)
    (case l7 => k_is)
    (case c7 => k_is)
    (case k7 => k_is)
    (case a8 => k_is)
    (case l8 => k_is)
    (case c8 => k_is)
    (case k8 => k_is)
    (case a9 => k_is)
    (case l9 => k_is)
    (case c9 => k_is)
    (case k9 => k_is)
    (case a10 => k_is)
    (case l10 => k_is)
    (case c10 => k_is)
    (case k10 => k_is)
    (case a11 => k_is)
    (case l11 => k_is)
    (case c11 => k_is)
    (case k11 => k_is)
    (case a12 => k_is)
    (case l12 => k_is)
    (case c12 => k_is)
    (case k12 => k_is)
    (case a13 => k_is)
    (case l13 => k_is)
    (case c13 => k_is)
    (case k13 => k_is)
    (case a14 => k_is)
    (case l14 => k_is)
    (case c14 => k_is)
    (case k14 => k_is)
    (case a15 => k_is)
    (case l15 => k_is)
    (case c15 => k_is)
    (case k15 => k_is)
    (case a16 => k_is)
    (case l16 => k_is)
    (case c16 => k_is)
    (case k16 => k_is)
    (case a17 => k_is)
    (case l17 => k_is)
    (case c17 => k_is)
    (case k17 => k_is)
    (case a18 => k_is)
    (case l18 => k_is)
    (case c18 => k_is)
    (case k18 => k_is)
    (case a19 => k_is)
    (case l19 => k_is)
    (case c19 => k_is)
    (case k19 => k_is)
    (case a20 => k_is)
    (case l20 => k_is)
    (case c20 => k_is)
    (case k20 => k_is)
    (case a21 => k_is)
    (case l21 => k_is)
    (case c21 => k_is)
    (case k21 => k_is)
    (case a22 => k_is)
    (case i22 => k_is)
    (case l22 => k_is)
    (case c22 => k_is)
    (case k22 => k_is)
    (case a23 => k_is)
    (case i23 => k_is)
    (case l23 => k_is)
    (case c23 => k_is)
    (case k23 => k_is)
    (case a24 => k_is)
    (case i24 => k_is)
    (case l24 => k_is)
    (case c24 => k_is)
    (case k24 => k_is)
    (case kw24_0 => k_is)
    (case a25 => k_is)
    (case i25 => k_is)
    (case l25 => k_is)
    (case c25 => k_is)
    (case k25 => k_is)
    (case a26 => k_is)
    (case i26 => k_is)
    (case l26 => k_is)
    (case c26 => k_is)
    (case k26 => k_is)
    (case a27 => k_is)
    (case i27 => k_is)
    (case l27 => k_is)
    (case c27 => k_is)
    (case k27 => k_is)
    (case a28 => k_is)
    (case i28 => k_is)
    (case l28 => k_is)
    (case c28 => k_is)
    (case k28 => k_is)
    (case a29 => k_is)
    (case l29 => k_is)
    (case c29 => k_is)
    (case k29 => k_is)
    (case a30 => k_is)
    (case l30 => k_is)
    (case c30 => k_is)
    (case k30 => k_is)
    (case a31 => k_is)
    (case l31 => k_is)
    (case c31 => k_is)
    (case k31 => k_is)
    (case a32 => k_is)
    (case l32 => k_is)
    (case c32 => k_is)
    (case k32 => k_is)
    (case a33 => k_is)
    (case l33 => k_is)
    (case c33 => k_is)
    (case k33 => k_is)
    (case a34 => k_is)
    (case l34 => k_is)
    (case c34 => k_is)
    (case k34 => k_is)
    (case a35 => k_is)
    (case l35 => k_is)
    (case c35 => k_is)
    (case k35 => k_is)
    (case a36 => k_is)
    (case l36 => k_is)
    (case c36 => k_is)
    (case k36 => k_is)
    (case a37 => k_is)
    (case l37 => k_is)
    (case c37 => k_is)
    (case k37 => k_is)
    (case zisinstance => k_is)
    (case zstr => k_is)
    (case zlen => k_is)
    (case zint => k_is)
    (case zbool => k_is)
    (case zall => k_is)
    (case ztuple => k_is)
    (case zlist => k_is)
    (case zrange => k_is)
    (case zdict => k_is)
    (case zmax => k_is)
    (case zrepr => k_is)
    (case zmin => k_is)
    (case n0 => k_is)
    (case m0 => k_is)
    (case n1 => k_is)
    (case m1 => k_is)
    (case xs_1 => first | rfl | k_is)
    (case n2 => k_is)
    (case n3 => k_is)
    (case n4 => k_is)
    (case m4 => k_is)
    (case n5 => k_is)
    (case n6 => k_is)
    (case n7 => k_is)
    (case m7 => k_is)
    (case n8 => k_is)
    (case n9 => k_is)
    (case m9 => k_is)
    (case n10 => k_is)
    (case m10 => k_is)
    (case n11 => k_is)
    (case n13 => k_is)
    (case m13 => k_is)
    (case m12 => k_is)
    (case n14 => k_is)
    (case m14 => k_is)
