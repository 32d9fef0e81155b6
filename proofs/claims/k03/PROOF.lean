import PyProof.Rows.All
import Wide.All
import OpenK.AllK
import Wide.FinOn
import HandS.ForMost
import HandS.IsInst
import HandS.Style
import HandS.StrMore
import HandS.ForExc
import HandS.Defaults
import HandS.MakeKwOnly
import HandS.ExcIs
import HandS.TryOnly
import HandS.Deep
import HandS.TupMul
import HandS.TupAny
import HandS.Steps
import HandS.Conv
import HandS.ExcInit
import HandS.ExcField
import HandS.Iter
import HandS.Star
import KE.KExcIs
import HandS.SortKw
import HandS.DictComp
import HandS.More
import HandS.Small
import KE.DatumOrd
import KE.KUnpackStar
import HandS.Flow
import HandS.DictTup
import HandS.Finally
import HandS.Walk
import HandS.SortOrd
import HandS.SortRule
import KE.KItemsList
import KE.KEqDict
import HandS.DictEq
import HandS.OwnEq
import PyProof.NeKinds
import KE.KDictZip
import KE.GoesMore
import KE.GoesEnum
import HandS.ListItems
import HandS.HotCalls
import KE.KTryMore
import HandS.WordsExc
import PyProof.ExcBaseAll.LookupError
import PyProof.FactsTree
import KE.KSmall
import PySem.Challenge.RW_mouthrules_k03_refusals_apart
set_option Elab.async false
set_option linter.all false
set_option maxRecDepth 100000
set_option maxHeartbeats 1000000
namespace V2
open PySem PySem.Spec PyProof.Rows L2

/-! ### guards: a promise that may lean on no repr being under way -/
abbrev NoG (A : Around) : Prop := A.guards = some []
theorem noG_deeper {A : Around} (h : NoG A) (e : Env) : NoG (A.deeper e) := h
structure FnG (P : Program) (w : World) (K : PySem.W.Frag) (mg : Str → Option Value) (base : Heap) (CX : CXT) (k : Nat) (f : Addr) (fd : FuncData) (ps : List Str) (sp : Sp) : Prop where
  arity : ∀ vs H Q E, sp vs H Q E → vs.length = ps.length
  goes : ∀ (A : Around) (outer : List Env) (s : Shared) (H : Hp) (args : Args) (us : List Value) (vs : List V) (Q : VK) (E : XK), Room k A → NoG A →
    Env0 P w K mg base A outer s H → BindsTo s fd args (ps.zip us) → Vals vs us → sp vs H Q E →
    codeAny (model P w) A (.call (.ref f) args) (CR CX outer P w H s Q E) s
section
variable {P : Program} {w : World} {K : PySem.W.Frag} {mg : Str → Option Value} {base : Heap} {CX : CXT} {k j : Nat} {f : Addr} {fd : FuncData} {ps N : List Str} {sp : Sp}
theorem FnG.of (F : FnOk P w K mg base CX k f fd ps sp) : FnG P w K mg base CX k f fd ps sp :=
  ⟨F.len, fun A outer s H args us vs Q E hr _ he hb hv hs => F.run A outer s H args us vs Q E hr he hb hv hs⟩
theorem FnG.mono (F : FnG P w K mg base CX j f fd ps sp) (h : j ≤ k) : FnG P w K mg base CX k f fd ps sp :=
  ⟨F.arity, fun A outer s H args us vs Q E hr => F.goes A outer s H args us vs Q E (hr.mono h)⟩

/-- a def by its body, where no repr is under way -/
theorem okG {x qual : Str} {st : Stmt} (F : Fun K x qual st f fd) (S : FnScope N ps (defScope st)) (len : ∀ vs H Q E, sp vs H Q E → vs.length = ps.length)
    (body : ∀ (cdv : Value) (A : Around) (outer : List Env) (s : Shared) (H : Hp) (vs : List V) (Q : VK) (E : XK),
      Room k (A.deeper (envOfC qual (defScope st) s.heap.objs.size f cdv)) → NoG A → sp vs H Q E →
      ∃ t, PSs (cxOf CX P w K mg base N qual (defScope st) f cdv A outer s H E) (defBody st) t ∧ t ⟨fun _ H' => Q .non H', Q, fun _ _ => False, fun _ _ => False⟩ (start N vs) H) :
    FnG P w K mg base CX (k + 1) f fd ps sp := by
  obtain ⟨oc, od, kV, doc, pm, an, cdv, ct, osl, rfl, lk, hcd⟩ := F.ex
  constructor
  · exact len
  intro A outer s H args us vs Q E room ng env binds rel promise
  have inK : K.In s.heap := env.mod.kin.keeps fun b o h => (env.bs b o h).1
  have kinds : ∀ y ∈ ps.zip us, (defScope st).names.lookup y.1 = some .local ∨
      ((defScope st).names.lookup y.1 = some .cell ∧ ((cellsFrom (s.heap.objs.size + 1) (defScope st).names []).lookup y.1).isSome = true) := by
    rintro ⟨n, v⟩ mem
    rcases S.par n (List.of_mem_zip mem).1 with loc | cel
    · exact Or.inl loc
    · exact Or.inr ⟨cel, PySem.W.cellsFrom_some _ _ _ (Or.inl cel)⟩
  apply codeAny_call_function room.depth (inK _ _ lk) rfl S.co S.gen rfl (PySem.W.codeRec_of inK hcd)
  apply binds
  apply wpAny_newFunctionEnv_cells S.kind kinds
  intro ev hev s1 x
  subst hev
  refine ⟨?_, codeAny_func ?_⟩
  · have nl : s.heap.NoLimit := env.mod.nolimit.keeps fun b o h => (env.bs b o h).1
    exact nl.keeps x.toInCall.keep
  obtain ⟨t, ht, hq⟩ := body cdv A outer s H vs Q E (room.deeper _) ng promise
  have I := inv_start (CX := CX) (E := E) S room.hd env (len _ _ _ _ promise) rel x
  apply wpAny_mono (ht.run [] s1 (start N vs) H _ I hq)
  · rintro (_ | _ | _ | v) s' hs
    · obtain ⟨σ', H', J, q⟩ := hs
      exact ⟨.non, H', J.os, J.bare, J.base, J.hok, rfl, q⟩
    · obtain ⟨_, _, _, q⟩ := hs
      cases q
    · obtain ⟨_, _, _, q⟩ := hs
      cases q
    · obtain ⟨y, σ', H', J, rv, q⟩ := hs
      exact ⟨y, H', J.os, J.bare, J.base, J.hok, rv, q⟩
  · exact fun e s' hs => hs
end

section
variable {X : Cx} {CX : CXT} {k : Nat} {f : Addr} {fd : FuncData} {ps : List Str} {sp : Sp} {dvs : List V} {ds : List Value} {E : XK} {x : Str} {p pos : Pos} {e : Expr} {es : List Expr} {ta : TE} {t : TA}
theorem runG {pins : List (Addr × Obj)} {σ : L2.St} {H : Hp} {s : Shared} {Q : VK} {us : List Value} {vs : List V} (F : FnG X.prog X.w X.K X.mg X.base CX k f fd ps sp) (hr : Room k X.A) (ng : NoG X.A) (hb : Binds X.K fd ps ds) (hd : Vals dvs ds)
    (hx : Passes CX X E) (I : Inv X pins σ H s) (r : Vals vs us) (h : sp (vs ++ dvs) H Q E) : wpAny (model X.prog X.w) X.A (call (.ref f) us) (EP X pins σ Q) X.xe s := by
  have all : Vals (vs ++ dvs) (us ++ ds) := Vals.append r hd
  have num : (us ++ ds).length = ps.length := all.length.symm.trans (F.arity _ _ _ _ h)
  apply wpAny_call
  apply codeAny_mono (F.goes X.A X.stack s H ⟨us, []⟩ (us ++ ds) (vs ++ dvs) Q E hr ng I.env0 (hb s us I.kIn num) all h)
  rintro (e | (_ | _ | _ | u)) s' q
  · exact hx pins σ H s e s' I q
  · exact q.elim
  · exact q.elim
  · exact q.elim
  · exact I.after q
theorem pe_callG (F : FnG X.prog X.w X.K X.mg X.base CX k f fd ps sp) (hr : Room k X.A) (ng : NoG X.A) (hg : Gl X x) (hm : X.mg x = some (.ref f)) (hk : PySem.W.keepIn X.K (.ref f) = true) (hb : Binds X.K fd ps ds) (hd : Vals dvs ds) (hx : Passes CX X E)
    (ha : PA X (e :: es) t) (hdb : (x == ("__debug__" : Str)) = false := by decide) (he : starEach (e :: es) X.env = (false, eval e X.env) :: starEach es X.env := by rfl)
    (hpl : (backTo pos (starEach es X.env)).any (·.1) = false := by rfl) : PE X (.Call (.Name x p) (e :: es) [] pos) (tCall sp dvs E t) := by
  constructor
  intro pins s σ H Q I h
  apply wpAny_Call_Name_kw
  apply ld_glob I hg hm _ hdb
  apply PySem.W.callWith_K (h₀ := X.base) I.ok.mod.kin hk _ he hpl
  refine thn (ha.run pos pins s σ H _ I h) ?_
  rintro us s1 ⟨vs, H1, I1, r, q⟩
  exact ⟨I1.kIn, runG F hr ng hb hd hx I1 r q⟩
theorem pe_callG0 (F : FnG X.prog X.w X.K X.mg X.base CX k f fd ps sp) (hr : Room k X.A) (ng : NoG X.A) (hg : Gl X x) (hm : X.mg x = some (.ref f)) (hk : PySem.W.keepIn X.K (.ref f) = true) (hb : Binds X.K fd ps ds) (hd : Vals dvs ds) (hx : Passes CX X E)
    (hdb : (x == ("__debug__" : Str)) = false := by decide) : PE X (.Call (.Name x p) [] [] pos) (tCall sp dvs E tNil) := by
  constructor
  intro pins s σ H Q I h
  apply wpAny_Call_Name_kw
  apply ld_glob I hg hm _ hdb
  exact PySem.W.callWith_K0 I.kIn hk (runG (us := []) F hr ng hb hd hx I .nil h)
end

/-! ### the law's end, where no repr is under way -/
def TrueEnd (s₁ : Shared) (r : Result) (s' : Shared) : Prop := r = .ok (.ret (.bool true)) ∧ OldK s₁.heap s'.heap ∧ s'.os = s₁.os ∧ AllBare s'.gens
section
variable {P : Program} {w : World} {K : PySem.W.Frag} {mg mb : Str → Option Value} {CX : CXT} {k : Nat} {fa a : Addr} {fd : FuncData} {x : Str} {sp : Sp} {s₁ : Shared} {vs : List Value} {ns : List Int} {H : Hp}
theorem lawG_at (KX : K.In s₁.heap) (hns : s₁.heap.Ns mainGlobals mg) (hb : s₁.heap.Ns builtinsNs mb) (hbb : ∀ x : Str, x ≠ "__name__" → mb x = bootBuiltins x) (hlim : s₁.heap.NoLimit) (hg : s₁.gens = #[])
    (ha : s₁.heap.get? a = some { cls := .type "list", data := .seq vs.toArray }) (hr : Room k callerA)
    (F : ∀ base : Heap, K.In base → base.Ns mainGlobals mg → FnG P w K mg base CX k fa fd [x] sp) (bind : ∀ (s : Shared) (u : Value), BindsTo s fd ⟨[u], []⟩ [(x, u)])
    (calm : ∀ H e s', CX [] H s₁ (fun _ _ _ => False) e s' → False) (only : Only H) (hok : HOk P w H s₁.heap) (alone : ∀ b, H b ≠ none → b = a) (notK : H a ≠ none → K.lookup a = none)
    (sps : sp [.ref a] H (fun v _ => v = .bl true) fun _ _ _ => False) :
    codeAny (model P w) callerA (.call (.ref fa) ⟨[.ref a], []⟩) (TrueEnd s₁) s₁ := by
  have dictFree : ∀ (b : Addr) (o : Obj) (es : Array DictEntry) (ep : Nat), s₁.heap.get? b = some o → o.data = .dict es ep → H b = none := by
    intro b o es ep e d
    cases q : H b with
    | none => rfl
    | some u =>
      obtain rfl := alone b (by rw [q]; nofun)
      rw [ha] at e
      cases e
      cases d
  have spaces : ∀ (b : Addr) (m : Str → Option Value), s₁.heap.Ns b m → (hidT s₁.heap H).Ns b m := by
    rintro b m ⟨o, es, ep, e, d, r⟩
    exact ⟨o, es, ep, hidT_get e (dictFree b o es ep e d), d, r⟩
  have kb : K.In (hidT s₁.heap H) := by
    intro b o e
    refine hidT_get (KX b o e) ?_
    cases q : H b with
    | none => rfl
    | some u =>
      obtain rfl := alone b (by rw [q]; nofun)
      rw [notK (by rw [q]; nofun)] at e
      cases e
  obtain ⟨mc, l1, l2⟩ := hlim
  have md : Mod K mg (hidT s₁.heap H) := ⟨kb, spaces _ _ hns, ⟨mb, spaces _ _ hb, hbb⟩, ⟨mc, spaces _ _ l1, l2⟩⟩
  have env : Env0 P w K mg (hidT s₁.heap H) callerA [] s₁ H :=
    { frames := rfl, mod := md, bs := fun b o e => of_hidT e, bsz := Nat.le_of_eq (hidT_size _ _), funs := trivial, frf := fun b h => (List.not_mem_nil h).elim, hok := hok, bare := .of_eq hg }
  apply codeAny_mono ((F _ kb (spaces _ _ hns)).goes callerA [] s₁ H ⟨[.ref a], []⟩ [.ref a] [.ref a] _ _ hr rfl env (bind s₁ (.ref a)) (.cons rfl .nil) sps)
  rintro (e | (_ | _ | _ | u)) s' h
  · exact (calm H e s' h).elim
  · exact h.elim
  · exact h.elim
  · exact h.elim
  · obtain ⟨v, H', os, bare, un, hok', rv, q⟩ := h
    obtain rfl : v = .bl true := q
    obtain rfl : u = Value.bool true := rv
    refine ⟨rfl, OldK.of_keep ?_, os, bare⟩
    intro b o e
    rcases only b with z | ⟨ob, xs, z⟩
    · exact un.keep b o e z (fun m => (List.not_mem_nil m).elim) (by simp)
    · have e1 := (hok b _ z).1
      rw [e] at e1
      cases e1
      exact (hok' b _ (un.frzs b _ _ z)).1
theorem lawG (KX : K.In s₁.heap) (hns : s₁.heap.Ns mainGlobals mg) (hb : s₁.heap.Ns builtinsNs mb) (hbb : ∀ x : Str, x ≠ "__name__" → mb x = bootBuiltins x) (hlim : s₁.heap.NoLimit) (hg : s₁.gens = #[])
    (ha : s₁.heap.get? a = some { cls := .type "list", data := .seq vs.toArray }) (hi : IntsAre vs ns) (hl : ns.length ≤ sizeLine) (hr : Room k callerA)
    (F : ∀ base : Heap, K.In base → base.Ns mainGlobals mg → FnG P w K mg base CX k fa fd [x] sp) (bind : ∀ (s : Shared) (u : Value), BindsTo s fd ⟨[u], []⟩ [(x, u)])
    (calm : ∀ H e s', CX [] H s₁ (fun _ _ _ => False) e s' → False)
    (sps : ∀ H : Hp, Only H → SqL K H a (ns.map V.int) → sp [.ref a] H (fun v _ => v = .bl true) fun _ _ _ => False) :
    codeAny (model P w) callerA (.call (.ref fa) ⟨[.ref a], []⟩) (TrueEnd s₁) s₁ := by
  have rv : Vals (ns.map V.int) vs := vals_ints hi
  cases hk : K.lookup a with
  | some o =>
    have e := KX a o hk
    rw [ha] at e
    cases e
    have sq : SqL K (fun _ => none) a (ns.map V.int) := .inr ⟨_, vs.toArray, _, hk, rfl, rfl, rfl, by rw [List.size_toArray, hi.length]; exact hl, rv⟩
    exact lawG_at (H := fun _ => none) KX hns hb hbb hlim hg ha hr F bind calm (fun _ => .inl rfl) (fun b u z => nomatch z) (fun b z => absurd rfl z) (fun z => absurd rfl z) (sps _ (fun _ => .inl rfl) sq)
  | none =>
    let o : Obj := { cls := .type "list", data := .seq vs.toArray }
    let H : Hp := fun b => if b = a then some (.frz o (.lst (ns.map V.int))) else none
    have at_a : H a = some (.frz o (.lst (ns.map V.int))) := if_pos rfl
    have off : ∀ b, b ≠ a → H b = none := fun b hb => if_neg hb
    have on : Only H := fun b => by
      by_cases q : b = a
      · rw [q]; exact .inr ⟨_, _, at_a⟩
      · exact .inl (off b q)
    refine lawG_at (H := H) KX hns hb hbb hlim hg ha hr F bind calm on ?_ (fun b z => ?_) (fun _ => hk) (sps H on (.inl (.inr ⟨o, at_a⟩)))
    · intro b u z
      by_cases q : b = a
      · subst q
        rw [at_a] at z
        cases z
        exact ⟨ha, by rw [List.length_map]; exact hl, vs, _, rv, ha⟩
      · rw [off b q] at z
        cases z
    · by_cases q : b = a
      · exact q
      · exact absurd (off b q) z
end
/-- the goal that the head leaves, from a promise that leans on no repr being under way -/
theorem walkG {l : PySem.W.OpenLaw} {n k : Nat} {q : Program} {loose : List Str} {XP : (Str → Option Value) → Heap → Prop} {YP : World → Heap → Prop} {d : DefRec} {K : Params → PySem.W.Frag} {CX : World → CXT} {sp : World → Sp} {x : Str}
    (hn : l.most = some n) (hn2 : n ≤ sizeLine) (hdf : d.params.defaults = []) (hr : Room k callerA) (hY : ∀ (w : World) (h : Heap), YP w h → (K w.params).In h)
    (F : ∀ (w : World) (mg : Str → Option Value) (fa : Addr) (h : Heap), (K w.params).In h → h.Ns mainGlobals mg → mg d.name = some (.ref fa) →
      ∃ fd : FuncData, (∀ (s : Shared) (u : Value), BindsTo s fd ⟨[u], []⟩ [(x, u)]) ∧
        ∀ base : Heap, (K w.params).In base → base.Ns mainGlobals mg → FnG l.prog w (K w.params) mg base (CX w) k fa fd [x] (sp w))
    (sps : ∀ (w : World) (H : Hp) (a : Addr) (ns : List Int), ns.length ≤ n → Only H → SqL (K w.params) H a (ns.map V.int) → sp w [.ref a] H (fun v _ => v = .bl true) fun _ _ _ => False)
    (calm : ∀ (w : World) (H : Hp) (s : Shared) (e : Value) (s' : Shared), CX w [] H s (fun _ _ _ => False) e s' → False) :
    PySem.W.WalkO q loose XP YP l.row.toRowW d [] (fun f vs => PySem.call f vs) := by
  apply Att.attach_call hn hdf
  intro w s₀ s₁ mg mb fa o pm cd doc a vs ns G Y ho hd hcd hmg hobj hints hlen hg
  have KX := hY w _ Y
  obtain ⟨fd, hb, hF⟩ := F w mg fa _ KX G.T.g hmg
  exact lawG KX G.T.g G.T.b G.T.builtins G.T.nolimit hg hobj hints (Nat.le_trans hlen hn2) hr hF hb (fun H e s' => calm w H s₁ e s') (fun H hO hS => sps w H a ns hlen hO hS)
end V2

set_option Elab.async false
set_option linter.all false
set_option maxRecDepth 100000
set_option maxHeartbeats 1000000
namespace V2
open PySem PySem.Spec PyProof.Rows L2

/-! ### deep data on the tracked heap -/
def keyD : Key → PyData
  | .inl i => .int i
  | .inr x => .str x
mutual
inductive Dt (K : PySem.W.Frag) (H : Hp) : V → PyData → Prop
  | non : Dt K H .non .none
  | bl (b : Bool) : Dt K H (.bl b) (.bool b)
  | int (i : Int) : Dt K H (.int i) (.int i)
  | str (x : Str) : Dt K H (.str x) (.str x)
  | lst {a : Addr} {xs : List V} {ds : List PyData} : H a = some (.lst xs) → DtAll K H xs ds → Dt K H (.ref a) (.list ds)
  | tup {a : Addr} {xs : List V} {ds : List PyData} : SqT K H a xs → DtAll K H xs ds → Dt K H (.ref a) (.tuple ds)
  | dct {a : Addr} {kvs : List (Key × V)} {ds : List (PyData × PyData)} : H a = some (.dK kvs) → DtKv K H kvs ds → Dt K H (.ref a) (.dict ds)
inductive DtAll (K : PySem.W.Frag) (H : Hp) : List V → List PyData → Prop
  | nil : DtAll K H [] []
  | cons {v : V} {vs : List V} {d : PyData} {ds : List PyData} : Dt K H v d → DtAll K H vs ds → DtAll K H (v :: vs) (d :: ds)
inductive DtKv (K : PySem.W.Frag) (H : Hp) : List (Key × V) → List (PyData × PyData) → Prop
  | nil : DtKv K H [] []
  | cons {k : Key} {v : V} {vs : List (Key × V)} {d : PyData} {ds : List (PyData × PyData)} : Dt K H v d → DtKv K H vs ds → DtKv K H ((k, v) :: vs) ((keyD k, d) :: ds)
end
theorem sqT_same {K : PySem.W.Frag} {H H' : Hp} (e : Same H H') {a : Addr} {xs : List V} (h : SqT K H a xs) : SqT K H' a xs := by
  rcases h with (h | ⟨o, h⟩) | h
  · exact .inl (.inl (e _ _ h))
  · exact .inl (.inr ⟨o, e _ _ h⟩)
  · exact .inr h
section
variable {K : PySem.W.Frag} {H H' : Hp}
mutual
theorem Dt.ext (e : Same H H') : ∀ (d : PyData) (v : V), Dt K H v d → Dt K H' v d
  | .none, _, .non => .non
  | .bool _, _, .bl b => .bl b
  | .int _, _, .int i => .int i
  | .str _, _, .str x => .str x
  | .list ds, _, .lst h q => .lst (e _ _ h) (DtAll.ext e ds _ q)
  | .tuple ds, _, .tup h q => .tup (sqT_same e h) (DtAll.ext e ds _ q)
  | .dict ds, _, .dct h q => .dct (e _ _ h) (DtKv.ext e ds _ q)
theorem DtAll.ext (e : Same H H') : ∀ (ds : List PyData) (vs : List V), DtAll K H vs ds → DtAll K H' vs ds
  | [], _, .nil => .nil
  | d :: ds, _, .cons h q => .cons (Dt.ext e d _ h) (DtAll.ext e ds _ q)
theorem DtKv.ext (e : Same H H') : ∀ (ds : List (PyData × PyData)) (vs : List (Key × V)), DtKv K H vs ds → DtKv K H' vs ds
  | [], _, .nil => .nil
  | (_, d) :: ds, _, .cons h q => .cons (Dt.ext e d _ h) (DtKv.ext e ds _ q)
end
mutual
theorem Dt.dp : ∀ (d : PyData) (v : V), d.hasDict = false → Dt K H v d → Dp K H v d
  | .none, _, _, .non => .non
  | .bool _, _, _, .bl b => .bl b
  | .int _, _, _, .int i => .int i
  | .str _, _, _, .str x => .str x
  | .list ds, _, n, .lst h q => .lst (.inl (.inl h)) (DtAll.dp ds _ (by simpa only [PyData.hasDict] using n) q)
  | .tuple ds, _, n, .tup h q => .tup h (DtAll.dp ds _ (by simpa only [PyData.hasDict] using n) q)
  | .dict ds, _, n, .dct h q => by simp [PyData.hasDict] at n
theorem DtAll.dp : ∀ (ds : List PyData) (vs : List V), PyData.hasDictAll ds = false → DtAll K H vs ds → DpAll K H vs ds
  | [], _, _, .nil => .nil
  | d :: ds, _, n, .cons h q => by
    simp only [PyData.hasDictAll, Bool.or_eq_false_iff] at n
    exact .cons (Dt.dp d _ n.1 h) (DtAll.dp ds _ n.2 q)
end
theorem DtAll.length : ∀ {vs : List V} {ds : List PyData}, DtAll K H vs ds → vs.length = ds.length
  | _, _, .nil => rfl
  | _, _, .cons _ q => congrArg (· + 1) q.length
theorem DtAll.get : ∀ {vs : List V} {ds : List PyData} {i : Nat} {d : PyData}, DtAll K H vs ds → ds[i]? = some d → ∃ v, vs[i]? = some v ∧ Dt K H v d
  | _, _, i, d, .nil, h => by simp at h
  | _, _, 0, d, .cons h _, e => by simp at e; subst e; exact ⟨_, rfl, h⟩
  | _, _, i + 1, d, .cons _ q, e => by
    obtain ⟨v, h1, h2⟩ := DtAll.get (i := i) (d := d) q (by simpa using e)
    exact ⟨v, by simpa using h1, h2⟩
theorem DtAll.append : ∀ {vs us : List V} {ds es : List PyData}, DtAll K H vs ds → DtAll K H us es → DtAll K H (vs ++ us) (ds ++ es)
  | _, _, _, _, .nil, s => s
  | _, _, _, _, .cons r t, s => .cons r (DtAll.append t s)
theorem DtAll.take : ∀ {vs : List V} {ds : List PyData} (n : Nat), DtAll K H vs ds → DtAll K H (vs.take n) (ds.take n)
  | _, _, 0, _ => .nil
  | _, _, _ + 1, .nil => .nil
  | _, _, n + 1, .cons r t => .cons r (DtAll.take n t)
theorem DtAll.drop : ∀ {vs : List V} {ds : List PyData} (n : Nat), DtAll K H vs ds → DtAll K H (vs.drop n) (ds.drop n)
  | _, _, 0, r => r
  | _, _, _ + 1, .nil => .nil
  | _, _, n + 1, .cons _ t => DtAll.drop n t
theorem DtAll.reverse : ∀ {vs : List V} {ds : List PyData}, DtAll K H vs ds → DtAll K H vs.reverse ds.reverse
  | _, _, .nil => .nil
  | _, _, .cons r t => by
    rw [List.reverse_cons, List.reverse_cons]
    exact DtAll.append (DtAll.reverse t) (.cons r .nil)
end

/-! ### repr of data -/
mutual
def wt : PyData → Nat
  | .none => 10
  | .bool _ => 10
  | .int i => ((toString i : String) : Str).length + 10
  | .str x => (reprText x).length + 10
  | .list xs => wts xs + 10
  | .tuple xs => wts xs + 10
  | .dict _ => 0
def wts : List PyData → Nat
  | [] => 0
  | x :: xs => wt x + 2 + wts xs
end
theorem textFrom_len_le : ∀ (ts : List Str) (k : Nat) (acc : Str), (textFrom k acc ts).length ≤ acc.length + piled ts
  | [], _, _ => Nat.le_add_right _ _
  | t :: r, k, acc => by
    have h := textFrom_len_le r (k + 1) (acc ++ (if k > 0 then ", " else "" : String) ++ t)
    have e : (acc ++ (if k > 0 then ", " else "" : String) ++ t).length = acc.length + (if k > 0 then 2 else 0) + t.length := by
      rw [strLen_append, strLen_append]
      by_cases q : k > 0
      · rw [if_pos q, if_pos q]; rfl
      · rw [if_neg q, if_neg q]; rfl
    have p : piled (t :: r) = t.length + 2 + piled r := by simp [piled]
    show (textFrom (k + 1) _ r).length ≤ _
    have z : (if k > 0 then 2 else 0) ≤ 2 := by split <;> omega
    omega
theorem join_le (ts : List Str) : (Str.join ", " ts).length ≤ piled ts := by
  by_cases h : ts = []
  · subst h; exact Nat.zero_le _
  · have q := join_length_add ts h
    omega
mutual
theorem wt_le : ∀ d : PyData, d.hasDict = false → d.shown.length ≤ wt d
  | .none, _ => by simp only [PyData.shown, wt]; decide
  | .bool b, _ => by cases b <;> (simp only [PyData.shown, wt]; decide)
  | .int i, _ => by simp only [PyData.shown, wt]; omega
  | .str x, _ => by simp only [PyData.shown, wt]; omega
  | .list xs, h => by
    have q := wts_le xs (by simpa only [PyData.hasDict] using h)
    simp only [PyData.shown, wt]
    have e := textFrom_len_le (PyData.shownAll xs) 0 "["
    have e2 : (listText (PyData.shownAll xs)).length = (textFrom 0 "[" (PyData.shownAll xs)).length + 1 := by
      unfold listText
      rw [strLen_append]; rfl
    have e3 : (("[" : String) : Str).length = 1 := rfl
    omega
  | .tuple xs, h => by
    have q := wts_le xs (by simpa only [PyData.hasDict] using h)
    simp only [PyData.shown, wt]
    have e := join_le (PyData.shownAll xs)
    have e2 : (tupleText (PyData.shownAll xs)).length ≤ 1 + (Str.join ", " (PyData.shownAll xs)).length + 2 := by
      unfold tupleText
      rw [strLen_append, strLen_append]
      by_cases q : ((PyData.shownAll xs).length == 1) = true
      · rw [if_pos q]; exact Nat.le_refl _
      · rw [if_neg q]; exact Nat.le_succ _
    omega
  | .dict _, h => by simp [PyData.hasDict] at h
theorem wts_le : ∀ ds : List PyData, PyData.hasDictAll ds = false → piled (PyData.shownAll ds) ≤ wts ds
  | [], _ => by simp [PyData.shownAll, piled, wts]
  | d :: ds, h => by
    simp only [PyData.hasDictAll, Bool.or_eq_false_iff] at h
    have q1 := wt_le d h.1
    have q2 := wts_le ds h.2
    simp only [PyData.shownAll, wts]
    have p : piled (d.shown :: PyData.shownAll ds) = d.shown.length + 2 + piled (PyData.shownAll ds) := by simp [piled]
    omega
end
def flat : PyData → Bool
  | .none | .bool _ | .int _ | .str _ => true
  | _ => false
def flatKv : List (PyData × PyData) → Bool
  | [] => true
  | (_, d) :: r => flat d && flatKv r
theorem reads_kv {P : Program} {w : World} {K : PySem.W.Frag} {H : Hp} {h : Heap} : ∀ (ds : List (PyData × PyData)) (kvs : List (Key × V)) (vs : List (Key × Value)) (es : List DictEntry), DtKv K H kvs ds → flatKv ds = true → KV kvs vs → Pairs (mixKind P w) es vs →
    ReadsAll h (es.map (·.key)) (ds.map (·.1)) [] ∧ ReadsAll h (es.map (·.val)) (ds.map (·.2)) [] := by
  intro ds
  induction ds with
  | nil =>
    intro kvs vs es hd _ r ps
    cases hd
    cases r
    cases ps
    exact ⟨.nil, .nil⟩
  | cons d0 ds ih =>
    intro kvs vs es hd f r ps
    cases hd with
    | cons hd t =>
      rename_i k v vs1 d
      cases r with
      | cons r rt =>
        cases ps with
        | cons hk hv ps =>
          rename_i r0 rs e es
          simp only [flatKv, Bool.and_eq_true] at f
          obtain ⟨h1, h2⟩ := ih _ _ _ t f.2 rt ps
          obtain ⟨ek, ev⟩ := r
          have hk' : keyIs r0.1 e.key = true := hk
          have ek' : k = r0.1 := ek
          have ev' : RelV v r0.2 := ev
          rw [← ek'] at hk'
          refine ⟨?_, ?_⟩
          · rcases keyIs_shape hk' with ⟨i, u, e1, e2⟩ | ⟨x, u, e1, e2⟩
            · subst e1
              show ReadsAll h (e.key :: _) (keyD (.inl i) :: _) ([] ++ [])
              rw [e2]
              exact .cons (.int i u) h1
            · subst e1
              show ReadsAll h (e.key :: _) (keyD (.inr x) :: _) ([] ++ [])
              rw [e2]
              exact .cons (.str x u) h1
          · show ReadsAll h (e.val :: _) (d :: _) ([] ++ [])
            rw [hv]
            refine .cons ?_ h2
            cases hd with
            | non => rw [show r0.2 = Value.none from ev']; exact .none
            | bl b => rw [show r0.2 = Value.bool b from ev']; exact .bool b
            | int i => obtain ⟨u, e⟩ := ev'; rw [e]; exact .int i u
            | str x => obtain ⟨u, e⟩ := ev'; rw [e]; exact .str x u
            | lst _ _ => simp [flat] at f
            | tup _ _ => simp [flat] at f
            | dct _ _ => simp [flat] at f
def rReprD (K : PySem.W.Frag) : List V → Hp → VK → Prop := fun xs H Q => ∃ (x : V) (d : PyData), xs = [x] ∧ Dt K H x d ∧ d.hasDict = false ∧ d.showable = true ∧ d.depth ≤ 60 ∧ wt d ≤ 1000000 ∧ Q (.str d.shown) H
def rReprK (K : PySem.W.Frag) : List V → Hp → VK → Prop := fun xs H Q => ∃ (x : V) (ds : List (PyData × PyData)), xs = [x] ∧ Dt K H x (.dict ds) ∧ flatKv ds = true ∧ PyData.showable (.dict ds) = true ∧ PyData.depth (.dict ds) ≤ 60 ∧ (PyData.shown (.dict ds)).length ≤ 1000000 ∧ Q (.str (PyData.shown (.dict ds))) H
def rRepr (K : PySem.W.Frag) : List V → Hp → VK → Prop := fun xs H Q => rReprD K xs H Q ∨ rReprK K xs H Q
theorem call_reprK {X : Cx} (ng : NoG X.A) (hu : X.A.units + 64 < cLine) : CallR X (.builtin "repr") (rReprK X.K) := by
  intro pins s σ H xs us Q I r h
  obtain ⟨x, ds, rfl, hd, fl, sh, dp, hw, q⟩ := h
  obtain ⟨u, rfl, ru⟩ := vals1 r
  cases hd with
  | dct ha hk =>
    rename_i a kvs
    cases ru
    obtain ⟨_, nsys, vs, rv, o, es, ep, hget, hex, hdat, _, hp, _⟩ := (show ObjOk X.prog X.w H s.heap a (.dK kvs) from I.hok a _ ha)
    obtain ⟨h1, h2⟩ := reads_kv (h := s.heap) _ _ _ _ hk fl rv hp
    have rd : Reads s.heap (.ref a) (.dict ds) (a :: [] ++ []) := .dict hget hex.1 hdat h1 h2
    refine repr_of_reads' rd sh (fun _ m => ?_) ng (by omega) (fun _ _ e => e) (fun h' u tk hk => ⟨.str _, H, I.kept hk, ⟨_, rfl⟩, q⟩) (Nat.le_trans hw (by decide))
    have e : sysModules = a := by simpa using m
    rw [e] at nsys
    simp at nsys
theorem call_repr {X : Cx} (ng : NoG X.A) (hu : X.A.units + 64 < cLine) : CallR X (.builtin "repr") (rRepr X.K) := by
  intro pins s σ H xs us Q I r h
  rcases h with h | h
  case inr => exact call_reprK ng hu pins s σ H xs us Q I r h
  obtain ⟨x, d, rfl, hd, nd, sh, dp, hw, q⟩ := h
  obtain ⟨u, rfl, ru⟩ := vals1 r
  have hz : d.shown.length ≤ sizeLine := Nat.le_trans (wt_le d nd) (Nat.le_trans hw (by decide))
  obtain ⟨as, rd⟩ := Dp.reads I d x u (Dt.dp d x nd hd) ru
  cases hd with
  | non => cases ru; exact PySem.P.repr_of_none ⟨.str _, H, I.tok _, ⟨_, rfl⟩, q⟩
  | bl b => cases ru; exact PySem.P.repr_of_bool ⟨.str _, H, I.tok _, ⟨_, rfl⟩, (by cases b <;> exact q)⟩
  | int i =>
    obtain ⟨t, rfl⟩ := ru
    exact PySem.P.repr_of_int (of_decide_eq_true sh) ⟨.str _, H, I.tok _, ⟨_, rfl⟩, q⟩
  | str y =>
    obtain ⟨t, rfl⟩ := ru
    exact PySem.P.repr_of_str ⟨.str _, H, I.tok _, ⟨_, rfl⟩, q⟩ hz
  | lst _ _ =>
    cases ru
    exact repr_of_reads' rd sh (PyData.noDict_hsm nd) ng (by omega) (fun _ _ e => e) (fun h' u tk hk => ⟨.str _, H, I.kept hk, ⟨_, rfl⟩, q⟩) hz
  | tup _ _ =>
    cases ru
    exact repr_of_reads' rd sh (PyData.noDict_hsm nd) ng (by omega) (fun _ _ e => e) (fun h' u tk hk => ⟨.str _, H, I.kept hk, ⟨_, rfl⟩, q⟩) hz
  | dct _ _ => simp [PyData.hasDict] at nd
end V2

set_option Elab.async false
set_option linter.all false
set_option maxRecDepth 100000
set_option maxHeartbeats 1000000
namespace V2
open PySem PySem.Spec PyProof.Rows L2

/-! ### worlds: what may change (M) and what stays true of it (J) -/
structure Wd where
  M : Addr → Prop
  J : Hp → Prop
  live : ∀ H a, J H → M a → H a ≠ none
  loc : ∀ H H', (∀ a, M a → H' a = H a) → J H → J H'
noncomputable def hid (M : Addr → Prop) (H : Hp) : Hp := open Classical in fun a => if M a then none else H a
theorem hid_in {M : Addr → Prop} {H : Hp} {a : Addr} (h : M a) : hid M H a = none := by unfold hid; rw [if_pos h]
theorem hid_out {M : Addr → Prop} {H : Hp} {a : Addr} (h : ¬ M a) : hid M H a = H a := by unfold hid; rw [if_neg h]
theorem hid_le {M : Addr → Prop} {H : Hp} : Same (hid M H) H := fun a o e => by
  by_cases h : M a
  · rw [hid_in h] at e; cases e
  · rw [hid_out h] at e; exact e
/-- from H to H': all that may not change stands, and what may is as it must be -/
structure Fr (W : Wd) (H H' : Hp) : Prop where
  keep : ∀ a o, ¬ W.M a → H a = some o → H' a = some o
  j : W.J H'
section
variable {W : Wd} {H H1 H2 : Hp} {K : PySem.W.Frag}
theorem Fr.refl (j : W.J H) : Fr W H H := ⟨fun _ _ _ e => e, j⟩
theorem Fr.trans (a : Fr W H H1) (b : Fr W H1 H2) : Fr W H H2 := ⟨fun x o n e => b.keep x o n (a.keep x o n e), b.j⟩
theorem Wd.fresh (j : W.J H) {p : Addr} (h : H p = none) : ¬ W.M p := fun m => W.live H p j m h
theorem Fr.new (j : W.J H) {p : Addr} {o : HO} (h : H p = none) : Fr W H (upd H p o) :=
  ⟨fun a u _ e => by rw [upd_ne (ne_of_none e h)]; exact e, W.loc H _ (fun a m => upd_ne fun z => W.fresh j h (z ▸ m)) j⟩
theorem Fr.same (f : Fr W H H1) : Same (hid W.M H) (hid W.M H1) := fun a o e => by
  by_cases m : W.M a
  · rw [hid_in m] at e; cases e
  · rw [hid_out m] at e ⊢; exact f.keep a o m e
theorem Fr.of_same (s : Same H H1) (j : W.J H1) : Fr W H H1 := ⟨fun a o _ e => s a o e, j⟩
theorem hid_new (j : W.J H) {p : Addr} {o : HO} (h : H p = none) : hid W.M (upd H p o) p = some o := by
  rw [hid_out (W.fresh j h), upd_same]
end
/-- one more address that may change, as φ tells -/
def Wd.add (W : Wd) (D : Addr) (φ : HO → Prop) : Wd where
  M a := W.M a ∨ a = D
  J H := W.J H ∧ ∃ u, H D = some u ∧ φ u
  live H a j m := m.elim (W.live H a j.1) fun e => by
    obtain ⟨u, h, _⟩ := j.2
    rw [e, h]
    nofun
  loc H H' e j := ⟨W.loc H H' (fun a m => e a (.inl m)) j.1, by rw [e D (.inr rfl)]; exact j.2⟩
section
variable {W : Wd} {H H' : Hp} {K : PySem.W.Frag} {D : Addr} {u' : HO} {φ ψ : HO → Prop}
theorem Fr.add (f : Fr W H H') (hD : H' D = some u') (hp : φ u') : Fr (W.add D φ) H H' := ⟨fun a o n e => f.keep a o (fun m => n (.inl m)) e, f.j, u', hD, hp⟩
theorem Fr.drop (f : Fr (W.add D φ) H H') (h : H D = none) : Fr W H H' := ⟨fun a o n e => f.keep a o (fun m => m.elim n fun z => by rw [z, h] at e; cases e) e, f.j.1⟩
end

/-! ### data whose tuples are all tracked (keys of dicts) -/
mutual
inductive Tk (H : Hp) : V → PyData → Prop
  | non : Tk H .non .none
  | bl (b : Bool) : Tk H (.bl b) (.bool b)
  | int (i : Int) : Tk H (.int i) (.int i)
  | str (x : Str) : Tk H (.str x) (.str x)
  | lst {a : Addr} {xs : List V} {ds : List PyData} : H a = some (.lst xs) → TkAll H xs ds → Tk H (.ref a) (.list ds)
  | tup {a : Addr} {xs : List V} {ds : List PyData} : H a = some (.tup xs) → TkAll H xs ds → Tk H (.ref a) (.tuple ds)
inductive TkAll (H : Hp) : List V → List PyData → Prop
  | nil : TkAll H [] []
  | cons {v : V} {vs : List V} {d : PyData} {ds : List PyData} : Tk H v d → TkAll H vs ds → TkAll H (v :: vs) (d :: ds)
end
section
variable {K : PySem.W.Frag} {H H' : Hp}
mutual
theorem Tk.ext (e : Same H H') : ∀ (d : PyData) (v : V), Tk H v d → Tk H' v d
  | .none, _, .non => .non
  | .bool _, _, .bl b => .bl b
  | .int _, _, .int i => .int i
  | .str _, _, .str x => .str x
  | .list ds, _, .lst h q => .lst (e _ _ h) (TkAll.ext e ds _ q)
  | .tuple ds, _, .tup h q => .tup (e _ _ h) (TkAll.ext e ds _ q)
theorem TkAll.ext (e : Same H H') : ∀ (ds : List PyData) (vs : List V), TkAll H vs ds → TkAll H' vs ds
  | [], _, .nil => .nil
  | d :: ds, _, .cons h q => .cons (Tk.ext e d _ h) (TkAll.ext e ds _ q)
end
mutual
theorem Tk.dt : ∀ (d : PyData) (v : V), Tk H v d → Dt K H v d
  | .none, _, .non => .non
  | .bool _, _, .bl b => .bl b
  | .int _, _, .int i => .int i
  | .str _, _, .str x => .str x
  | .list ds, _, .lst h q => .lst h (TkAll.dt ds _ q)
  | .tuple ds, _, .tup h q => .tup (.inl (.inl h)) (TkAll.dt ds _ q)
theorem TkAll.dt : ∀ (ds : List PyData) (vs : List V), TkAll H vs ds → DtAll K H vs ds
  | [], _, .nil => .nil
  | d :: ds, _, .cons h q => .cons (Tk.dt d _ h) (TkAll.dt ds _ q)
end
end
/-! ### what a value is -/
/-- what is seen of a value, and stays so as long as what stands stays -/
structure Vis where
  r : V → Hp → Prop
  ext : ∀ v H H', Same H H' → r v H → r v H'
inductive A where
  | d (x : PyData)
  | v (x : V)
  /-- a list of whole numbers that is only read (the script) -/
  | s (ns : List Int)
  /-- a value x, and beside it what is known of others that an object of ours holds -/
  | w (x : V) (vs : List V) (ds : List PyData)
  /-- data whose tuples are all tracked -/
  | t (x : PyData)
  /-- whatever else is seen -/
  | o (R : Vis)
def Is (K : PySem.W.Frag) (M : Addr → Prop) (H : Hp) (v : V) : A → Prop
  | .d x => Dt K (hid M H) v x
  | .v x => v = x
  | .s ns => ∃ a, v = .ref a ∧ SqL K (hid M H) a (ns.map V.int)
  | .w x vs ds => v = x ∧ DtAll K (hid M H) vs ds
  | .t x => Tk (hid M H) v x
  | .o R => R.r v (hid M H)
abbrev Env := List (Option A)
structure StOk (K : PySem.W.Frag) (M : Addr → Prop) (H : Hp) (σ : L2.St) (Δ : Env) : Prop where
  len : σ.length = Δ.length
  get : ∀ (i : Nat) (a : A), Δ[i]? = some (some a) → ∃ v, σ[i]? = some (some v) ∧ Is K M H v a
section
variable {W : Wd} {H H' : Hp} {K : PySem.W.Frag} {v : V} {a : A} {σ : L2.St} {Δ : Env} {M M' : Addr → Prop}
theorem Is.ext (s : Same (hid M H) (hid M' H')) (h : Is K M H v a) : Is K M' H' v a := by
  cases a with
  | d x => exact Dt.ext s x v h
  | v x => exact h
  | s ns =>
    obtain ⟨b, e, q⟩ := h
    exact ⟨b, e, Same.seq s q⟩
  | w x vs ds => exact ⟨h.1, DtAll.ext s _ _ h.2⟩
  | t x => exact Tk.ext s x v h
  | o R => exact R.ext _ _ _ s h
theorem Is.fr (f : Fr W H H') (h : Is K W.M H v a) : Is K W.M H' v a := h.ext f.same
theorem StOk.ext (s : Same (hid M H) (hid M' H')) (h : StOk K M H σ Δ) : StOk K M' H' σ Δ :=
  ⟨h.len, fun i a e => let ⟨v, h1, h2⟩ := h.get i a e; ⟨v, h1, h2.ext s⟩⟩
theorem StOk.fr (f : Fr W H H') (h : StOk K W.M H σ Δ) : StOk K W.M H' σ Δ := h.ext f.same
theorem StOk.set (h : StOk K M H σ Δ) (i : Nat) (hv : Is K M H v a) : StOk K M H (σ.set i (some v)) (Δ.set i (some a)) := by
  refine ⟨by rw [List.length_set, List.length_set]; exact h.len, fun j b e => ?_⟩
  by_cases q : i = j
  · subst q
    by_cases l : i < Δ.length
    · rw [List.getElem?_set_self l] at e
      cases e
      exact ⟨v, List.getElem?_set_self (by rw [h.len]; exact l), hv⟩
    · rw [List.getElem?_eq_none (by rw [List.length_set]; omega)] at e
      cases e
  · rw [List.getElem?_set_ne q] at e
    obtain ⟨w, h1, h2⟩ := h.get j b e
    exact ⟨w, by rw [List.getElem?_set_ne q]; exact h1, h2⟩
theorem StOk.unset (h : StOk K M H σ Δ) (i : Nat) (o : Option V) : StOk K M H (σ.set i o) (Δ.set i none) := by
  refine ⟨by rw [List.length_set, List.length_set]; exact h.len, fun j b e => ?_⟩
  by_cases q : i = j
  · subst q
    by_cases l : i < Δ.length
    · rw [List.getElem?_set_self l] at e; cases e
    · rw [List.getElem?_eq_none (by rw [List.length_set]; omega)] at e; cases e
  · rw [List.getElem?_set_ne q] at e
    obtain ⟨w, h1, h2⟩ := h.get j b e
    exact ⟨w, by rw [List.getElem?_set_ne q]; exact h1, h2⟩
end
def wipeE (Δ : Env) : List Nat → Env
  | [] => Δ
  | v :: vs => (wipeE Δ vs).set v none
theorem StOk.wipe {K : PySem.W.Frag} {M : Addr → Prop} {H : Hp} {σ : L2.St} {Δ : Env} (h : StOk K M H σ Δ) : ∀ vs, StOk K M H (L2.wipe σ vs) (wipeE Δ vs)
  | [] => h
  | v :: vs => StOk.unset (StOk.wipe h vs) v none
/-- adding a new address hides nothing that stood -/
theorem StOk.add {K : PySem.W.Frag} {W : Wd} {H : Hp} {σ : L2.St} {Δ : Env} {D : Addr} {u : HO} {φ : HO → Prop} (j : W.J H) (h : StOk K W.M H σ Δ) (n : H D = none) : StOk K (W.add D φ).M (upd H D u) σ Δ :=
  h.ext fun a o e => by
    by_cases m : W.M a
    · rw [hid_in m] at e; cases e
    · rw [hid_out m] at e
      have q : a ≠ D := ne_of_none e n
      have q' : ¬ (W.add D φ).M a := fun z => z.elim m q
      rw [hid_out q', upd_ne q]
      exact e
theorem Is.add {K : PySem.W.Frag} {W : Wd} {H : Hp} {v : V} {a : A} {D : Addr} {u : HO} {φ : HO → Prop} (h : Is K W.M H v a) (n : H D = none) : Is K (W.add D φ).M (upd H D u) v a :=
  h.ext fun b o e => by
    by_cases m : W.M b
    · rw [hid_in m] at e; cases e
    · rw [hid_out m] at e
      have q : b ≠ D := ne_of_none e n
      rw [hid_out (fun z : W.M b ∨ b = D => z.elim m q), upd_ne q]
      exact e
/-- .. and what stands with one more hidden stands without -/
theorem hid_add_le {W : Wd} {H : Hp} {D : Addr} {φ : HO → Prop} : Same (hid (W.add D φ).M H) (hid W.M H) := fun a o e => by
  by_cases m : W.M a ∨ a = D
  · rw [hid_in (M := (W.add D φ).M) m] at e; cases e
  · rw [hid_out (M := (W.add D φ).M) m] at e
    rw [hid_out fun z => m (.inl z)]
    exact e

/-! ### judgements -/
/-- an expression: from a state that is Δ it comes to something that R tells -/
def XE (K : PySem.W.Frag) (W : Wd) (te : TE) (Δ : Env) (R : A → Prop) : Prop := ∀ σ H, W.J H → StOk K W.M H σ Δ → ∀ Q : VK, (∀ v H' a, Fr W H H' → R a → Is K W.M H' v a → Q v H') → te σ H Q
def XT (K : PySem.W.Frag) (W : Wd) (tt : TT) (Δ : Env) (R : Bool → Prop) : Prop := ∀ σ H, W.J H → StOk K W.M H σ Δ → ∀ Q : Bool → Hp → Prop, (∀ b H', Fr W H H' → R b → Q b H') → tt σ H Q
inductive IsAll (K : PySem.W.Frag) (M : Addr → Prop) (H : Hp) : List V → List A → Prop
  | nil : IsAll K M H [] []
  | cons {v vs a as} : Is K M H v a → IsAll K M H vs as → IsAll K M H (v :: vs) (a :: as)
theorem IsAll.ext {K : PySem.W.Frag} {M M' : Addr → Prop} {H H' : Hp} (s : Same (hid M H) (hid M' H')) : ∀ {vs : List V} {as : List A}, IsAll K M H vs as → IsAll K M' H' vs as
  | _, _, .nil => .nil
  | _, _, .cons h t => .cons (h.ext s) (t.ext s)
theorem IsAll.length {K : PySem.W.Frag} {M : Addr → Prop} {H : Hp} : ∀ {vs : List V} {as : List A}, IsAll K M H vs as → vs.length = as.length
  | _, _, .nil => rfl
  | _, _, .cons _ t => congrArg (· + 1) t.length
def XA (K : PySem.W.Frag) (W : Wd) (ta : TA) (Δ : Env) (R : List A → Prop) : Prop := ∀ σ H, W.J H → StOk K W.M H σ Δ → ∀ Q : List V → Hp → Prop, (∀ vs H' as, Fr W H H' → R as → IsAll K W.M H' vs as → Q vs H') → ta σ H Q
/-- a statement -/
def XS (K : PySem.W.Frag) (W : Wd) (ts : TS) (Δ : Env) (N : Env → Prop) (Rt : A → Prop) (Bk Ct : Env → Prop) : Prop := ∀ σ H, W.J H → StOk K W.M H σ Δ → ∀ D : Ends,
  (∀ σ' H' Δ', Fr W H H' → StOk K W.M H' σ' Δ' → N Δ' → D.nx σ' H') → (∀ v H' a, Fr W H H' → Rt a → Is K W.M H' v a → D.rt v H') →
  (∀ σ' H' Δ', Fr W H H' → StOk K W.M H' σ' Δ' → Bk Δ' → D.bk σ' H') → (∀ σ' H' Δ', Fr W H H' → StOk K W.M H' σ' Δ' → Ct Δ' → D.ct σ' H') → ts D σ H
/-- a pure value -/
abbrev XV (K : PySem.W.Frag) (W : Wd) (te : TE) (Δ : Env) (a : A) : Prop := XE K W te Δ (· = a)
abbrev XB (K : PySem.W.Frag) (W : Wd) (tt : TT) (Δ : Env) (b : Bool) : Prop := XT K W tt Δ (· = b)
abbrev XAs (K : PySem.W.Frag) (W : Wd) (ta : TA) (Δ : Env) (as : List A) : Prop := XA K W ta Δ (· = as)

section
variable {K : PySem.W.Frag} {W : Wd} {Δ : Env} {ta tb tc te : TE} {R S : A → Prop} {x y z : PyData} {N N1 : Env → Prop} {Rt : A → Prop} {Bk Ct : Env → Prop} {ts tu : TS} {tt ut : TT}
theorem XE.mono (h : XE K W te Δ R) (m : ∀ a, R a → S a) : XE K W te Δ S := fun σ H j s Q q => h σ H j s Q fun v H' a f r i => q v H' a f (m a r) i
theorem XE.is {a b : A} (h : XV K W te Δ a) (e : a = b) : XV K W te Δ b := e ▸ h
theorem XT.mono {B C : Bool → Prop} (h : XT K W tt Δ B) (m : ∀ b, B b → C b) : XT K W tt Δ C := fun σ H j s Q q => h σ H j s Q fun b H' f r => q b H' f (m b r)
theorem XT.is {a b : Bool} (h : XB K W tt Δ a) (e : a = b) : XB K W tt Δ b := e ▸ h
theorem xe_var {i : Nat} {a : A} (h : Δ[i]? = some (some a)) : XV K W (tVar i) Δ a := fun σ H j s Q q => let ⟨v, h1, h2⟩ := s.get i a h; ⟨v, h1, q v H a (.refl j) rfl h2⟩
theorem xe_str {s : Str} : XV K W (tC (.str s)) Δ (.d (.str s)) := fun σ H j _ Q q => q _ H _ (.refl j) rfl (.str s)
theorem xe_int {i : Int} : XV K W (tC (.int i)) Δ (.d (.int i)) := fun σ H j _ Q q => q _ H _ (.refl j) rfl (.int i)
theorem xe_bl {b : Bool} : XV K W (tC (.bl b)) Δ (.d (.bool b)) := fun σ H j _ Q q => q _ H _ (.refl j) rfl (.bl b)
theorem xe_non : XV K W (tC .non) Δ (.d .none) := fun σ H j _ Q q => q _ H _ (.refl j) rfl .non
theorem xe_c {v : V} : XV K W (tC v) Δ (.v v) := fun σ H j _ Q q => q _ H _ (.refl j) rfl rfl
theorem xa_nil : XAs K W tNil Δ [] := fun σ H j _ Q q => q _ H _ (.refl j) rfl .nil
theorem xa_cons {tr : TA} {a : A} {as : List A} (h : XV K W te Δ a) (r : XAs K W tr Δ as) : XAs K W (tCons te tr) Δ (a :: as) := fun σ H j s Q q =>
  h σ H j s _ fun v H1 b f1 e1 i1 => r σ H1 f1.j (s.fr f1) _ fun vs H2 bs f2 e2 i2 => by
    subst e1 e2
    exact q _ H2 _ (f1.trans f2) rfl (.cons (i1.fr f2) i2)
/-- all arguments data -/
def dAll : List PyData → List A := List.map A.d
theorem dts_of {M : Addr → Prop} {H : Hp} : ∀ {ds : List PyData} {vs : List V}, IsAll K M H vs (dAll ds) → DtAll K (hid M H) vs ds
  | [], _, .nil => .nil
  | d :: ds, _, .cons h t => .cons h (dts_of t)
theorem xe_tup {t : TA} {ds : List PyData} (h : XAs K W t Δ (dAll ds)) (n : ds.length ≤ 10000 := by decide) : XV K W (tTup t) Δ (.d (.tuple ds)) := fun σ H j s Q q =>
  h σ H j s _ fun vs H1 as f1 e i => by
    subst e
    have d := dts_of i
    refine ⟨by rw [d.length]; exact Nat.le_trans n (by decide), fun p np => q _ _ _ (f1.trans (.new f1.j np)) rfl ?_⟩
    exact Dt.tup (.inl (.inl (hid_new f1.j np))) (DtAll.ext (Fr.same (.new f1.j np)) _ _ d)
theorem xe_lst {t : TA} {ds : List PyData} (h : XAs K W t Δ (dAll ds)) (n : ds.length ≤ 10000 := by decide) : XV K W (tLst t) Δ (.d (.list ds)) := fun σ H j s Q q =>
  h σ H j s _ fun vs H1 as f1 e i => by
    subst e
    have d := dts_of i
    refine ⟨by rw [d.length]; exact Nat.le_trans n (by decide), fun p np => q _ _ _ (f1.trans (.new f1.j np)) rfl ?_⟩
    exact Dt.lst (hid_new f1.j np) (DtAll.ext (Fr.same (.new f1.j np)) _ _ d)
end
end V2

set_option Elab.async false
set_option linter.all false
set_option maxRecDepth 100000
set_option maxHeartbeats 1000000
namespace V2
open PySem PySem.Spec PyProof.Rows L2

/-! ### operators by names -/
def rII (f : Int → Int → Int) : R2 := rI0 fun i j => .int (f i j)
def rIB (f : Int → Int → Bool) : R2 := rI0 fun i j => .bl (f i j)
def rMulS : R2 := rI CMul fun i j => .int (i * j)
def rModP : R2 := rI (fun _ j => 0 < j) fun i j => .int (i % j)
def rDivP : R2 := rI CDiv fun i j => .int (i / j)
def rStrAdd : R2 := fun x y H Q => ∃ i j, x = .str i ∧ y = .str j ∧ i.length + j.length ≤ sizeLine ∧ Q (.str (i ++ j)) H
def rStrLe : R2 := fun x y H Q => ∃ i j, x = .str i ∧ y = .str j ∧ Q (.bl (!decide (j.cps.toList < i.cps.toList))) H
def rIsNo : R2 := fun x y H Q => y = .non ∧ Q (.bl (decide (x = .non))) H
def rIsNotNo : R2 := fun x y H Q => y = .non ∧ Q (.bl (!decide (x = .non))) H
def rLen (K : PySem.W.Frag) : List V → Hp → VK → Prop := fun xs H Q => ∃ p ys, xs = [.ref p] ∧ (SqL K H p ys ∨ SqT K H p ys) ∧ Q (.int ys.length) H
def rLenS : List V → Hp → VK → Prop := fun xs H Q => ∃ z, xs = [.str z] ∧ z.length ≤ sizeLine ∧ Q (.int z.length) H
def rLenA (K : PySem.W.Frag) : List V → Hp → VK → Prop := fun xs H Q => rLen K xs H Q ∨ rLenS xs H Q
def rMaxI : List V → Hp → VK → Prop := fun xs H Q => ∃ i j, xs = [.int i, .int j] ∧ Q (.int (if j > i then j else i)) H
def rMinI : List V → Hp → VK → Prop := fun xs H Q => ∃ i j, xs = [.int i, .int j] ∧ Q (.int (if j < i then j else i)) H
section
variable {X : Cx}
theorem o_add : OpR X (binaryOp .Add) (rII fun i j => i + j) := op_add
theorem o_sub : OpR X (binaryOp .Sub) (rII fun i j => i - j) := op_sub
theorem o_mul : OpR X (binaryOp .Mult) rMulS := op_mul
theorem o_mod : OpR X (binaryOp .Mod) rModP := op_mod
theorem o_fdiv : OpR X (binaryOp .FloorDiv) rDivP := op_fdiv
theorem o_lt : OpR X (compareOp .Lt) (rIB fun i j => decide (i < j)) := op_lt
theorem o_le : OpR X (compareOp .LtE) (rIB fun i j => decide (i ≤ j)) := op_le
theorem o_gt : OpR X (compareOp .Gt) (rIB fun i j => decide (j < i)) := op_gt
theorem o_ge : OpR X (compareOp .GtE) (rIB fun i j => decide (j ≤ i)) := op_ge
theorem o_addS : OpR X (binaryOp .Add) rStrAdd := op_add_str
theorem o_leS : OpR X (compareOp .LtE) rStrLe := op_le_str
theorem o_isN : OpR X (compareOp .Is) rIsNo := op_isN
theorem o_notN : OpR X (compareOp .IsNot) rIsNotNo := op_notN
theorem c_len : CallR X (.builtin "len") (rLen X.K) := call_len_seq
theorem c_lenS : CallR X (.builtin "len") rLenS := call_len_str
theorem c_lenA : CallR X (.builtin "len") (rLenA X.K) := by
  intro pins s σ H xs us Q I r h
  rcases h with h | h
  · exact c_len pins s σ H xs us Q I r h
  · exact c_lenS pins s σ H xs us Q I r h
theorem c_max (hc : X.calm = true) : CallR X (.builtin "max") rMaxI := call_max2 hc
theorem c_min (hc : X.calm = true) : CallR X (.builtin "min") rMinI := call_min2 hc
end

/-! ### what the operators do to data -/
section
variable {K : PySem.W.Frag} {W : Wd} {Δ : Env} {ta tb tc te : TE} {R S T : A → Prop} {N N1 : Env → Prop} {Rt : A → Prop} {Bk Ct : Env → Prop} {ts tu : TS} {tt ut : TT} {t : TA}
def OX (K : PySem.W.Frag) (W : Wd) (r : R2) (a b : A) (R : A → Prop) : Prop := ∀ v w H, W.J H → Is K W.M H v a → Is K W.M H w b → ∀ Q : VK, (∀ u H' c, Fr W H H' → R c → Is K W.M H' u c → Q u H') → r v w H Q
def CX1 (K : PySem.W.Frag) (W : Wd) (r : List V → Hp → VK → Prop) (as : List A) (R : A → Prop) : Prop := ∀ vs H, W.J H → IsAll K W.M H vs as → ∀ Q : VK, (∀ u H' c, Fr W H H' → R c → Is K W.M H' u c → Q u H') → r vs H Q
theorem xe_opR {r : R2} (ha : XE K W ta Δ R) (hb : XE K W tb Δ S) (hr : ∀ a b, R a → S b → OX K W r a b T) : XE K W (tOp r ta tb) Δ T := fun σ H j s Q q =>
  ha σ H j s _ fun v H1 a f1 ra i1 => hb σ H1 f1.j (s.fr f1) _ fun w H2 b f2 rb i2 => hr a b ra rb v w H2 f2.j (i1.fr f2) i2 Q fun u H3 c f3 rc i3 => q u H3 c ((f1.trans f2).trans f3) rc i3
theorem xe_op {r : R2} {a b : A} (ha : XV K W ta Δ a) (hb : XV K W tb Δ b) (hr : OX K W r a b T) : XE K W (tOp r ta tb) Δ T := xe_opR ha hb fun _ _ e e' => by
  subst e e'
  exact hr
theorem xe_cbR {r : List V → Hp → VK → Prop} {Ra : List A → Prop} (ha : XA K W t Δ Ra) (hr : ∀ as, Ra as → CX1 K W r as T) : XE K W (tCB r t) Δ T := fun σ H j s Q q =>
  ha σ H j s _ fun vs H1 as f1 ra i1 => hr as ra vs H1 f1.j i1 Q fun u H2 c f2 rc i2 => q u H2 c (f1.trans f2) rc i2
theorem xe_cb {r : List V → Hp → VK → Prop} {as : List A} (ha : XAs K W t Δ as) (hr : CX1 K W r as T) : XE K W (tCB r t) Δ T := xe_cbR ha fun _ e => by
  subst e
  exact hr
theorem ox_II {f : Int → Int → Int} {i j : Int} : OX K W (rII f) (.d (.int i)) (.d (.int j)) (· = .d (.int (f i j))) := fun v w H j' i1 i2 Q q => by
  cases i1; cases i2
  exact ⟨_, _, rfl, rfl, q _ H _ (.refl j') rfl (.int _)⟩
theorem ox_IB {f : Int → Int → Bool} {i j : Int} : OX K W (rIB f) (.d (.int i)) (.d (.int j)) (· = .d (.bool (f i j))) := fun v w H j' i1 i2 Q q => by
  cases i1; cases i2
  exact ⟨_, _, rfl, rfl, q _ H _ (.refl j') rfl (.bl _)⟩
theorem ox_mod {i j : Int} (h : 0 < j) : OX K W rModP (.d (.int i)) (.d (.int j)) (· = .d (.int (i % j))) := fun v w H j' i1 i2 Q q => by
  cases i1; cases i2
  exact ⟨_, _, rfl, rfl, h, q _ H _ (.refl j') rfl (.int _)⟩
theorem ox_div {i j : Int} (h : CDiv i j) : OX K W rDivP (.d (.int i)) (.d (.int j)) (· = .d (.int (i / j))) := fun v w H j' i1 i2 Q q => by
  cases i1; cases i2
  exact ⟨_, _, rfl, rfl, h, q _ H _ (.refl j') rfl (.int _)⟩
theorem ox_mul {i j : Int} (h : CMul i j) : OX K W rMulS (.d (.int i)) (.d (.int j)) (· = .d (.int (i * j))) := fun v w H j' i1 i2 Q q => by
  cases i1; cases i2
  exact ⟨_, _, rfl, rfl, h, q _ H _ (.refl j') rfl (.int _)⟩
theorem ox_addS {i j : Str} (h : i.length + j.length ≤ sizeLine) : OX K W rStrAdd (.d (.str i)) (.d (.str j)) (· = .d (.str (i ++ j))) := fun v w H j' i1 i2 Q q => by
  cases i1; cases i2
  exact ⟨_, _, rfl, rfl, h, q _ H _ (.refl j') rfl (.str _)⟩
theorem ox_leS {i j : Str} : OX K W rStrLe (.d (.str i)) (.d (.str j)) (· = .d (.bool (!decide (j.cps.toList < i.cps.toList)))) := fun v w H j' i1 i2 Q q => by
  cases i1; cases i2
  exact ⟨_, _, rfl, rfl, q _ H _ (.refl j') rfl (.bl _)⟩
theorem ox_cat {xs ys : List PyData} (n : xs.length + ys.length ≤ 100000) : OX K W rCat (.d (.list xs)) (.d (.list ys)) (· = .d (.list (xs ++ ys))) := fun v w H j i1 i2 Q q => by
  cases i1 with
  | lst h1 d1 =>
    cases i2 with
    | lst h2 d2 =>
      refine ⟨_, _, _, _, rfl, rfl, hid_le _ _ h1, hid_le _ _ h2, by rw [d1.length, d2.length]; exact Nat.le_trans n (by decide), fun p np => ?_⟩
      exact q _ _ _ (.new j np) rfl (Dt.lst (hid_new j np) (DtAll.append (DtAll.ext (Fr.same (.new j np)) _ _ d1) (DtAll.ext (Fr.same (.new j np)) _ _ d2)))
theorem ox_ixL {xs : List PyData} {i : Int} {z : PyData} (h0 : 0 ≤ i) (h : xs[i.toNat]? = some z) : OX K W (rIxL K) (.d (.list xs)) (.d (.int i)) (· = .d z) := fun v w H j i1 i2 Q q => by
  cases i2
  cases i1 with
  | lst h1 d1 =>
    obtain ⟨u, hu, du⟩ := d1.get h
    exact ⟨_, _, _, u, rfl, rfl, .inl (.inl (hid_le _ _ h1)), at_of (j := i.toNat) (by omega) hu, q _ H _ (.refl j) rfl du⟩
theorem ox_ixT {xs : List PyData} {i : Int} {z : PyData} (h0 : 0 ≤ i) (h : xs[i.toNat]? = some z) : OX K W (rIxT K) (.d (.tuple xs)) (.d (.int i)) (· = .d z) := fun v w H j i1 i2 Q q => by
  cases i2
  cases i1 with
  | tup h1 d1 =>
    obtain ⟨u, hu, du⟩ := d1.get h
    exact ⟨_, _, _, u, rfl, rfl, sqT_same hid_le h1, at_of (j := i.toNat) (by omega) hu, q _ H _ (.refl j) rfl du⟩
/-- an item of a list at a place that is somewhere in it -/
theorem xe_ixLR {xs : List PyData} (ha : XV K W ta Δ (.d (.list xs))) (hb : XE K W tb Δ fun a => ∃ i : Int, a = .d (.int i) ∧ 0 ≤ i ∧ i < xs.length) : XE K W (tOp (rIxL K) ta tb) Δ fun a => ∃ z ∈ xs, a = .d z :=
  xe_opR ha hb fun a b e ⟨i, e', h0, h1⟩ => by
    subst e e'
    have l : i.toNat < xs.length := by omega
    intro v w H j i1 i2 Q q
    exact ox_ixL h0 (List.getElem?_eq_getElem l) v w H j i1 i2 Q fun u H' c f rc ic => q u H' c f ⟨_, List.getElem_mem l, rc⟩ ic
/-- of flat data a value that is it -/
def vOf : PyData → V
  | .none => .non | .bool b => .bl b | .int i => .int i | .str x => .str x | _ => .non
theorem Dt.flat {H : Hp} {v : V} {d : PyData} (h : Dt K H v d) (f : flat d = true) : v = vOf d := by
  cases h <;> first | rfl | (simp [V2.flat] at f)
theorem Dt.ofFlat {H : Hp} {d : PyData} (f : V2.flat d = true) : Dt K H (vOf d) d := by
  cases d <;> first | constructor | (simp [V2.flat] at f)
def eqF (d e : PyData) : Bool := decide (vOf d = vOf e)
theorem ox_eq {d e : PyData} (f : flat d = true) (g : flat e = true) (h : scal (vOf d) (vOf e) = true) : OX K W rEq (.d d) (.d e) (· = .d (.bool (eqF d e))) := fun v w H j i1 i2 Q q => by
  obtain rfl := Dt.flat i1 f
  obtain rfl := Dt.flat i2 g
  exact ⟨h, q _ H _ (.refl j) rfl (.bl _)⟩
theorem ox_ne {d e : PyData} (f : flat d = true) (g : flat e = true) (h : scal (vOf d) (vOf e) = true) : OX K W rNe (.d d) (.d e) (· = .d (.bool (!eqF d e))) := fun v w H j i1 i2 Q q => by
  obtain rfl := Dt.flat i1 f
  obtain rfl := Dt.flat i2 g
  exact ⟨h, q _ H _ (.refl j) rfl (.bl _)⟩
theorem ox_eqD {d e : PyData} (f : d.hasDict = false) (g : e.hasDict = false) (sd : SeqAt.shaped d = true) (se : SeqAt.shaped e = true) : OX K W (rEqD K) (.d d) (.d e) (· = .d (.bool (PyData.eqv d e))) := fun v w H j i1 i2 Q q =>
  ⟨d, e, Dt.dp _ _ f (Dt.ext hid_le _ _ i1), Dt.dp _ _ g (Dt.ext hid_le _ _ i2), sd, se, q _ H _ (.refl j) rfl (.bl _)⟩
theorem ox_neD {d e : PyData} (f : d.hasDict = false) (g : e.hasDict = false) (sd : SeqAt.shaped d = true) (se : SeqAt.shaped e = true) : OX K W (rNeD K) (.d d) (.d e) (· = .d (.bool (!PyData.eqv d e))) := fun v w H j i1 i2 Q q =>
  ⟨d, e, Dt.dp _ _ f (Dt.ext hid_le _ _ i1), Dt.dp _ _ g (Dt.ext hid_le _ _ i2), sd, se, q _ H _ (.refl j) rfl (.bl _)⟩
def isNo : PyData → Bool
  | .none => true
  | _ => false
theorem ox_isN {d : PyData} : OX K W rIsNo (.d d) (.d .none) (· = .d (.bool (isNo d))) := fun v w H j i1 i2 Q q => by
  cases i2
  refine ⟨rfl, ?_⟩
  have e : decide (v = .non) = (isNo d) := by
    cases i1 <;> first | rfl | exact decide_eq_false (by nofun)
  rw [e]
  exact q _ H _ (.refl j) rfl (.bl _)
theorem ox_notN {d : PyData} : OX K W rIsNotNo (.d d) (.d .none) (· = .d (.bool (!isNo d))) := fun v w H j i1 i2 Q q => by
  cases i2
  refine ⟨rfl, ?_⟩
  have e : decide (v = .non) = (isNo d) := by
    cases i1 <;> first | rfl | exact decide_eq_false (by nofun)
  rw [e]
  exact q _ H _ (.refl j) rfl (.bl _)
/-- in, not in over flat items -/
def inF (d : PyData) (ds : List PyData) : Bool := inV (vOf d) (ds.map vOf)
theorem DtAll.flats {H : Hp} : ∀ {vs : List V} {ds : List PyData}, DtAll K H vs ds → ds.all flat = true → vs = ds.map vOf
  | _, _, .nil, _ => rfl
  | _, _, .cons h t, f => by
    rw [List.all_cons, Bool.and_eq_true] at f
    rw [List.map_cons, h.flat f.1, DtAll.flats t f.2]
theorem flatV_of {d : PyData} (f : flat d = true) : flatV (vOf d) = true := by cases d <;> first | rfl | (simp [V2.flat] at f)
theorem flatVs_of : ∀ {ds : List PyData}, ds.all flat = true → (ds.map vOf).all flatV = true
  | [], _ => rfl
  | d :: ds, f => by
    rw [List.all_cons, Bool.and_eq_true] at f
    rw [List.map_cons, List.all_cons, flatV_of f.1, flatVs_of f.2]
    rfl
theorem ox_inT {d : PyData} {ds : List PyData} {n : Bool} (f : flat d = true) (g : ds.all flat = true) : OX K W (rIn K n) (.d d) (.d (.tuple ds)) (· = .d (.bool (if n then !inF d ds else inF d ds))) := fun v w H j i1 i2 Q q => by
  obtain rfl := Dt.flat i1 f
  cases i2 with
  | tup h2 d2 =>
    obtain rfl := d2.flats g
    exact ⟨_, _, rfl, .inr (sqT_same hid_le h2), flatV_of f, flatVs_of g, q _ H _ (.refl j) rfl (.bl _)⟩
theorem ox_inL {d : PyData} {ds : List PyData} {n : Bool} (f : flat d = true) (g : ds.all flat = true) : OX K W (rIn K n) (.d d) (.d (.list ds)) (· = .d (.bool (if n then !inF d ds else inF d ds))) := fun v w H j i1 i2 Q q => by
  obtain rfl := Dt.flat i1 f
  cases i2 with
  | lst h2 d2 =>
    obtain rfl := d2.flats g
    exact ⟨_, _, rfl, .inl (.inl (.inl (hid_le _ _ h2))), flatV_of f, flatVs_of g, q _ H _ (.refl j) rfl (.bl _)⟩

/-! ### built-ins -/
theorem cx_reprK {ds : List (PyData × PyData)} (f : flatKv ds = true) (dp : PyData.depth (.dict ds) ≤ 60) (sh : PyData.showable (.dict ds) = true) (hw : (PyData.shown (.dict ds)).length ≤ 1000000) : CX1 K W (rRepr K) [.d (.dict ds)] (· = .d (.str (PyData.shown (.dict ds)))) := fun vs H j i Q q => by
  cases i with
  | cons h t =>
    cases t
    exact .inr ⟨_, ds, rfl, Dt.ext hid_le _ _ h, f, sh, dp, hw, q _ H _ (.refl j) rfl (.str _)⟩
theorem cx_repr {d : PyData} (nd : d.hasDict = false) (sh : d.showable = true) (dp : d.depth ≤ 60) (hw : wt d ≤ 1000000) : CX1 K W (rRepr K) [.d d] (· = .d (.str d.shown)) := fun vs H j i Q q => by
  cases i with
  | cons h t =>
    cases t
    exact .inl ⟨_, d, rfl, Dt.ext hid_le _ _ h, nd, sh, dp, hw, q _ H _ (.refl j) rfl (.str _)⟩
theorem cx_lenL {xs : List PyData} : CX1 K W (rLen K) [.d (.list xs)] (· = .d (.int xs.length)) := fun vs H j i Q q => by
  cases i with
  | cons h t =>
    cases t
    cases h with
    | lst h1 d1 => exact ⟨_, _, rfl, .inl (.inl (.inl (hid_le _ _ h1))), by rw [d1.length]; exact q _ H _ (.refl j) rfl (.int _)⟩
theorem cx_lenT {xs : List PyData} : CX1 K W (rLen K) [.d (.tuple xs)] (· = .d (.int xs.length)) := fun vs H j i Q q => by
  cases i with
  | cons h t =>
    cases t
    cases h with
    | tup h1 d1 => exact ⟨_, _, rfl, .inr (sqT_same hid_le h1), by rw [d1.length]; exact q _ H _ (.refl j) rfl (.int _)⟩
theorem cx_lenS {x : Str} (h : x.length ≤ sizeLine) : CX1 K W rLenS [.d (.str x)] (· = .d (.int x.length)) := fun vs H j i Q q => by
  cases i with
  | cons h t =>
    cases t
    cases h
    exact ⟨_, rfl, h, q _ H _ (.refl j) rfl (.int _)⟩
theorem cx_max {i k : Int} : CX1 K W rMaxI [.d (.int i), .d (.int k)] (· = .d (.int (if k > i then k else i))) := fun vs H j i Q q => by
  cases i with
  | cons h t =>
    cases h
    cases t with
    | cons h t =>
      cases h
      cases t
      exact ⟨_, _, rfl, q _ H _ (.refl j) rfl (.int _)⟩
theorem cx_min {i k : Int} : CX1 K W rMinI [.d (.int i), .d (.int k)] (· = .d (.int (if k < i then k else i))) := fun vs H j i Q q => by
  cases i with
  | cons h t =>
    cases h
    cases t with
    | cons h t =>
      cases h
      cases t
      exact ⟨_, _, rfl, q _ H _ (.refl j) rfl (.int _)⟩
def bools : List PyData → Option (List Bool)
  | [] => some []
  | .bool b :: r => (bools r).map (b :: ·)
  | _ => none
theorem bools_map : ∀ {ds : List PyData} {bs : List Bool}, bools ds = some bs → ds = bs.map PyData.bool
  | [], bs, h => by cases h; rfl
  | d :: r, bs, h => by
    cases d <;> simp [bools] at h
    obtain ⟨cs, h1, rfl⟩ := h
    rw [bools_map h1]; rfl
theorem dts_bools {H : Hp} : ∀ {vs : List V} {bs : List Bool}, DtAll K H vs (bs.map PyData.bool) → vs = bs.map V.bl
  | _, [], .nil => rfl
  | _, b :: bs, .cons h t => by
    cases h
    rw [dts_bools t]; rfl
theorem cx_all {bs : List Bool} : CX1 K W (rAll K) [.d (.list (bs.map PyData.bool))] (· = .d (.bool (bs.all id))) := fun vs H j i Q q => by
  cases i with
  | cons h t =>
    cases t
    cases h with
    | lst h1 d1 =>
      obtain rfl := dts_bools d1
      exact ⟨_, bs, rfl, .inl (.inl (hid_le _ _ h1)), q _ H _ (.refl j) rfl (.bl _)⟩
/-! isinstance -/
def tyN : PyData → String
  | .none => "NoneType" | .bool _ => "bool" | .int _ => "int" | .str _ => "str" | .list _ => "list" | .tuple _ => "tuple" | .dict _ => "dict"
theorem tyX_of {H : Hp} {v : V} {d : PyData} (h : Dt K H v d) : TyX K H v (.type (tyN d)) := by
  cases h with
  | non => exact .base .non
  | bl b => exact .base (.bl b)
  | int i => exact .base (.int i)
  | str x => exact .base (.str x)
  | lst h _ => exact .base (.lst h)
  | tup h _ =>
    rcases h with (h | ⟨o, h⟩) | ⟨o, its, n, h, c, _⟩
    · exact .base (.tup h)
    · exact .fTuple h
    · exact .kTuple h c
  | dct h _ => exact .base (.dK h)
def isiD (d : PyData) (T : String) : Bool := tyN d == T || (tyN d == "bool" && T == "int")
theorem cx_isi {d : PyData} {T : String} {b : Bool} (h : kitB (tyN d) T = some b) : CX1 K W (rIsi K) [.d d, .v (.ty T)] (· = .d (.bool b)) := fun vs H j i Q q => by
  cases i with
  | cons h1 t =>
    cases t with
    | cons h2 t =>
      cases t
      have e : _ = V.ty T := h2
      subst e
      exact ⟨_, _, _, _, b, rfl, .ty T, tyX_of (Dt.ext hid_le _ _ h1), kit_ty h, q _ H _ (.refl j) rfl (.bl _)⟩

/-! ### tests -/
theorem xt_test {b : Bool} (h : XV K W te Δ (.d (.bool b))) : XB K W (tTest te) Δ b := fun σ H j s Q q => h σ H j s _ fun v H1 a f e i => by
  subst e
  cases i
  exact ⟨_, rfl, q _ H1 f rfl⟩
theorem xt_testR {B : Bool → Prop} (h : XE K W te Δ fun a => ∃ b, a = .d (.bool b) ∧ B b) : XT K W (tTest te) Δ B := fun σ H j s Q q => h σ H j s _ fun v H1 a f e i => by
  obtain ⟨b, e, hb⟩ := e
  subst e
  cases i
  exact ⟨_, rfl, q _ H1 f hb⟩
theorem xt_B {b : Bool} (h : XV K W te Δ (.d (.bool b))) : XB K W (tB te) Δ b := fun σ H j s Q q => h σ H j s _ fun v H1 a f e i => by
  subst e
  cases i
  exact ⟨_, rfl, q _ H1 f rfl⟩
theorem xt_and {a b : Bool} (h : XB K W tt Δ a) (h' : a = true → XB K W ut Δ b) : XB K W (tAnd tt ut) Δ (a && b) := fun σ H j s Q q => h σ H j s _ fun v H1 f e => by
  subst e
  cases v with
  | true => exact iteT (h' rfl σ H1 f.j (s.fr f) Q fun c H2 f2 e => q c H2 (f.trans f2) (by rw [e]; rfl))
  | false => exact iteF (q false H1 f rfl)
theorem xt_or {a b : Bool} (h : XB K W tt Δ a) (h' : a = false → XB K W ut Δ b) : XB K W (tOr tt ut) Δ (a || b) := fun σ H j s Q q => h σ H j s _ fun v H1 f e => by
  subst e
  cases v with
  | false => exact iteF (h' rfl σ H1 f.j (s.fr f) Q fun c H2 f2 e => q c H2 (f.trans f2) (by rw [e]; rfl))
  | true => exact iteT (q true H1 f rfl)
theorem xt_not {a : Bool} (h : XB K W tt Δ a) : XB K W (tNot tt) Δ (!a) := fun σ H j s Q q => h σ H j s _ fun v H1 f e => q _ H1 f (by rw [e])
theorem xe_andV {a b : Bool} (h : XV K W ta Δ (.d (.bool a))) (h' : a = true → XV K W tb Δ (.d (.bool b))) : XV K W (tAndV ta tb) Δ (.d (.bool (a && b))) := fun σ H j s Q q => h σ H j s _ fun v H1 c f e i => by
  subst e
  cases i
  refine ⟨a, rfl, ?_⟩
  cases a with
  | true => exact iteT (h' rfl σ H1 f.j (s.fr f) Q fun c H2 z f2 e i => q c H2 z (f.trans f2) (by rw [e]; rfl) i)
  | false => exact iteF (q _ H1 _ f rfl (.bl _))
theorem xe_orV {a b : Bool} (h : XV K W ta Δ (.d (.bool a))) (h' : a = false → XV K W tb Δ (.d (.bool b))) : XV K W (tOrV ta tb) Δ (.d (.bool (a || b))) := fun σ H j s Q q => h σ H j s _ fun v H1 c f e i => by
  subst e
  cases i
  refine ⟨a, rfl, ?_⟩
  cases a with
  | false => exact iteF (h' rfl σ H1 f.j (s.fr f) Q fun c H2 z f2 e i => q c H2 z (f.trans f2) (by rw [e]; rfl) i)
  | true => exact iteT (q _ H1 _ f rfl (.bl _))
theorem xe_notV {a : Bool} (h : XV K W ta Δ (.d (.bool a))) : XV K W (tNotV ta) Δ (.d (.bool (!a))) := fun σ H j s Q q => h σ H j s _ fun v H1 c f e i => by
  subst e
  cases i
  exact ⟨a, rfl, q _ H1 _ f rfl (.bl _)⟩
theorem xe_if {b : Bool} (h : XB K W tt Δ b) (h1 : b = true → XE K W ta Δ R) (h2 : b = false → XE K W tb Δ R) : XE K W (tIf tt ta tb) Δ R := fun σ H j s Q q => h σ H j s _ fun v H1 f e => by
  subst e
  cases v with
  | true => exact iteT (h1 rfl σ H1 f.j (s.fr f) Q fun c H2 z f2 r i => q c H2 z (f.trans f2) r i)
  | false => exact iteF (h2 rfl σ H1 f.j (s.fr f) Q fun c H2 z f2 r i => q c H2 z (f.trans f2) r i)
theorem xe_chain {r r' : R2} {a b c : A} {k : Bool} {k' : Bool} (ha : XV K W ta Δ a) (hb : XV K W tb Δ b) (h1 : OX K W r a b (· = .d (.bool k))) (hc : k = true → XV K W tc Δ c) (h2 : k = true → OX K W r' b c (· = .d (.bool k'))) :
    XV K W (tChain r r' ta tb tc) Δ (.d (.bool (k && k'))) := fun σ H j s Q q =>
  ha σ H j s _ fun v H1 a' f1 e1 i1 => hb σ H1 f1.j (s.fr f1) _ fun w H2 b' f2 e2 i2 => by
    subst e1 e2
    refine h1 v w H2 f2.j (i1.fr f2) i2 _ fun z H3 c' f3 e3 i3 => ?_
    subst e3
    cases i3
    refine ⟨k, rfl, ?_⟩
    cases k with
    | true =>
      refine iteT (hc rfl σ H3 f3.j (s.fr ((f1.trans f2).trans f3)) _ fun u H4 d f4 e4 i4 => ?_)
      subst e4
      exact h2 rfl w u H4 f4.j (i2.fr (f3.trans f4)) i4 Q fun y H5 g f5 e5 i5 => q y H5 g ((((f1.trans f2).trans f3).trans f4).trans f5) (by rw [e5]; rfl) i5
    | false => exact iteF (q _ H3 _ ((f1.trans f2).trans f3) rfl (.bl _))

/-! ### statements -/
theorem xs_next (h : N Δ) : XS K W tNext Δ N Rt Bk Ct := fun σ H j s D n _ _ _ => n σ H Δ (.refl j) s h
theorem xs_seq (h : XS K W ts Δ N1 Rt Bk Ct) (h' : ∀ Δ', N1 Δ' → XS K W tu Δ' N Rt Bk Ct) : XS K W (tSeq ts tu) Δ N Rt Bk Ct := fun σ H j s D n r b c =>
  h σ H j s { D with nx := tu D } (fun σ1 H1 Δ1 f1 s1 n1 => h' Δ1 n1 σ1 H1 f1.j s1 D (fun σ2 H2 Δ2 f2 => n σ2 H2 Δ2 (f1.trans f2)) (fun v H2 a f2 => r v H2 a (f1.trans f2))
    (fun σ2 H2 Δ2 f2 => b σ2 H2 Δ2 (f1.trans f2)) fun σ2 H2 Δ2 f2 => c σ2 H2 Δ2 (f1.trans f2)) r b c
theorem xs_setR {i : Nat} (h : XE K W te Δ R) (n : ∀ a, R a → N (Δ.set i (some a))) : XS K W (tAsg te (gName i)) Δ N Rt Bk Ct := fun σ H j s D nx _ _ _ =>
  h σ H j s _ fun v H1 a f r i1 => nx _ H1 _ f ((s.fr f).set i i1) (n a r)
theorem xs_set {i : Nat} {a : A} (h : XV K W te Δ a) (n : N (Δ.set i (some a))) : XS K W (tAsg te (gName i)) Δ N Rt Bk Ct := xs_setR h fun _ e => by
  subst e
  exact n
theorem xs_ret (h : XE K W te Δ R) (m : ∀ a, R a → Rt a) : XS K W (tRet te) Δ N Rt Bk Ct := fun σ H j s D _ rt _ _ => h σ H j s _ fun v H1 a f r i1 => rt v H1 a f (m a r) i1
theorem xs_if {b : Bool} (h : XB K W tt Δ b) (h1 : b = true → XS K W ts Δ N Rt Bk Ct) (h2 : b = false → XS K W tu Δ N Rt Bk Ct) : XS K W (tIfS tt ts tu) Δ N Rt Bk Ct := fun σ H j s D nx rt bk ct =>
  h σ H j s _ fun v H1 f e => by
    subst e
    cases v with
    | true => exact iteT (h1 rfl σ H1 f.j (s.fr f) D (fun σ2 H2 Δ2 f2 => nx σ2 H2 Δ2 (f.trans f2)) (fun v H2 a f2 => rt v H2 a (f.trans f2)) (fun σ2 H2 Δ2 f2 => bk σ2 H2 Δ2 (f.trans f2)) fun σ2 H2 Δ2 f2 => ct σ2 H2 Δ2 (f.trans f2))
    | false => exact iteF (h2 rfl σ H1 f.j (s.fr f) D (fun σ2 H2 Δ2 f2 => nx σ2 H2 Δ2 (f.trans f2)) (fun v H2 a f2 => rt v H2 a (f.trans f2)) (fun σ2 H2 Δ2 f2 => bk σ2 H2 Δ2 (f.trans f2)) fun σ2 H2 Δ2 f2 => ct σ2 H2 Δ2 (f.trans f2))
theorem xs_ifR {B : Bool → Prop} (h : XT K W tt Δ B) (h1 : B true → XS K W ts Δ N Rt Bk Ct) (h2 : B false → XS K W tu Δ N Rt Bk Ct) : XS K W (tIfS tt ts tu) Δ N Rt Bk Ct := fun σ H j s D nx rt bk ct =>
  h σ H j s _ fun v H1 f e => by
    cases v with
    | true => exact iteT (h1 e σ H1 f.j (s.fr f) D (fun σ2 H2 Δ2 f2 => nx σ2 H2 Δ2 (f.trans f2)) (fun v H2 a f2 => rt v H2 a (f.trans f2)) (fun σ2 H2 Δ2 f2 => bk σ2 H2 Δ2 (f.trans f2)) fun σ2 H2 Δ2 f2 => ct σ2 H2 Δ2 (f.trans f2))
    | false => exact iteF (h2 e σ H1 f.j (s.fr f) D (fun σ2 H2 Δ2 f2 => nx σ2 H2 Δ2 (f.trans f2)) (fun v H2 a f2 => rt v H2 a (f.trans f2)) (fun σ2 H2 Δ2 f2 => bk σ2 H2 Δ2 (f.trans f2)) fun σ2 H2 Δ2 f2 => ct σ2 H2 Δ2 (f.trans f2))
theorem xs_mono {N' : Env → Prop} {Rt' : A → Prop} {Bk' Ct' : Env → Prop} (h : XS K W ts Δ N Rt Bk Ct) (n : ∀ Δ, N Δ → N' Δ) (r : ∀ a, Rt a → Rt' a) (b : ∀ Δ, Bk Δ → Bk' Δ) (c : ∀ Δ, Ct Δ → Ct' Δ) : XS K W ts Δ N' Rt' Bk' Ct' :=
  fun σ H j s D nx rt bk ct => h σ H j s D (fun σ' H' Δ' f s' q => nx σ' H' Δ' f s' (n _ q)) (fun v H' a f q => rt v H' a f (r _ q)) (fun σ' H' Δ' f s' q => bk σ' H' Δ' f s' (b _ q)) fun σ' H' Δ' f s' q => ct σ' H' Δ' f s' (c _ q)
end
end V2

set_option Elab.async false
set_option linter.all false
set_option maxRecDepth 100000
set_option maxHeartbeats 1000000
namespace V2
open PySem PySem.Spec PyProof.Rows L2
section
variable {K : PySem.W.Frag} {W : Wd} {Δ : Env} {ta tb tc te tl : TE} {R S T : A → Prop} {N N1 : Env → Prop} {Rt : A → Prop} {Bk Ct : Env → Prop} {ts tu : TS} {tt ut : TT} {t : TA} {wi : TI}

/-! ### what a loop walks -/
def Walks (K : PySem.W.Frag) (W : Wd) (H1 : Hp) (J : It) (n : Nat) (Y : Nat → A → Prop) : Prop := ∀ H2, Fr W H1 H2 → ∀ i, (i < n → J.go i H2 ∧ ∀ x H3, J.yld i H2 x H3 → H3 = H2 ∧ ∃ a, Y i a ∧ Is K W.M H1 x a) ∧ (n ≤ i → J.stop i H2)
def XI (K : PySem.W.Frag) (W : Wd) (wi : TI) (Δ : Env) (Nn : Nat → Prop) (Y : Nat → A → Prop) : Prop := ∀ σ H, W.J H → StOk K W.M H σ Δ → ∀ R : It → Hp → Prop, (∀ J H1 n, Fr W H H1 → Nn n → Walks K W H1 J n Y → R J H1) → wi σ H R
theorem xi_list {xs : List PyData} (h : XV K W tl Δ (.d (.list xs))) : XI K W (iList K tl) Δ (· = xs.length) fun i a => ∃ d, xs[i]? = some d ∧ a = .d d := fun σ H j s R q =>
  h σ H j s _ fun v H1 a f e i => by
    subst e
    cases i with
    | lst h1 d1 =>
      rename_i p vs
      have m : ¬ W.M p := fun m => by rw [hid_in m] at h1; cases h1
      rw [hid_out m] at h1
      refine ⟨p, rfl, ⟨vs, .inl (.inl h1)⟩, q _ H1 _ f rfl fun H2 f2 i => ?_⟩
      have g : SqL K H2 p vs := .inl (.inl (f2.keep p _ m h1))
      refine ⟨fun l => ?_, fun l => ⟨vs, g, by rw [d1.length]; exact l⟩⟩
      obtain ⟨v, hv, dv⟩ := d1.get (List.getElem?_eq_getElem l)
      refine ⟨⟨vs, v, g, hv⟩, fun x H3 y => ⟨y.1, .d xs[i], ⟨_, List.getElem?_eq_getElem l, rfl⟩, ?_⟩⟩
      have e := y.2 vs g
      rw [hv] at e
      cases e
      exact dv
theorem xi_tup {xs : List PyData} (h : XV K W tl Δ (.d (.tuple xs))) : XI K W (iTup K tl) Δ (· = xs.length) fun i a => ∃ d, xs[i]? = some d ∧ a = .d d := fun σ H j s R q =>
  h σ H j s _ fun v H1 a f e i => by
    subst e
    cases i with
    | tup h1 d1 =>
      rename_i p vs
      refine ⟨p, rfl, ⟨vs, sqT_same hid_le h1⟩, q _ H1 _ f rfl fun H2 f2 i => ?_⟩
      have g : SqT K H2 p vs := sqT_same hid_le (sqT_same f2.same h1)
      refine ⟨fun l => ?_, fun l => ⟨vs, g, by rw [d1.length]; exact l⟩⟩
      obtain ⟨v, hv, dv⟩ := d1.get (List.getElem?_eq_getElem l)
      refine ⟨⟨vs, v, g, hv⟩, fun x H3 y => ⟨y.1, .d xs[i], ⟨_, List.getElem?_eq_getElem l, rfl⟩, ?_⟩⟩
      have e := y.2 vs g
      rw [hv] at e
      cases e
      exact dv
def oneS (c : Nat) : Str := ⟨#[c]⟩
theorem xi_str {x : Str} (h : XV K W tl Δ (.d (.str x))) : XI K W (iStr tl) Δ (· = x.cps.size) fun i a => ∃ c, x.cps[i]? = some c ∧ a = .d (.str (oneS c)) := fun σ H j s R q =>
  h σ H j s _ fun v H1 a f e i => by
    subst e
    cases i
    refine ⟨x, rfl, q _ H1 _ f rfl fun H2 f2 i => ⟨fun l => ⟨l, fun y H3 ⟨e, c, hc, ey⟩ => ⟨e, _, ⟨c, hc, rfl⟩, ?_⟩⟩, fun l => l⟩⟩
    subst ey
    exact .str _
theorem xi_rng {Nn : Nat → Prop} (h : XA K W t Δ fun as => ∃ j : Int, as = [.d (.int j)] ∧ -(2 ^ 62) ≤ j ∧ j < 2 ^ 62 ∧ Nn j.toNat) : XI K W (iRng1 t) Δ Nn fun i a => a = .d (.int (i : Int)) := fun σ H j s R q =>
  h σ H j s _ fun vs H1 as f e i => by
    obtain ⟨k, e, k1, k2, hn⟩ := e
    subst e
    cases i with
    | cons i1 i2 =>
      cases i2
      cases i1
      refine ⟨k, rfl, k1, k2, q _ H1 _ f hn fun H2 f2 i => ⟨fun l => ⟨l, fun y H3 ⟨e, ey⟩ => ⟨e, _, rfl, ?_⟩⟩, fun l => l⟩⟩
      subst ey
      rw [Int.zero_add]
      exact .int _
/-! ### targets -/
def GX (K : PySem.W.Frag) (W : Wd) (g : TG) (a : A) (Δ Δ' : Env) : Prop := ∀ v σ H, W.J H → StOk K W.M H σ Δ → Is K W.M H v a → ∀ Q : L2.St → Hp → Prop, (∀ σ' H', Fr W H H' → StOk K W.M H' σ' Δ' → Q σ' H') → g v σ H Q
theorem gx_name {k : Nat} {a : A} : GX K W (gName k) a Δ (Δ.set k (some a)) := fun v σ H j s i Q q => q _ H (.refl j) (s.set k i)
theorem gx_tup2 {i j : Nat} {x y : PyData} : GX K W (gTup K 2 (gCons (gName i) (gCons (gName j) gNil))) (.d (.tuple [x, y])) Δ ((Δ.set i (some (.d x))).set j (some (.d y))) := fun v σ H jj s ii Q q => by
  cases ii with
  | tup h1 d1 =>
    cases d1 with
    | cons dx d2 =>
      cases d2 with
      | cons dy d3 =>
        cases d3
        exact ⟨_, _, rfl, sqT_same hid_le h1, rfl, _, _, rfl, _, _, rfl, rfl, q _ H (.refl jj) ((s.set (a := .d x) i dx).set (a := .d y) j dy)⟩
theorem xs_asg {g : TG} {a : A} {Δ' : Env} (h : XV K W te Δ a) (hg : GX K W g a Δ Δ') (n : N Δ') : XS K W (tAsg te g) Δ N Rt Bk Ct := fun σ H j s D nx _ _ _ =>
  h σ H j s _ fun v H1 b f e i => by
    subst e
    exact hg v σ H1 f.j (s.fr f) i _ fun σ' H' f' s' => nx σ' H' Δ' (f.trans f') s' n
/-! ### for -/
theorem xs_for {g : TG} {Nn : Nat → Prop} {Y : Nat → A → Prop} (Inv : Nat → Nat → Env → Prop) (hi : XI K W wi Δ Nn Y) (h0 : ∀ n, Nn n → Inv n 0 Δ)
    (hs : ∀ n i a Δ1, Nn n → i < n → Y i a → Inv n i Δ1 → ∃ Δ2, GX K W g a Δ1 Δ2 ∧ XS K W ts Δ2 (Inv n (i + 1)) Rt N (Inv n (i + 1))) (hd : ∀ n Δ1, Nn n → Inv n n Δ1 → N Δ1) : XS K W (tFor wi g ts) Δ N Rt Bk Ct := fun σ H j s D nx rt bk ct =>
  hi σ H j s _ fun J H1 n f1 hn w => by
    refine ⟨fun i m σ2 H2 => m = n - i ∧ i ≤ n ∧ ∃ Δ2, Fr W H1 H2 ∧ StOk K W.M H2 σ2 Δ2 ∧ Inv n i Δ2, ⟨n, (Nat.sub_zero n).symm, Nat.zero_le n, Δ, .refl f1.j, s.fr f1, h0 n hn⟩, ?_⟩
    rintro i m σ2 H2 ⟨rfl, hi, Δ2, f2, s2, v2⟩
    by_cases l : i < n
    · obtain ⟨go, yl⟩ := (w H2 f2 i).1 l
      refine .inr ⟨go, fun σ3 H3 => ∃ Δ3, Fr W H1 H3 ∧ StOk K W.M H3 σ3 Δ3 ∧ Inv n (i + 1) Δ3, ?_, ?_⟩
      · rintro σ3 H3 ⟨Δ3, f3, s3, v3⟩
        exact ⟨n - (i + 1), by omega, rfl, l, Δ3, f3, s3, v3⟩
      · intro x H3 y
        obtain ⟨e, a, ya, ia⟩ := yl x H3 y
        subst e
        obtain ⟨Δ4, gx, body⟩ := hs n i a Δ2 hn l ya v2
        refine gx x σ2 H3 f2.j s2 (ia.fr f2) _ fun σ4 H4 f4 s4 => ?_
        have f24 := f2.trans f4
        exact body σ4 H4 f4.j s4 _ (fun σ5 H5 Δ5 f5 s5 n5 => ⟨Δ5, f24.trans f5, s5, n5⟩) (fun v H5 a f5 => rt v H5 a (f1.trans (f24.trans f5)))
          (fun σ5 H5 Δ5 f5 s5 n5 => nx σ5 H5 Δ5 (f1.trans (f24.trans f5)) s5 n5) (fun σ5 H5 Δ5 f5 s5 n5 => ⟨Δ5, f24.trans f5, s5, n5⟩)
    · obtain rfl : i = n := by omega
      exact .inl ⟨(w H2 f2 i).2 (Nat.le_refl _), nx σ2 H2 Δ2 (f1.trans f2) s2 (hd i Δ2 hn v2)⟩
/-- what stood ahead of a new address stands behind it with that one hidden -/
theorem same_in {H1 H3 : Hp} {D : Addr} {φ : HO → Prop} (f : Fr W H1 H3) (n : H1 D = none) : Same (hid W.M H1) (hid (W.add D φ).M H3) := fun a o e => by
  by_cases m : W.M a
  · rw [hid_in m] at e; cases e
  · rw [hid_out m] at e
    rw [hid_out fun z : W.M a ∨ a = D => z.elim m (ne_of_none e n)]
    exact f.keep a o m e
theorem hid_upd {M : Addr → Prop} {H : Hp} {D : Addr} {u : HO} (m : M D) : hid M (upd H D u) = hid M H := by
  funext a
  by_cases h : M a
  · rw [hid_in h, hid_in h]
  · rw [hid_out h, hid_out h, upd_ne fun e => h (by rw [e]; exact m)]
/-! ### comprehensions: one name, no test -/
theorem xe_lc {k : Nat} {Nn : Nat → Prop} {Y : Nat → A → Prop} {P : Nat → PyData → Prop} (hi : XI K W wi Δ Nn Y) (small : ∀ n, Nn n → n ≤ 100000)
    (hs : ∀ D φ i a, ¬ W.M D → Y i a → XE K (W.add D φ) te ((Δ.set k none).set k (some a)) fun b => ∃ d, b = .d d ∧ P i d) :
    XE K W (tLc wi (gName k) tYes te [k]) Δ fun b => ∃ ds : List PyData, Nn ds.length ∧ (∀ i d, ds[i]? = some d → P i d) ∧ b = .d (.list ds) := fun σ H j s Q q =>
  hi σ H j s _ fun J H1 n f1 hn w => by
    intro D nD
    have mD : ¬ W.M D := W.fresh f1.j nD
    have s1 := s.fr f1
    refine ⟨fun i m H2 => m = n - i ∧ i ≤ n ∧ ∃ ds vs, Fr W H1 H2 ∧ H2 D = some (.lst vs) ∧ DtAll K (hid (fun a => W.M a ∨ a = D) H2) vs ds ∧ ds.length = i ∧ ∀ i d, ds[i]? = some d → P i d,
      ⟨n, (Nat.sub_zero n).symm, Nat.zero_le n, [], [], .new f1.j nD, upd_same, .nil, rfl, fun i d e => by simp at e⟩, ?_⟩
    rintro i m H2 ⟨rfl, hi, ds, vs, f2, h2, d2, len, pr⟩
    by_cases l : i < n
    · obtain ⟨go, yl⟩ := (w H2 f2 i).1 l
      refine .inr ⟨go, fun H3 => ∃ ds vs, Fr W H1 H3 ∧ H3 D = some (.lst vs) ∧ DtAll K (hid (fun a => W.M a ∨ a = D) H3) vs ds ∧ ds.length = i + 1 ∧ ∀ i d, ds[i]? = some d → P i d, ?_, ?_⟩
      · rintro H3 ⟨ds3, vs3, r⟩
        exact ⟨n - (i + 1), by omega, rfl, l, ds3, vs3, r⟩
      · intro x H3 y
        obtain ⟨e, a, ya, ia⟩ := yl x H3 y
        subst e
        refine ⟨(show ((σ.set k none).set k (some x)).set k none = σ.set k none by rw [List.set_set, List.set_set]), ?_⟩
        unfold tYes
        dsimp only
        rw [if_pos rfl]
        have sD : StOk K (W.add D (· = .lst vs)).M H3 ((σ.set k none).set k (some x)) ((Δ.set k none).set k (some a)) :=
          ((s1.unset k none).ext (same_in f2 nD)).set k (ia.ext (same_in f2 nD))
        refine hs D (· = .lst vs) i a mD ya _ H3 ⟨f2.j, _, h2, rfl⟩ sD _ fun v H4 b f4 rb ib => ?_
        obtain ⟨d, eb, pd⟩ := rb
        subst eb
        obtain ⟨u4, h4, eu⟩ := f4.j.2
        subst eu
        have len4 : vs.length = i := by rw [d2.length]; exact len
        have f5 : Fr W H1 (upd H4 D (.lst (vs ++ [v]))) := by
          refine ⟨fun a o nm e => ?_, W.loc H4 _ (fun a m => upd_ne fun z => mD (z ▸ m)) f4.j.1⟩
          have ne : a ≠ D := ne_of_none e nD
          rw [upd_ne ne]
          exact f4.keep a o (fun z => z.elim nm ne) (f2.keep a o nm e)
        refine ⟨vs, h4, Nat.lt_of_le_of_lt (Nat.le_trans (by rw [len4]; exact Nat.le_of_lt l) (small n hn)) (by decide), ds ++ [d], vs ++ [v], f5, upd_same, ?_, by rw [List.length_append, len]; rfl, fun k2 d2' e => ?_⟩
        · rw [hid_upd (.inr rfl)]
          exact DtAll.append (DtAll.ext f4.same _ _ d2) (.cons ib .nil)
        · by_cases hk : k2 < ds.length
          · rw [List.getElem?_append_left hk] at e
            exact pr k2 d2' e
          · rw [List.getElem?_append_right (by omega)] at e
            have z : k2 - ds.length = 0 := by
              cases q : k2 - ds.length with
              | zero => rfl
              | succ m => rw [q] at e; simp at e
            rw [z] at e
            cases e
            have : k2 = i := by omega
            rw [this]
            exact pd
    · obtain rfl : i = n := by omega
      refine .inl ⟨(w H2 f2 i).2 (Nat.le_refl _), q _ H2 _ (f1.trans f2) ⟨ds, by rw [len]; exact hn, pr, rfl⟩ ?_⟩
      exact Dt.lst (by rw [hid_out mD]; exact h2) (DtAll.ext (hid_add_le (φ := fun _ => True)) _ _ d2)
end

/-! ### defs -/
def spD (K : PySem.W.Frag) (pre : Wd → List A → Prop) (post : List A → A → Prop) : Sp := fun vs H Q _ =>
  ∃ (W : Wd) (as : List A), W.J H ∧ pre W as ∧ IsAll K W.M H vs as ∧ ∀ v H' a, Fr W H H' → post as a → Is K W.M H' v a → Q v H'
def startE (N : List Str) (as : List A) : Env := as.map some ++ List.replicate (N.length - as.length) none
section
variable {P : Program} {w : World} {K : PySem.W.Frag} {mg : Str → Option Value} {base : Heap} {k : Nat} {f : Addr} {fd : FuncData} {ps N : List Str} {pre : Wd → List A → Prop} {post : List A → A → Prop} {x qual : Str} {st : Stmt}
theorem isAll_get {M : Addr → Prop} {H : Hp} : ∀ {vs : List V} {as : List A} {i : Nat} {a : A}, IsAll K M H vs as → as[i]? = some a → ∃ v, vs[i]? = some v ∧ Is K M H v a
  | _, _, i, a, .nil, h => by simp at h
  | _, _, 0, a, .cons h _, e => by simp at e; subst e; exact ⟨_, rfl, h⟩
  | _, _, i + 1, a, .cons _ q, e => by
    obtain ⟨v, h1, h2⟩ := isAll_get (i := i) (a := a) q (by simpa using e)
    exact ⟨v, by simpa using h1, h2⟩
theorem stOk_start {M : Addr → Prop} {H : Hp} {vs : List V} {as : List A} (h : IsAll K M H vs as) : StOk K M H (L2.start N vs) (startE N as) := by
  have l := h.length
  refine ⟨by unfold L2.start startE; rw [List.length_append, List.length_append, List.length_map, List.length_map, List.length_replicate, List.length_replicate, l], fun i a e => ?_⟩
  unfold startE at e
  by_cases hi : i < as.length
  · rw [List.getElem?_append_left (by rw [List.length_map]; exact hi), List.getElem?_map] at e
    cases q : as[i]? with
    | none => rw [q] at e; cases e
    | some b =>
      rw [q] at e
      cases e
      obtain ⟨v, h1, h2⟩ := isAll_get h q
      refine ⟨v, ?_, h2⟩
      unfold L2.start
      rw [List.getElem?_append_left (by rw [List.length_map, l]; exact hi), List.getElem?_map, h1]
      rfl
  · rw [List.getElem?_append_right (by rw [List.length_map]; omega), List.getElem?_replicate] at e
    split at e <;> cases e
abbrev No : Env → Prop := fun _ => False
/-- what a body must do -/
def Body (K : PySem.W.Frag) (N : List Str) (pre : Wd → List A → Prop) (post : List A → A → Prop) (t : TS) : Prop :=
  ∀ W as, pre W as → XS K W t (startE N as) (fun _ => post as (.d .none)) (post as) No No
theorem body_run {t : TS} (h : Body K N pre post t) {vs : List V} {H : Hp} {Q : VK} {E : XK} (s : spD K pre post vs H Q E) : t ⟨fun _ H' => Q .non H', Q, fun _ _ => False, fun _ _ => False⟩ (L2.start N vs) H := by
  obtain ⟨W, as, j, p, i, q⟩ := s
  exact h W as p _ H j (stOk_start i) _ (fun σ' H' Δ' f _ n => q _ H' _ f n .non) (fun v H' a f r i' => q v H' a f r i') (fun _ _ _ _ _ z => z.elim) fun _ _ _ _ _ z => z.elim
theorem okD (F : Fun K x qual st f fd) (S : FnScope N ps (defScope st)) (ar : ∀ W as, pre W as → as.length = ps.length)
    (body : ∀ (cdv : Value) (A : Around) (outer : List PySem.Env) (s : Shared) (H : Hp) (E : XK), Room k (A.deeper (envOfC qual (defScope st) s.heap.objs.size f cdv)) →
      ∃ t, PSs (cxOf CX0 P w K mg base N qual (defScope st) f cdv A outer s H E).nox (defBody st) t ∧ Body K N pre post t) : FnOk P w K mg base CX0 (k + 1) f fd ps (spD K pre post) :=
  F.ok S (fun vs H Q E ⟨W, as, _, p, i, _⟩ => by rw [i.length]; exact ar W as p) fun cdv A outer s H vs Q E hr h => by
    obtain ⟨t, ht, hb⟩ := body cdv A outer s H E hr
    exact ⟨t, ht, body_run hb h⟩
theorem okDG (F : Fun K x qual st f fd) (S : FnScope N ps (defScope st)) (ar : ∀ W as, pre W as → as.length = ps.length)
    (body : ∀ (cdv : Value) (A : Around) (outer : List PySem.Env) (s : Shared) (H : Hp) (E : XK), Room k (A.deeper (envOfC qual (defScope st) s.heap.objs.size f cdv)) → NoG A →
      ∃ t, PSs (cxOf CX0 P w K mg base N qual (defScope st) f cdv A outer s H E).nox (defBody st) t ∧ Body K N pre post t) : FnG P w K mg base CX0 (k + 1) f fd ps (spD K pre post) :=
  okG F S (fun vs H Q E ⟨W, as, _, p, i, _⟩ => by rw [i.length]; exact ar W as p) fun cdv A outer s H vs Q E hr ng h => by
    obtain ⟨t, ht, hb⟩ := body cdv A outer s H E hr ng
    exact ⟨t, ht.nox, body_run hb h⟩
variable {W : Wd} {Δ : Env} {ta : TA} {E : XK}
theorem xe_callR {Ra : List A → Prop} {R : A → Prop} (h : XA K W ta Δ Ra) (p : ∀ as, Ra as → pre W as) (q : ∀ as a, Ra as → post as a → R a) : XE K W (tCall (spD K pre post) [] E ta) Δ R := fun σ H j s Q k =>
  h σ H j s _ fun vs H1 as f1 ra i1 => by
    rw [List.append_nil]
    exact ⟨W, as, f1.j, p as ra, i1, fun v H' a f r i => k v H' a (f1.trans f) (q as a ra r) i⟩
theorem xe_call {as : List A} (h : XAs K W ta Δ as) (p : pre W as) : XE K W (tCall (spD K pre post) [] E ta) Δ (post as) := xe_callR h (fun _ e => e ▸ p) fun _ _ e r => e ▸ r
end
end V2
namespace V2
open PySem PySem.Spec PyProof.Rows L2
/-! ### more rules -/
def rTupOf (K : PySem.W.Frag) : List V → Hp → VK → Prop := fun xs H Q => ∃ p ys, xs = [.ref p] ∧ ((SqL K H p ys ∧ ∀ l, H l = none → Q (.ref l) (upd H l (.tup ys))) ∨ (SqT K H p ys ∧ Q (.ref p) H))
def rLstOf (K : PySem.W.Frag) : List V → Hp → VK → Prop := fun xs H Q => ∃ p ys, xs = [.ref p] ∧ (SqL K H p ys ∨ SqT K H p ys) ∧ ∀ l, H l = none → Q (.ref l) (upd H l (.lst ys))
section
variable {X : Cx}
theorem c_tup : CallR X (.type "tuple") (rTupOf X.K) := call_tuple_of
theorem c_lst : CallR X (.type "list") (rLstOf X.K) := call_list_of
theorem pe_const {x : Str} {v : V} {pos : Pos} (hg : Gl X x) (h : ∃ u, X.mg x = some u ∧ RelV v u) (hd : (x == ("__debug__" : Str)) = false := by decide) : PE X (.Name x pos) (tC v) := by
  obtain ⟨u, h1, h2⟩ := h
  exact pe_glob hg h1 h2 hd
end
theorem cut_to (xs : List V) (n : Nat) : cutV xs none (some (n : Int)) = xs.take n := by
  unfold cutV
  rw [HT.sIx_none, HT.sIx_nat, List.drop_zero, Nat.sub_zero]
  by_cases h : n ≤ xs.length
  · rw [Nat.min_eq_left h]
  · rw [Nat.min_eq_right (by omega), List.take_length, List.take_of_length_le (by omega)]
theorem cut_from (xs : List V) (n : Nat) : cutV xs (some (n : Int)) none = xs.drop n := by
  unfold cutV
  rw [HT.sIx_none, HT.sIx_nat]
  by_cases h : n ≤ xs.length
  · rw [Nat.min_eq_left h, List.take_of_length_le (by rw [List.length_drop]; omega)]
  · rw [Nat.min_eq_right (by omega), List.drop_eq_nil_of_le (Nat.le_refl _), List.drop_eq_nil_of_le (by omega), List.take_nil]
section
variable {K : PySem.W.Frag} {W : Wd} {Δ : Env} {ta tb tc te tl : TE} {R S T : A → Prop}
theorem xe_ktup {a : Addr} {xs : List V} (h : ∀ H, SqT K H a xs) {ds : List PyData} (e : xs = ds.map vOf) (f : ds.all flat = true) : XV K W (tC (.ref a)) Δ (.d (.tuple ds)) := fun σ H j _ Q q => by
  refine q _ H _ (.refl j) rfl (.tup (h _) ?_)
  subst e
  clear h q
  induction ds with
  | nil => exact .nil
  | cons d r ih =>
    rw [List.all_cons, Bool.and_eq_true] at f
    exact .cons (Dt.ofFlat f.1) (ih f.2)
theorem xe_dnew : XV K W tDNewK Δ (.d (.dict [])) := fun σ H j s Q q => fun p np => q _ _ _ (.new j np) rfl (.dct (hid_new j np) .nil)
theorem xe_slTo {xs : List PyData} {n : Int} (h : XV K W te Δ (.d (.list xs))) (hn : XV K W ta Δ (.d (.int n))) (h0 : 0 ≤ n) : XV K W (tSl (rSlL K) te tNoPart (tPart ta)) Δ (.d (.list (xs.take n.toNat))) := fun σ H j s Q q =>
  h σ H j s _ fun v H1 a f1 e i1 => by
    subst e
    refine hn σ H1 f1.j (s.fr f1) _ fun w H2 b f2 e i2 => ?_
    subst e
    cases i2
    cases i1.fr f2 with
    | lst h1 d1 =>
      refine ⟨n, rfl, _, _, rfl, .inl (.inl (hid_le _ _ h1)), fun p np => q _ _ _ ((f1.trans f2).trans (.new f2.j np)) rfl ?_⟩
      refine Dt.lst (hid_new f2.j np) ?_
      rw [show n = ((n.toNat : Nat) : Int) by omega, cut_to]
      exact DtAll.take _ (DtAll.ext (Fr.same (.new f2.j np)) _ _ d1)
theorem xe_slFrom {xs : List PyData} {n : Int} (h : XV K W te Δ (.d (.list xs))) (hn : XV K W ta Δ (.d (.int n))) (h0 : 0 ≤ n) : XV K W (tSl (rSlL K) te (tPart ta) tNoPart) Δ (.d (.list (xs.drop n.toNat))) := fun σ H j s Q q =>
  h σ H j s _ fun v H1 a f1 e i1 => by
    subst e
    refine hn σ H1 f1.j (s.fr f1) _ fun w H2 b f2 e i2 => ?_
    subst e
    cases i2
    cases i1.fr f2 with
    | lst h1 d1 =>
      refine ⟨n, rfl, _, _, rfl, .inl (.inl (hid_le _ _ h1)), fun p np => q _ _ _ ((f1.trans f2).trans (.new f2.j np)) rfl ?_⟩
      refine Dt.lst (hid_new f2.j np) ?_
      rw [show n = ((n.toNat : Nat) : Int) by omega, cut_from]
      exact DtAll.drop _ (DtAll.ext (Fr.same (.new f2.j np)) _ _ d1)
theorem xe_rev {xs : List PyData} (h : XV K W te Δ (.d (.list xs))) : XV K W (tRevL K te) Δ (.d (.list xs.reverse)) := fun σ H j s Q q =>
  h σ H j s _ fun v H1 a f1 e i1 => by
    subst e
    cases i1 with
    | lst h1 d1 => exact ⟨_, _, rfl, .inl (.inl (hid_le _ _ h1)), fun p np => q _ _ _ (f1.trans (.new f1.j np)) rfl (Dt.lst (hid_new f1.j np) (DtAll.reverse (DtAll.ext (Fr.same (.new f1.j np)) _ _ d1)))⟩
theorem cx_tup {xs : List PyData} : CX1 K W (rTupOf K) [.d (.list xs)] (· = .d (.tuple xs)) := fun vs H j i Q q => by
  cases i with
  | cons h t =>
    cases t
    cases h with
    | lst h1 d1 => exact ⟨_, _, rfl, .inl ⟨.inl (.inl (hid_le _ _ h1)), fun p np => q _ _ _ (.new j np) rfl (Dt.tup (.inl (.inl (hid_new j np))) (DtAll.ext (Fr.same (.new j np)) _ _ d1))⟩⟩
end

/-! ### pools: two whole numbers, drawn from -/
structure HasPool (W : Wd) (a : Addr) : Prop where
  mem : W.M a
  get : ∀ H, W.J H → ∃ n s : Int, H a = some (.lst [.int n, .int s]) ∧ 0 ≤ s ∧ s < 2147483647
  put : ∀ H (n s : Int), W.J H → 0 ≤ s → s < 2147483647 → W.J (upd H a (.lst [.int n, .int s]))
theorem HasPool.add {W : Wd} {a D : Addr} {φ : HO → Prop} (h : HasPool W a) (n : ¬ W.M D) : HasPool (W.add D φ) a where
  mem := .inl h.mem
  get H j := h.get H j.1
  put H n' s j h0 h1 := ⟨h.put H n' s j.1 h0 h1, by
    obtain ⟨u, e, p⟩ := j.2
    exact ⟨u, by rw [upd_ne fun e : D = a => n (e ▸ h.mem)]; exact e, p⟩⟩
def isPool (u : HO) : Prop := ∃ n s : Int, u = .lst [.int n, .int s] ∧ 0 ≤ s ∧ s < 2147483647
theorem hasPool_new {W : Wd} {D : Addr} (n : ¬ W.M D) : HasPool (W.add D isPool) D where
  mem := .inr rfl
  get H j := by
    obtain ⟨u, e, n, s, rfl, h⟩ := j.2
    exact ⟨n, s, e, h⟩
  put H n' s j h0 h1 := ⟨W.loc H _ (fun a m => upd_ne fun e => n (e ▸ m)) j.1, _, upd_same, n', s, rfl, h0, h1⟩
/-- the world in which nothing may change -/
def W0 : Wd where
  M _ := False
  J _ := True
  live _ _ _ h := h.elim
  loc _ _ _ h := h
theorem Fr.poolput {W : Wd} {H : Hp} {a : Addr} (h : HasPool W a) (j : W.J H) {n s : Int} (h0 : 0 ≤ s) (h1 : s < 2147483647) : Fr W H (upd H a (.lst [.int n, .int s])) :=
  ⟨fun b o nm e => by rw [upd_ne fun z : b = a => nm (by rw [z]; exact h.mem)]; exact e, h.put H n s j h0 h1⟩
end V2
namespace V2
open PySem PySem.Spec PyProof.Rows L2
theorem xa_one {K : PySem.W.Frag} {W : Wd} {Δ : Env} {te : TE} {R : A → Prop} (h : XE K W te Δ R) : XA K W (tCons te tNil) Δ fun as => ∃ a, as = [a] ∧ R a := fun σ H j s Q q =>
  h σ H j s _ fun v H1 a f r i => q _ H1 _ f ⟨a, rfl, r⟩ (.cons i .nil)
end V2
namespace V2
open PySem PySem.Spec PyProof.Rows L2
section
variable {K : PySem.W.Frag} {W : Wd} {Δ : Env} {tl te : TE} {k : Nat}
theorem xe_lcL {xs : List PyData} {g : PyData → PyData} (h : XV K W tl Δ (.d (.list xs))) (n : xs.length ≤ 100000) (hs : ∀ D φ d, ¬ W.M D → d ∈ xs → XV K (W.add D φ) te ((Δ.set k none).set k (some (.d d))) (.d (g d))) :
    XV K W (tLc (iList K tl) (gName k) tYes te [k]) Δ (.d (.list (xs.map g))) :=
  XE.mono (xe_lc (P := fun i d => ∃ x, xs[i]? = some x ∧ d = g x) (xi_list h) (fun m e => by rw [e]; exact n) fun D φ i a mD ⟨d, hd, ea⟩ => by
      subst ea
      exact XE.mono (hs D φ d mD (List.mem_of_getElem? hd)) fun a e => ⟨g d, e, d, hd, rfl⟩)
    fun a ⟨ds, hl, hp, e⟩ => by
      subst e
      have z : ds = xs.map g := by
        refine List.ext_getElem? fun i => ?_
        rw [List.getElem?_map]
        by_cases hi : i < ds.length
        · obtain ⟨c, h1, h2⟩ := hp i ds[i] (List.getElem?_eq_getElem hi)
          rw [h1, List.getElem?_eq_getElem hi, h2]
          rfl
        · rw [List.getElem?_eq_none (by omega), List.getElem?_eq_none (by omega)]
          rfl
      rw [z]
theorem xe_lcS {s : Str} {g : Nat → PyData} (h : XV K W tl Δ (.d (.str s))) (n : s.length ≤ 100000) (hs : ∀ D φ c, ¬ W.M D → XV K (W.add D φ) te ((Δ.set k none).set k (some (.d (.str (oneS c))))) (.d (g c))) :
    XV K W (tLc (iStr tl) (gName k) tYes te [k]) Δ (.d (.list (s.cps.toList.map g))) :=
  XE.mono (xe_lc (P := fun i d => ∃ x, s.cps[i]? = some x ∧ d = g x) (xi_str h) (fun m e => by rw [e]; exact n) fun D φ i a mD ⟨d, hd, ea⟩ => by
      subst ea
      exact XE.mono (hs D φ d mD) fun a e => ⟨g d, e, d, hd, rfl⟩)
    fun a ⟨ds, hl, hp, e⟩ => by
      subst e
      have q : ∀ i : Nat, s.cps.toList[i]? = s.cps[i]? := fun i => Array.getElem?_toList ..
      have hl2 : ds.length = s.cps.toList.length := hl
      have z : ds = s.cps.toList.map g := by
        refine List.ext_getElem? fun i => ?_
        rw [List.getElem?_map, q]
        by_cases hi : i < ds.length
        · obtain ⟨c, h1, h2⟩ := hp i ds[i] (List.getElem?_eq_getElem hi)
          rw [h1, List.getElem?_eq_getElem hi, h2]
          rfl
        · rw [← q, List.getElem?_eq_none (by omega), List.getElem?_eq_none (by omega)]
          rfl
      rw [z]
theorem bools_of {α : Type} (l : List α) (g : α → Bool) : (l.map fun c => PyData.bool (g c)) = (l.map g).map PyData.bool := by rw [List.map_map]; rfl
end
end V2
namespace V2
open PySem PySem.Spec PyProof.Rows L2
section
variable {K : PySem.W.Frag} {W : Wd} {Δ : Env} {te : TE} {k : Nat} {N : Env → Prop} {Rt : A → Prop} {Bk Ct : Env → Prop}
theorem xs_aug {i : Nat} {ti : TIp} {a b c : A} (ha : Δ[i]? = some (some a)) (h : XV K W te Δ b) (o : OX K W ti a b (· = c)) (n : N (Δ.set i (some c))) : XS K W (tAug i te ti) Δ N Rt Bk Ct := fun σ H j s D nx _ _ _ => by
  obtain ⟨x, hx, ix⟩ := s.get i a ha
  refine ⟨x, hx, h σ H j s _ fun y H1 b' f1 e i1 => ?_⟩
  subst e
  refine o x y H1 f1.j (ix.fr f1) i1 _ fun z H2 c' f2 e i2 => ?_
  subst e
  exact nx _ H2 _ (f1.trans f2) ((s.fr (f1.trans f2)).set i i2) n
theorem ox_ipI {f : Int → Int → Int} {i j : Int} : OX K W (ipI f) (.d (.int i)) (.d (.int j)) (· = .d (.int (f i j))) := fun v w H j' i1 i2 Q q => by
  cases i1; cases i2
  exact ⟨_, _, rfl, rfl, q _ H _ (.refl j') rfl (.int _)⟩
end
end V2
namespace V2
open PySem PySem.Spec PyProof.Rows L2
section
variable {K : PySem.W.Frag} {W : Wd} {Δ : Env} {ta tb te : TE} {N : Env → Prop} {Rt : A → Prop} {Bk Ct : Env → Prop} {ts tu : TS} {R : A → Prop}
theorem sqL_le {M : Addr → Prop} {H : Hp} {a : Addr} {xs : List V} (h : SqL K (hid M H) a xs) : SqL K H a xs := Same.seq hid_le h
theorem cx_lenI {ns : List Int} : CX1 K W (rLen K) [.s ns] (· = .d (.int ns.length)) := fun vs H j i Q q => by
  cases i with
  | cons h t =>
    cases t
    obtain ⟨a, rfl, h⟩ := h
    exact ⟨_, _, rfl, .inl (sqL_le h), by rw [List.length_map]; exact q _ H _ (.refl j) rfl (.int _)⟩
theorem ox_ixI {ns : List Int} {i n : Int} (h0 : 0 ≤ i) (h : ns[i.toNat]? = some n) : OX K W (rIxL K) (.s ns) (.d (.int i)) (· = .d (.int n)) := fun v w H j i1 i2 Q q => by
  cases i2
  obtain ⟨a, rfl, hs⟩ := i1
  exact ⟨_, _, _, .int n, rfl, rfl, sqL_le hs, at_of (j := i.toNat) (by omega) (by rw [List.getElem?_map, h]; rfl), q _ H _ (.refl j) rfl (.int _)⟩
/-- whole numbers of which something is known -/
abbrev IntR (p : Int → Prop) : A → Prop := fun a => ∃ n, a = .d (.int n) ∧ p n
theorem xe_intR {p q u : Int → Prop} {r : R2} (ha : XE K W ta Δ (IntR p)) (hb : XE K W tb Δ (IntR q)) (h : ∀ i j, p i → q j → OX K W r (.d (.int i)) (.d (.int j)) (IntR u)) : XE K W (tOp r ta tb) Δ (IntR u) :=
  xe_opR ha hb fun a b ⟨i, e, hi⟩ ⟨j, e', hj⟩ => by
    subst e e'
    exact h i j hi hj
theorem OX.is {r : R2} {a b c : A} (h : OX K W r a b (· = c)) (m : R c) : OX K W r a b R := fun v w H j i1 i2 Q q => h v w H j i1 i2 Q fun u H' c' f e i => by
  subst e
  exact q u H' c' f m i
theorem xe_intC {p : Int → Prop} {n : Int} (h : p n) : XE K W (tC (.int n)) Δ (IntR p) := XE.mono xe_int fun a e => ⟨n, e, h⟩
theorem xe_pool0 {i : Nat} {pa : Addr} (hv : Δ[i]? = some (some (.v (.ref pa)))) (hp : HasPool W pa) : XE K W (tOp (rIxL K) (tVar i) (tC (.int 0))) Δ (IntR fun _ => True) := fun σ H j s Q q => by
  obtain ⟨v, h1, h2⟩ := s.get i _ hv
  have e : v = .ref pa := h2
  subst e
  obtain ⟨n, m, h, _⟩ := hp.get H j
  exact ⟨_, h1, pa, _, 0, .int n, rfl, rfl, .inl (.inl h), atI_nat (j := 0) rfl, q _ H _ (.refl j) ⟨n, rfl, trivial⟩ (.int _)⟩
theorem xe_pool1 {i : Nat} {pa : Addr} (hv : Δ[i]? = some (some (.v (.ref pa)))) (hp : HasPool W pa) : XE K W (tOp (rIxL K) (tVar i) (tC (.int 1))) Δ (IntR fun s => 0 ≤ s ∧ s < 2147483647) := fun σ H j s Q q => by
  obtain ⟨v, h1, h2⟩ := s.get i _ hv
  have e : v = .ref pa := h2
  subst e
  obtain ⟨n, m, h, hm⟩ := hp.get H j
  exact ⟨_, h1, pa, _, 1, .int m, rfl, rfl, .inl (.inl h), atI_nat (j := 1) rfl, q _ H _ (.refl j) ⟨m, rfl, hm⟩ (.int _)⟩
theorem xs_pool0 {i : Nat} {pa : Addr} (hv : Δ[i]? = some (some (.v (.ref pa)))) (hp : HasPool W pa) (h : XE K W te Δ (IntR fun _ => True)) (n : N Δ) : XS K W (tAsg te (gSub (tVar i) (tC (.int 0)) rSetL)) Δ N Rt Bk Ct := fun σ H j s D nx _ _ _ =>
  h σ H j s _ fun v H1 a f1 r i1 => by
    obtain ⟨k, e, _⟩ := r
    subst e
    cases i1
    obtain ⟨v, h1, h2⟩ := (s.fr f1).get i _ hv
    have e : v = .ref pa := h2
    subst e
    obtain ⟨n0, m, g, hm⟩ := hp.get H1 f1.j
    have f2 : Fr W H1 (upd H1 pa (.lst [.int k, .int m])) := .poolput hp f1.j hm.1 hm.2
    exact ⟨_, h1, pa, _, 0, 0, rfl, rfl, g, rfl, nx _ _ _ (f1.trans f2) (s.fr (f1.trans f2)) n⟩
theorem xs_pool1 {i : Nat} {pa : Addr} (hv : Δ[i]? = some (some (.v (.ref pa)))) (hp : HasPool W pa) (h : XE K W te Δ (IntR fun s => 0 ≤ s ∧ s < 2147483647)) (n : N Δ) : XS K W (tAsg te (gSub (tVar i) (tC (.int 1)) rSetL)) Δ N Rt Bk Ct := fun σ H j s D nx _ _ _ =>
  h σ H j s _ fun v H1 a f1 r i1 => by
    obtain ⟨k, e, hk⟩ := r
    subst e
    cases i1
    obtain ⟨v, h1, h2⟩ := (s.fr f1).get i _ hv
    have e : v = .ref pa := h2
    subst e
    obtain ⟨n0, m, g, hm⟩ := hp.get H1 f1.j
    have f2 : Fr W H1 (upd H1 pa (.lst [.int n0, .int k])) := .poolput hp f1.j hk.1 hk.2
    exact ⟨_, h1, pa, _, 1, 1, rfl, rfl, g, rfl, nx _ _ _ (f1.trans f2) (s.fr (f1.trans f2)) n⟩
/-- a statement by the rules, then the rest as it reads -/
theorem xs_then (h : XS K W ts Δ N (fun _ => False) No No) {σ : L2.St} {H : Hp} {D : Ends} (j : W.J H) (s : StOk K W.M H σ Δ) (k : ∀ σ' H' Δ', Fr W H H' → StOk K W.M H' σ' Δ' → N Δ' → tu D σ' H') : tSeq ts tu D σ H :=
  h σ H j s _ k (fun _ _ _ _ z => z.elim) (fun _ _ _ _ _ z => z.elim) fun _ _ _ _ _ z => z.elim
theorem xs_testR2 {R1 R2' : A → Prop} {r : R2} {B : Bool → Prop} (ha : XE K W ta Δ R1) (hb : XE K W tb Δ R2') (h : ∀ a b, R1 a → R2' b → OX K W r a b fun c => ∃ b, c = .d (.bool b) ∧ B b) : XT K W (tTest (tOp r ta tb)) Δ B := xt_testR (xe_opR ha hb h)
end
/-- a promise of a def that draws -/
def preTake (W : Wd) (as : List A) : Prop := ∃ pa m, as = [.v (.ref pa), .d (.int m)] ∧ HasPool W pa ∧ 0 < m ∧ m < 1000000
def postTake (as : List A) (a : A) : Prop := match as with | [_, .d (.int m)] => ∃ i, a = .d (.int i) ∧ 0 ≤ i ∧ i < m | _ => False
/-- the law's maker of pools -/
def spPool (K : PySem.W.Frag) : Sp := fun vs H Q _ => ∃ (a : Addr) (ns : List Int) (k : Int), vs = [.ref a, .int k] ∧ SqL K H a (ns.map V.int) ∧ ns.length ≤ 63 ∧ 0 ≤ k ∧ k < 1000 ∧
  ∀ p H', Same H H' → H p = none → (∃ u, H' p = some u ∧ isPool u) → Q (.ref p) H'
end V2
namespace V2
open PySem PySem.Spec PyProof.Rows L2
def rNegI : V → Hp → VK → Prop := rU fun i => .int (-i)
def rPowS : R2 := rI CPow fun i j => .int (i ^ j.toNat)
theorem o_neg {X : Cx} : UnR X (unaryOp .USub) rNegI := un_neg
theorem o_pow {X : Cx} : OpR X (binaryOp .Pow) rPowS := op_pow
section
variable {K : PySem.W.Frag} {W : Wd} {Δ : Env} {ta tb te : TE}
theorem xe_neg {i : Int} (h : XV K W ta Δ (.d (.int i))) : XV K W (tUn rNegI ta) Δ (.d (.int (-i))) := fun σ H j s Q q =>
  h σ H j s _ fun v H1 a f e i1 => by
    subst e
    cases i1
    exact ⟨_, rfl, q _ H1 _ f rfl (.int _)⟩
theorem ox_pow {i j : Int} (h : CPow i j) : OX K W rPowS (.d (.int i)) (.d (.int j)) (· = .d (.int (i ^ j.toNat))) := fun v w H j' i1 i2 Q q => by
  cases i1; cases i2
  exact ⟨_, _, rfl, rfl, h, q _ H _ (.refl j') rfl (.int _)⟩
theorem hid_W0 {H : Hp} : hid W0.M H = H := funext fun a => hid_out fun h => h
end
end V2

set_option Elab.async false
set_option linter.all false
set_option maxRecDepth 100000
set_option maxHeartbeats 1000000
namespace V2
open PySem PySem.Spec PyProof.Rows L2
/-! ### lists that a loop grows -/
section
variable {K : PySem.W.Frag} {W : Wd} {Δ : Env} {ta tb te : TE} {t : TA} {R S : List PyData → Prop}
def XN (K : PySem.W.Frag) (W : Wd) (te : TE) (Δ : Env) (R : List PyData → Prop) : Prop := ∀ σ H, W.J H → StOk K W.M H σ Δ → ∀ Q : VK,
  (∀ p H' vs ds, Fr W H H' → H p = none → R ds → H' p = some (.lst vs) → DtAll K (hid (fun a => W.M a ∨ a = p) H') vs ds → Q (.ref p) H') → te σ H Q
theorem same_new {H H' : Hp} {p : Addr} {o : HO} (j : W.J H) (np : H p = none) : Same (hid W.M H) (hid (fun a => W.M a ∨ a = p) (upd H p o)) := fun a u e => by
  by_cases m : W.M a
  · rw [hid_in m] at e; cases e
  · rw [hid_out m] at e
    have q := ne_of_none e np
    rw [hid_out fun z : W.M a ∨ a = p => z.elim m q, upd_ne q]
    exact e
theorem xn_lst {ds : List PyData} (h : XAs K W t Δ (dAll ds)) (n : ds.length ≤ 10000 := by decide) : XN K W (tLst t) Δ (· = ds) := fun σ H j s Q q =>
  h σ H j s _ fun vs H1 as f1 e i => by
    subst e
    have d := dts_of i
    refine ⟨by rw [d.length]; exact Nat.le_trans n (by decide), fun p np => ?_⟩
    have n0 : H p = none := by
      cases z : H p with
      | none => rfl
      | some o =>
        have m : ¬ W.M p := W.fresh f1.j np
        rw [f1.keep p o m z] at np
        cases np
    exact q p _ vs ds (f1.trans (.new f1.j np)) n0 rfl upd_same (DtAll.ext (same_new (H' := H1) f1.j np) _ _ d)
theorem xn_cat {Ra Rb : A → Prop} (ha : XE K W ta Δ fun a => ∃ xs : List PyData, a = .d (.list xs) ∧ R xs) (hb : XE K W tb Δ fun a => ∃ xs : List PyData, a = .d (.list xs) ∧ S xs) (n : ∀ xs ys, R xs → S ys → xs.length + ys.length ≤ 100000) :
    XN K W (tOp rCat ta tb) Δ fun ds => ∃ xs ys, ds = xs ++ ys ∧ R xs ∧ S ys := fun σ H j s Q q =>
  ha σ H j s _ fun v H1 a f1 ra i1 => hb σ H1 f1.j (s.fr f1) _ fun w H2 b f2 rb i2 => by
    obtain ⟨xs, e, rx⟩ := ra
    subst e
    obtain ⟨ys, e, ry⟩ := rb
    subst e
    cases i1.fr f2 with
    | lst h1 d1 =>
      cases i2 with
      | lst h2 d2 =>
        refine ⟨_, _, _, _, rfl, rfl, hid_le _ _ h1, hid_le _ _ h2, by rw [d1.length, d2.length]; exact Nat.le_trans (n xs ys rx ry) (by decide), fun p np => ?_⟩
        have f := f1.trans f2
        have n0 : H p = none := by
          cases z : H p with
          | none => rfl
          | some o =>
            rw [f.keep p o (W.fresh f.j np) z] at np
            cases np
        exact q p _ _ _ (f.trans (.new f.j np)) n0 ⟨xs, ys, rfl, rx, ry⟩ upd_same (DtAll.append (DtAll.ext (same_new (H' := H) f.j np) _ _ d1) (DtAll.ext (same_new (H' := H) f.j np) _ _ d2))
/-- the k-th name holds a list of one's own -/
structure Own (K : PySem.W.Frag) (W : Wd) (k : Nat) (H0 H : Hp) (σ : L2.St) (Δ : Env) (ds : List PyData) : Prop where
  fr : Fr W H0 H
  it : ∃ D vs, H0 D = none ∧ ¬ W.M D ∧ H D = some (.lst vs) ∧ DtAll K (hid (fun a => W.M a ∨ a = D) H) vs ds ∧ σ[k]? = some (some (.ref D)) ∧ StOk K (fun a => W.M a ∨ a = D) H σ Δ
theorem hid_or_le {W : Wd} {H : Hp} {D : Addr} : Same (hid (fun a => W.M a ∨ a = D) H) (hid W.M H) := hid_add_le (φ := fun _ => True)
variable {k : Nat} {H0 H : Hp} {σ : L2.St} {ds : List PyData} {D : Ends}
/-- read as data -/
theorem Own.st (h : Own K W k H0 H σ Δ ds) : StOk K W.M H σ (Δ.set k (some (.d (.list ds)))) := by
  obtain ⟨p, vs, n0, m, hp, dd, hk, s⟩ := h.it
  have s' : StOk K W.M H σ Δ := s.ext hid_or_le
  have i : Is K W.M H (.ref p) (.d (.list ds)) := Dt.lst (by rw [hid_out m]; exact hp) (DtAll.ext hid_or_le _ _ dd)
  have z := s'.set k i
  have e : σ.set k (some (.ref p)) = σ := by
    obtain ⟨l, e⟩ := List.getElem?_eq_some_iff.mp hk
    rw [← e]
    exact List.set_getElem_self l
  rw [e] at z
  exact z
/-- it is set to a new list -/
theorem own_set (f0 : Fr W H0 H) (s : StOk K W.M H σ Δ) (hk : k < σ.length) (h : XN K W te Δ R) (q : ∀ v H' ds, R ds → Own K W k H0 H' (σ.set k (some v)) (Δ.set k none) ds → D.nx (σ.set k (some v)) H') : tAsg te (gName k) D σ H :=
  h σ H f0.j s _ fun p H' vs ds f np r hp dd => by
    have n0 : H0 p = none := by
      cases z : H0 p with
      | none => rfl
      | some o =>
        have m : ¬ W.M p := W.fresh f0.j np
        rw [f0.keep p o m z] at np
        cases np
    refine q _ H' ds r ⟨f0.trans f, p, vs, n0, W.fresh f0.j np, hp, dd, List.getElem?_set_self hk, ?_⟩
    refine StOk.unset (s.ext (fun a o e => ?_)) k _
    by_cases m : W.M a
    · rw [hid_in m] at e; cases e
    · rw [hid_out m] at e
      rw [hid_out fun z : W.M a ∨ a = p => z.elim m (ne_of_none e np)]
      exact f.keep a o m e
/-- something is appended -/
theorem own_append (h : Own K W k H0 H σ Δ ds) {P : PyData → Prop} (small : ds.length ≤ 100000) (he : ∀ p φ, ¬ W.M p → XE K (W.add p φ) te Δ fun a => ∃ d, a = .d d ∧ P d)
    (q : ∀ H' d, P d → Own K W k H0 H' σ Δ (ds ++ [d]) → D.nx σ H') : tDrop (tBM K "list" rAppend (tVar k) (tCons te tNil)) D σ H := by
  obtain ⟨p, vs, n0, m, hp, dd, hk, s⟩ := h.it
  refine ⟨_, hk, .inl ⟨rfl, _, .inl (.inl hp)⟩, ?_⟩
  refine he p (· = .lst vs) m σ H ⟨h.fr.j, _, hp, rfl⟩ s _ fun v H1 a f1 r i1 => ?_
  obtain ⟨d, e, pd⟩ := r
  subst e
  obtain ⟨u, hp1, e⟩ := f1.j.2
  subst e
  refine ⟨p, vs, v, rfl, rfl, hp1, Nat.lt_of_le_of_lt (by rw [dd.length]; exact small) (by decide), q _ d pd ⟨?_, p, vs ++ [v], n0, m, upd_same, ?_, hk, ?_⟩⟩
  · refine ⟨fun a o nm e => ?_, W.loc H1 _ (fun a ma => upd_ne fun z => m (z ▸ ma)) f1.j.1⟩
    have ne : a ≠ p := ne_of_none e n0
    rw [upd_ne ne]
    exact f1.keep a o (fun z => z.elim nm ne) (h.fr.keep a o nm e)
  · rw [hid_upd (.inr rfl)]
    exact DtAll.append (DtAll.ext f1.same _ _ dd) (.cons i1 .nil)
  · have s2 := s.fr f1
    refine s2.ext fun a o e => ?_
    rw [hid_upd (.inr rfl)]
    exact e
/-- another name is set -/
theorem own_other {i : Nat} {a : A} {v : V} (h : Own K W k H0 H σ Δ ds) (ne : i ≠ k) (hv : ∀ M, Is K M H v a) : Own K W k H0 H (σ.set i (some v)) (Δ.set i (some a)) ds := by
  obtain ⟨p, vs, n0, m, hp, dd, hk, s⟩ := h.it
  exact ⟨h.fr, p, vs, n0, m, hp, dd, by rw [List.getElem?_set_ne ne]; exact hk, s.set i (hv _)⟩
/-- a test that leaves it -/
theorem own_if {tt : TT} {B : Bool → Prop} {ts tu : TS} (h : Own K W k H0 H σ Δ ds) (ht : ∀ p φ, ¬ W.M p → XT K (W.add p φ) tt Δ B) (h1 : ∀ H', B true → Own K W k H0 H' σ Δ ds → ts D σ H') (h2 : ∀ H', B false → Own K W k H0 H' σ Δ ds → tu D σ H') : tIfS tt ts tu D σ H := by
  obtain ⟨p, vs, n0, m, hp, dd, hk, s⟩ := h.it
  refine ht p (· = .lst vs) m σ H ⟨h.fr.j, _, hp, rfl⟩ s _ fun b H1 f1 hb => ?_
  obtain ⟨u, hp1, e⟩ := f1.j.2
  subst e
  have o : Own K W k H0 H1 σ Δ ds := ⟨⟨fun a o nm e => f1.keep a o (fun z => z.elim nm (ne_of_none e n0)) (h.fr.keep a o nm e), f1.j.1⟩, p, vs, n0, m, hp1, DtAll.ext f1.same _ _ dd, hk, s.fr f1⟩
  cases b with
  | true => exact iteT (h1 H1 hb o)
  | false => exact iteF (h2 H1 hb o)
end
section
variable {K : PySem.W.Frag} {W : Wd} {Δ : Env} {tt ut : TT}
theorem xt_andR {B C : Bool → Prop} (h : XT K W tt Δ B) (h' : B true → XT K W ut Δ C) : XT K W (tAnd tt ut) Δ fun b => (b = true ∧ B true ∧ C true) ∨ (b = false ∧ (B false ∨ C false)) := fun σ H j s Q q => h σ H j s _ fun v H1 f e => by
  cases v with
  | true => exact iteT (h' e σ H1 f.j (s.fr f) Q fun c H2 f2 e' => q c H2 (f.trans f2) (by cases c <;> simp_all))
  | false => exact iteF (q false H1 f (.inr ⟨rfl, .inl e⟩))
end
end V2
namespace V2
open PySem PySem.Spec PyProof.Rows L2
section
variable {K : PySem.W.Frag} {W : Wd} {Δ : Env} {t : TA} {k : Nat} {H0 H H' : Hp} {σ : L2.St} {ds : List PyData} {D : Ends}
theorem Own.later (h : Own K W k H0 H σ Δ ds) (f : Fr W H H') : Own K W k H0 H' σ Δ ds := by
  obtain ⟨p, vs, n0, m, hp, dd, hk, s⟩ := h.it
  have sm : Same (hid (fun a => W.M a ∨ a = p) H) (hid (fun a => W.M a ∨ a = p) H') := fun a o e => by
    by_cases z : W.M a ∨ a = p
    · rw [hid_in z] at e; cases e
    · rw [hid_out z] at e ⊢
      exact f.keep a o (fun q => z (.inl q)) e
  exact ⟨h.fr.trans f, p, vs, n0, m, f.keep p _ m hp, DtAll.ext sm _ _ dd, hk, s.ext sm⟩
/-- for k in range(..): the body as it reads -/
theorem own_rng {i : Nat} {tb : TS} {Nn : Nat → Prop} (o : Own K W k H0 H σ Δ ds) (ne : i ≠ k) (ha : XA K W t (Δ.set k (some (.d (.list ds)))) fun as => ∃ j : Int, as = [.d (.int j)] ∧ -(2 ^ 62) ≤ j ∧ j < 2 ^ 62 ∧ Nn j.toNat)
    (Inv : Nat → Nat → Env → List PyData → Prop) (h0 : ∀ n, Nn n → Inv n 0 Δ ds)
    (hs : ∀ (n j : Nat) (σ1 : L2.St) (H1 : Hp) (Δ1 : Env) (ds1 : List PyData), Nn n → j < n → Inv n j Δ1 ds1 → Own K W k H0 H1 (σ1.set i (some (.int (j : Int)))) (Δ1.set i (some (.d (.int (j : Int))))) ds1 →
      ∀ N : L2.St → Hp → Prop, (∀ σ2 H2 Δ2 ds2, Own K W k H0 H2 σ2 Δ2 ds2 → Inv n (j + 1) Δ2 ds2 → N σ2 H2) → tb { D with nx := N, ct := N, bk := D.nx } (σ1.set i (some (.int (j : Int)))) H1)
    (hd : ∀ (n : Nat) (σ1 : L2.St) (H1 : Hp) (Δ1 : Env) (ds1 : List PyData), Nn n → Own K W k H0 H1 σ1 Δ1 ds1 → Inv n n Δ1 ds1 → D.nx σ1 H1) : tFor (iRng1 t) (gName i) tb D σ H :=
  ha σ H o.fr.j o.st _ fun vs H1 as f1 e i1 => by
    obtain ⟨j, e, b1, b2, hn⟩ := e
    subst e
    cases i1 with
    | cons i1 i2 =>
      cases i2
      cases i1
      refine ⟨j, rfl, b1, b2, for_range (fun m σ2 H2 => ∃ Δ2 ds2, Own K W k H0 H2 σ2 Δ2 ds2 ∧ Inv j.toNat m Δ2 ds2) ⟨Δ, ds, o.later f1, h0 _ hn⟩ ?_ ?_⟩
      · rintro m σ2 H2 hm ⟨Δ2, ds2, o2, v2⟩
        have e : (0 : Int) + (m : Int) = (m : Int) := Int.zero_add _
        show tb _ (σ2.set i (some (.int (0 + (m : Int))))) H2
        rw [e]
        exact hs _ m σ2 H2 Δ2 ds2 hn hm v2 (own_other o2 ne fun M => .int _) _ fun σ3 H3 Δ3 ds3 o3 v3 => ⟨Δ3, ds3, o3, v3⟩
      · rintro σ2 H2 ⟨Δ2, ds2, o2, v2⟩
        exact hd _ σ2 H2 Δ2 ds2 hn o2 v2
/-- for x in xs, a list that stood ahead of one's own -/
theorem own_lst {i j : Nat} {tb : TS} {xs : List PyData} {a : Addr} {vs : List V} (o : Own K W k H0 H σ Δ ds) (ne : i ≠ k) (hj : σ[j]? = some (some (.ref a))) (ha : hid W.M H0 a = some (.lst vs)) (da : DtAll K (hid W.M H0) vs xs)
    (Inv : Nat → Env → List PyData → Prop) (h0 : Inv 0 Δ ds)
    (hs : ∀ (m : Nat) (x : PyData) (v : V) (σ1 : L2.St) (H1 : Hp) (Δ1 : Env) (ds1 : List PyData), xs[m]? = some x → Inv m Δ1 ds1 → Own K W k H0 H1 (σ1.set i (some v)) (Δ1.set i (some (.d x))) ds1 →
      ∀ N : L2.St → Hp → Prop, (∀ σ2 H2 Δ2 ds2, Own K W k H0 H2 σ2 Δ2 ds2 → Inv (m + 1) Δ2 ds2 → N σ2 H2) → tb { D with nx := N, ct := N, bk := D.nx } (σ1.set i (some v)) H1)
    (hd : ∀ (σ1 : L2.St) (H1 : Hp) (Δ1 : Env) (ds1 : List PyData), Own K W k H0 H1 σ1 Δ1 ds1 → Inv xs.length Δ1 ds1 → D.nx σ1 H1) : tFor (iList K (tVar j)) (gName i) tb D σ H := by
  have ma : ¬ W.M a := fun m => by rw [hid_in m] at ha; cases ha
  have ga : ∀ H2, Fr W H0 H2 → SqL K H2 a vs := fun H2 f => .inl (.inl (f.keep a _ ma (by rw [hid_out ma] at ha; exact ha)))
  refine ⟨.ref a, hj, a, rfl, ⟨vs, ga H o.fr⟩, for_list (xs := vs) (fun m σ2 H2 => ∃ Δ2 ds2, Own K W k H0 H2 σ2 Δ2 ds2 ∧ Inv m Δ2 ds2) ⟨Δ, ds, o, h0⟩ (fun m σ2 H2 _ ⟨Δ2, ds2, o2, _⟩ => ga H2 o2.fr) ?_ ?_⟩
  · rintro m v σ2 H2 hv ⟨Δ2, ds2, o2, v2⟩
    have l : m < xs.length := by
      rw [← da.length]
      exact (List.getElem?_eq_some_iff.mp hv).1
    obtain ⟨v', hv', dv⟩ := da.get (List.getElem?_eq_getElem l)
    rw [hv] at hv'
    cases hv'
    obtain ⟨p, us, n0, mp, hp, dd, hk, s⟩ := o2.it
    have iv : Is K (fun a => W.M a ∨ a = p) H2 v (.d xs[m]) := Dt.ext (same_in (φ := fun _ => True) o2.fr n0) _ _ dv
    refine hs m xs[m] v σ2 H2 Δ2 ds2 (List.getElem?_eq_getElem l) v2 ⟨o2.fr, p, us, n0, mp, hp, dd, by rw [List.getElem?_set_ne ne]; exact hk, s.set i iv⟩ _ fun σ3 H3 Δ3 ds3 o3 v3 => ⟨Δ3, ds3, o3, v3⟩
  · rintro σ2 H2 ⟨Δ2, ds2, o2, v2⟩
    rw [da.length] at v2
    exact hd σ2 H2 Δ2 ds2 o2 v2
/-- it is handed back -/
theorem own_ret (o : Own K W k H0 H σ Δ ds) (q : ∀ v, Is K W.M H v (.d (.list ds)) → D.rt v H) (hk : k < Δ.length) : tRet (tVar k) D σ H := by
  obtain ⟨v, h1, h2⟩ := o.st.get k (.d (.list ds)) (List.getElem?_set_self hk)
  exact ⟨v, h1, q v h2⟩
/-- a statement by the rules, the list of one's own read as data alone -/
theorem own_then {ts tu : TS} {N : Env → Prop} (o : Own K W k H0 H σ Δ ds) (h : XS K W ts (Δ.set k (some (.d (.list ds)))) N (fun _ => False) No No)
    (q : ∀ σ' H' Δ', Fr W H0 H' → StOk K W.M H' σ' Δ' → N Δ' → tu D σ' H') : tSeq ts tu D σ H :=
  xs_then h o.fr.j o.st fun σ' H' Δ' f s n => q σ' H' Δ' (o.fr.trans f) s n
end
/-- drawing -/
theorem xe_take {K : PySem.W.Frag} {W : Wd} {Δ : Env} {i : Nat} {pa : Addr} {te : TE} {m : Int} {E : XK} (hv : Δ[i]? = some (some (.v (.ref pa)))) (hp : HasPool W pa) (h : XV K W te Δ (.d (.int m))) (h0 : 0 < m) (h1 : m < 1000000) :
    XE K W (tCall (spD K preTake postTake) [] E (tCons (tVar i) (tCons te tNil))) Δ (IntR fun n => 0 ≤ n ∧ n < m) :=
  XE.mono (xe_call (xa_cons (xe_var hv) (xa_cons h xa_nil)) ⟨pa, m, rfl, hp, h0, h1⟩) fun a h => h
end V2
namespace V2
open PySem PySem.Spec PyProof.Rows L2
def rIntB : List V → Hp → VK → Prop := fun xs H Q => ∃ b, xs = [.bl b] ∧ Q (.int (b2i b)) H
theorem c_intB {X : Cx} : CallR X (.type "int") rIntB := by
  intro pins s σ H xs us Q I r h
  obtain ⟨b, rfl, q⟩ := h
  exact call_int1 pins s σ H _ us Q I r (.inr ⟨b, rfl, q⟩)
section
variable {K : PySem.W.Frag} {W : Wd} {Δ : Env} {t : TA} {te tl : TE} {k : Nat} {H0 H H' : Hp} {σ : L2.St} {ds : List PyData} {D : Ends} {N : Env → Prop} {Rt : A → Prop} {Bk Ct : Env → Prop} {ts : TS}
theorem cx_intB {b : Bool} : CX1 K W rIntB [.d (.bool b)] (· = .d (.int (b2i b))) := fun vs H j i Q q => by
  cases i with
  | cons h t =>
    cases t
    cases h
    exact ⟨_, rfl, q _ H _ (.refl j) rfl (.int _)⟩
theorem cx_minL {ns : List Int} (h0 : 0 < ns.length) : CX1 K W (rMin K) [.d (.list (ns.map PyData.int))] (IntR fun m => m ∈ ns ∧ ∀ y ∈ ns, m ≤ y) := fun vs H j i Q q => by
  cases i with
  | cons h t =>
    cases t
    cases h with
    | lst h1 d1 =>
      have e : ∀ {vs : List V} {ns : List Int}, DtAll K (hid W.M H) vs (ns.map PyData.int) → vs = ns.map V.int := by
        intro vs ns
        induction ns generalizing vs with
        | nil => intro h; cases h; rfl
        | cons n r ih =>
          intro h
          cases h with
          | cons h t => cases h; rw [ih t]; rfl
      obtain rfl := e d1
      exact ⟨_, ns, rfl, .inl (.inl (hid_le _ _ h1)), h0, fun m hm hy => q _ H _ (.refl j) ⟨m, rfl, hm, hy⟩ (.int _)⟩
theorem ox_last {xs : List PyData} {z : PyData} : OX K W (rIxL K) (.d (.list (xs ++ [z]))) (.d (.int (-1))) (· = .d z) := fun v w H j i1 i2 Q q => by
  cases i2
  cases i1 with
  | lst h1 d1 =>
    have len := d1.length
    obtain ⟨u, hu, du⟩ := d1.get (i := xs.length) (d := z) (by rw [List.getElem?_append_right (Nat.le_refl _), Nat.sub_self]; rfl)
    rename_i p vs
    have l2 : vs.length = xs.length + 1 := by rw [len, List.length_append]; rfl
    have ne : vs ≠ [] := fun e => by rw [e] at l2; cases l2
    have gl : vs.getLast ne = u := by
      rw [List.getLast_eq_getElem]
      have : vs[vs.length - 1]? = some u := by rw [l2]; exact hu
      exact (List.getElem?_eq_some_iff.mp this).2
    have e : vs = vs.dropLast ++ [u] := by
      have := (List.dropLast_concat_getLast ne).symm
      rwa [gl] at this
    refine ⟨_, vs, -1, u, rfl, rfl, .inl (.inl (hid_le _ _ h1)), ?_, q _ H _ (.refl j) rfl du⟩
    exact (congrArg (fun l => atI l (-1)) e).trans (atI_last _ _)
theorem own_append0 {P : PyData → Prop} (h : Own K W k H0 H σ Δ ds) (small : ds.length ≤ 100000) (he : XE K W te (Δ.set k (some (.d (.list ds)))) fun a => ∃ d, a = .d d ∧ flat d = true ∧ P d)
    (q : ∀ H' d, P d → Own K W k H0 H' σ Δ (ds ++ [d]) → D.nx σ H') : tDrop (tBM K "list" rAppend (tVar k) (tCons te tNil)) D σ H := by
  have st := h.st
  obtain ⟨p, vs, n0, m, hp, dd, hk, s⟩ := h.it
  refine ⟨_, hk, .inl ⟨rfl, _, .inl (.inl hp)⟩, he σ H h.fr.j st _ fun v H1 a f1 r i1 => ?_⟩
  obtain ⟨d, e, fl, pd⟩ := r
  subst e
  have hp1 := f1.keep p _ m hp
  have fA : Same (hid (fun a => W.M a ∨ a = p) H) (hid (fun a => W.M a ∨ a = p) (upd H1 p (.lst (vs ++ [v])))) := fun a o e => by
    by_cases z : W.M a ∨ a = p
    · rw [hid_in z] at e; cases e
    · rw [hid_out z] at e ⊢
      rw [upd_ne fun q => z (.inr q)]
      exact f1.keep a o (fun q => z (.inl q)) e
  obtain rfl := Dt.flat i1 fl
  refine ⟨p, vs, _, rfl, rfl, hp1, Nat.lt_of_le_of_lt (by rw [dd.length]; exact small) (by decide), q _ d pd ⟨?_, p, vs ++ [vOf d], n0, m, upd_same, DtAll.append (DtAll.ext fA _ _ dd) (.cons (Dt.ofFlat fl) .nil), hk, s.ext fA⟩⟩
  refine ⟨fun a o nm e => ?_, W.loc H1 _ (fun a ma => upd_ne fun z : a = p => m (by rw [← z]; exact ma)) f1.j⟩
  have ne : a ≠ p := ne_of_none e n0
  rw [upd_ne ne]
  exact f1.keep a o nm (h.fr.keep a o nm e)
/-- a pool is made: the rest in the world that has it -/
theorem xs_pool {s i kk : Nat} {ns : List Int} {n : Int} {E : XK} (hs : Δ[s]? = some (some (.s ns))) (hk : Δ[kk]? = some (some (.d (.int n)))) (hl : ns.length ≤ 63) (h0 : 0 ≤ n) (h1 : n < 1000)
    (h : ∀ p, ¬ W.M p → XS K (W.add p isPool) ts (Δ.set i (some (.v (.ref p)))) N Rt Bk Ct) : XS K W (tSeq (tAsg (tCall (spPool K) [] E (tCons (tVar s) (tCons (tVar kk) tNil))) (gName i)) ts) Δ N Rt Bk Ct := fun σ H j st D nx rt bk ct => by
  obtain ⟨v1, e1, a, rfl, sq⟩ := st.get s _ hs
  obtain ⟨v2, e2, i2⟩ := st.get kk _ hk
  cases i2
  refine ⟨_, e1, _, e2, a, ns, n, rfl, sqL_le sq, hl, h0, h1, fun p H1 sm np hp => ?_⟩
  obtain ⟨u, hu, pu⟩ := hp
  have m : ¬ W.M p := W.fresh j np
  have keepM : ∀ b, W.M b → H1 b = H b := fun b mb => by
    cases z : H b with
    | none => exact absurd z (W.live H b j mb)
    | some o => exact sm b o z
  have j1 : W.J H1 := W.loc H H1 keepM j
  have fp : Fr W H H1 := .of_same sm j1
  have sI : Same (hid W.M H) (hid (W.add p isPool).M H1) := same_in fp np
  have stp : StOk K (W.add p isPool).M H1 (σ.set i (some (.ref p))) (Δ.set i (some (.v (.ref p)))) := (st.ext sI).set i rfl
  have back : ∀ {H2 : Hp}, Fr (W.add p isPool) H1 H2 → Fr W H H2 := fun {H2} f => ⟨fun a o nm e => f.keep a o (fun z => z.elim nm (ne_of_none e np)) (sm a o e), f.j.1⟩
  exact h p m _ H1 ⟨j1, u, hu, pu⟩ stp D (fun σ' H' Δ' f s' q => nx σ' H' Δ' (back f) (s'.ext hid_add_le) q) (fun v H' a f r i => rt v H' a (back f) r (i.ext hid_add_le))
    (fun σ' H' Δ' f s' q => bk σ' H' Δ' (back f) (s'.ext hid_add_le) q) fun σ' H' Δ' f s' q => ct σ' H' Δ' (back f) (s'.ext hid_add_le) q
end
end V2
namespace V2
open PySem PySem.Spec PyProof.Rows L2
theorem seq_in {ts tu : TS} {D : Ends} {σ : L2.St} {H : Hp} (h : ts { D with nx := tu D } σ H) : tSeq ts tu D σ H := h
end V2
namespace V2
open PySem PySem.Spec PyProof.Rows L2
section
variable {K : PySem.W.Frag} {W : Wd} {Δ : Env} {te : TE} {ts tu : TS} {N : Env → Prop} {Rt : A → Prop}
theorem xs_thenR (h : XS K W ts Δ N Rt No No) {σ : L2.St} {H : Hp} {D : Ends} (j : W.J H) (s : StOk K W.M H σ Δ) (rt : ∀ v H' a, Fr W H H' → Rt a → Is K W.M H' v a → D.rt v H')
    (k : ∀ σ' H' Δ', Fr W H H' → StOk K W.M H' σ' Δ' → N Δ' → tu D σ' H') : tSeq ts tu D σ H := h σ H j s _ k rt (fun _ _ _ _ _ z => z.elim) fun _ _ _ _ _ z => z.elim
theorem xa_rng {n : Int} {Nn : Nat → Prop} (h : XV K W te Δ (.d (.int n))) (h0 : -(2 ^ 62) ≤ n) (h1 : n < 2 ^ 62) (hn : Nn n.toNat) : XA K W (tCons te tNil) Δ fun as => ∃ j : Int, as = [.d (.int j)] ∧ -(2 ^ 62) ≤ j ∧ j < 2 ^ 62 ∧ Nn j.toNat := fun σ H j s Q q =>
  (xa_cons h xa_nil) σ H j s _ fun vs H1 as f e i => by
    subst e
    exact q vs H1 _ f ⟨n, rfl, h0, h1, hn⟩ i
end
theorem run_law {K : PySem.W.Frag} {t : TS} {N : List Str} {a : Addr} {ns : List Int} {H : Hp} {Q : VK} (hS : SqL K H a (ns.map V.int)) (q : ∀ H', Q (.bl true) H') (h : XS K W0 t (startE N [.s ns]) (fun _ => False) (fun b => b = .d (.bool true)) No No) :
    t ⟨fun _ H' => Q .non H', Q, fun _ _ => False, fun _ _ => False⟩ (L2.start N [.ref a]) H :=
  h _ H trivial (stOk_start (.cons ⟨a, rfl, by rw [hid_W0]; exact hS⟩ .nil)) _ (fun _ _ _ _ _ z => z.elim) (fun v H' b f r i => by subst r; cases i; exact q H') (fun _ _ _ _ _ z => z.elim) fun _ _ _ _ _ z => z.elim
end V2
namespace V2
open PySem PySem.Spec PyProof.Rows L2
theorem okG0 {P : Program} {w : World} {K : PySem.W.Frag} {mg : Str → Option Value} {base : Heap} {k : Nat} {f : Addr} {fd : FuncData} {ps N : List Str} {sp : Sp} {x qual : Str} {st : Stmt} (F : Fun K x qual st f fd) (S : FnScope N ps (defScope st)) (len : ∀ vs H Q E, sp vs H Q E → vs.length = ps.length)
    (body : ∀ (cdv : Value) (A : Around) (outer : List PySem.Env) (s : Shared) (H : Hp) (vs : List V) (Q : VK) (E : XK),
      Room k (A.deeper (envOfC qual (defScope st) s.heap.objs.size f cdv)) → NoG A → sp vs H Q E →
      ∃ t, PSs (cxOf CX0 P w K mg base N qual (defScope st) f cdv A outer s H E).nox (defBody st) t ∧ t ⟨fun _ H' => Q .non H', Q, fun _ _ => False, fun _ _ => False⟩ (L2.start N vs) H) :
    FnG P w K mg base CX0 (k + 1) f fd ps sp :=
  okG F S len fun cdv A outer s H vs Q E hr ng h => by
    obtain ⟨t, ht, hq⟩ := body cdv A outer s H vs Q E hr ng h
    exact ⟨t, ht.nox, hq⟩
end V2

set_option Elab.async false
set_option linter.all false
set_option maxRecDepth 100000
set_option maxHeartbeats 1000000
namespace V2
open PySem PySem.Spec PyProof.Rows L2
/-! ### while -/
section
variable {K : PySem.W.Frag} {W : Wd} {Δ : Env} {ta tb te td ty tx : TE} {N : Env → Prop} {Rt : A → Prop} {Bk Ct : Env → Prop} {ts tu : TS} {tt : TT} {R : A → Prop}
theorem xs_while (Inv : Nat → Env → Prop) (h0 : ∃ m, Inv m Δ) (hs : ∀ m Δ', Inv m Δ' → ∃ b, XB K W tt Δ' b ∧ (b = true → XS K W ts Δ' (fun Δ2 => ∃ m', m' < m ∧ Inv m' Δ2) Rt N (fun Δ2 => ∃ m', m' < m ∧ Inv m' Δ2)) ∧ (b = false → N Δ')) :
    XS K W (tWhile tt ts) Δ N Rt Bk Ct := fun σ H j s D nx rt bk ct => by
  obtain ⟨m0, i0⟩ := h0
  refine ⟨fun m σ2 H2 => ∃ Δ2, Fr W H H2 ∧ StOk K W.M H2 σ2 Δ2 ∧ Inv m Δ2, ⟨m0, Δ, .refl j, s, i0⟩, ?_⟩
  rintro m σ2 H2 ⟨Δ2, f2, s2, v2⟩
  obtain ⟨b, hb, h1, h2⟩ := hs m Δ2 v2
  refine hb σ2 H2 f2.j s2 _ fun b' H3 f3 e => ?_
  subst e
  have f := f2.trans f3
  cases b' with
  | true =>
    refine iteT ⟨fun σ4 H4 => ∃ m', m' < m ∧ ∃ Δ4, Fr W H H4 ∧ StOk K W.M H4 σ4 Δ4 ∧ Inv m' Δ4, fun σ4 H4 h => h, ?_⟩
    exact h1 rfl σ2 H3 f.j (s2.fr f3) _ (fun σ4 H4 Δ4 f4 s4 ⟨m', l, v⟩ => ⟨m', l, Δ4, f.trans f4, s4, v⟩) (fun v H4 a f4 => rt v H4 a (f.trans f4)) (fun σ4 H4 Δ4 f4 s4 n => nx σ4 H4 Δ4 (f.trans f4) s4 n) fun σ4 H4 Δ4 f4 s4 ⟨m', l, v⟩ => ⟨m', l, Δ4, f.trans f4, s4, v⟩
  | false => exact iteF (nx σ2 H3 Δ2 f (s2.fr f3) (h2 rfl))
/-! ### tables of texts -/
def KD (kvs : List (Str × Str)) : PyData := .dict (kvs.map fun p => (.str p.1, .str p.2))
def look (kvs : List (Str × Str)) (z c : Str) : Str := ((kvs.find? fun p => decide (p.1 = c)).map (·.2)).getD z
def KV2 (kvs : List (Str × Str)) : List (Key × V) := kvs.map fun p => (Sum.inr p.1, V.str p.2)
theorem dtkv_cons {H : Hp} {es : List (Key × V)} {a b : PyData} {qs : List (PyData × PyData)} (h : DtKv K H es ((a, b) :: qs)) : ∃ k v es', es = (k, v) :: es' ∧ a = keyD k ∧ Dt K H v b ∧ DtKv K H es' qs := by
  cases h with
  | cons hd t => exact ⟨_, _, _, rfl, rfl, hd, t⟩
theorem dtkv_is {H : Hp} : ∀ {kvs : List (Str × Str)} {es : List (Key × V)}, DtKv K H es (kvs.map fun p => (.str p.1, .str p.2)) → es = KV2 kvs
  | [], es, h => by cases h; rfl
  | p :: r, es, h => by
    obtain ⟨k, v, es', rfl, e, hd, t⟩ := dtkv_cons (a := .str p.1) (b := .str p.2) h
    cases hd
    rw [dtkv_is t]
    cases k with
    | inl i => cases e
    | inr x =>
      cases e
      rfl
theorem dtkv_of {H : Hp} : ∀ (kvs : List (Str × Str)), DtKv K H (KV2 kvs) (kvs.map fun p => (.str p.1, .str p.2))
  | [] => .nil
  | p :: r => .cons (k := Sum.inr p.1) (.str p.2) (dtkv_of r)
theorem valV_look (c z : Str) : ∀ kvs : List (Str × Str), (valV (KV2 kvs) (Sum.inr c)).getD (.str z) = .str (look kvs z c)
  | [] => rfl
  | p :: r => by
    have ih := valV_look c z r
    unfold look KV2 at *
    rw [List.map_cons, List.find?_cons]
    by_cases e : p.1 = c
    · rw [valV_pos (by show (Sum.inr p.1 : Key) = Sum.inr c; rw [e])]
      simp [e]
    · rw [valV_neg (by show ¬ (Sum.inr p.1 : Key) = Sum.inr c; exact fun h => e (Sum.inr.inj h)), decide_eq_false e]
      exact ih
theorem xe_dget {kvs : List (Str × Str)} {c z : Str} (h : XV K W td Δ (.d (KD kvs))) (hy : XV K W ty Δ (.d (.str c))) (hx : XV K W tx Δ (.d (.str z))) : XV K W (tDGet2 td ty tx) Δ (.d (.str (look kvs z c))) := fun σ H j s Q q =>
  h σ H j s _ fun v H1 a f1 e i1 => by
    subst e
    cases i1 with
    | dct ha hk =>
      rename_i p es
      obtain rfl := dtkv_is hk
      have m : ¬ W.M p := fun m => by rw [hid_in m] at ha; cases ha
      rw [hid_out m] at ha
      refine ⟨p, rfl, .inl ⟨_, .inl ha⟩, hy σ H1 f1.j (s.fr f1) _ fun w H2 b f2 e i2 => ?_⟩
      subst e
      cases i2
      refine hx σ H2 f2.j (s.fr (f1.trans f2)) _ fun u H3 d f3 e i3 => ?_
      subst e
      cases i3
      refine ⟨_, DGet.k (k := Sum.inr c) ((f2.trans f3).keep p _ m ha), ?_⟩
      rw [valV_look]
      exact q _ H3 _ ((f1.trans f2).trans f3) rfl (.str _)
/-! ### texts -/
theorem ox_ixS {x : Str} {i : Int} {c : Nat} (n : x.length ≤ 100000) (h0 : 0 ≤ i) (h : x.cps.toList[i.toNat]? = some c) : OX K W rIxS (.d (.str x)) (.d (.int i)) (· = .d (.str (oneS c))) := fun v w H j i1 i2 Q q => by
  cases i1
  cases i2
  refine ⟨x, i, c, rfl, rfl, Nat.le_trans n (by decide), ?_, q _ H _ (.refl j) rfl (.str _)⟩
  have := atI_nat (xs := x.cps.toList) (j := i.toNat) h
  rwa [show ((i.toNat : Nat) : Int) = i by omega] at this
def rFind3 : V → List V → Hp → VK → Prop := fun x xs H Q => ∃ (a b : Str) (i : Int), x = .str a ∧ xs = [.str b, .int i] ∧ Q (.int (Txt.find3 a b i)) H
theorem m_find3 {X : Cx} : MtR X "str.find" rFind3 := mt_find3
theorem xe_find {x y : Str} {i : Int} (h : XV K W te Δ (.d (.str x))) (ha : XV K W ta Δ (.d (.str y))) (hb : XV K W tb Δ (.d (.int i))) : XV K W (tBM K "str" rFind3 te (tCons ta (tCons tb tNil))) Δ (.d (.int (Txt.find3 x y i))) := fun σ H j s Q q =>
  h σ H j s _ fun v H1 a f1 e i1 => by
    subst e
    cases i1
    refine ⟨rfl, ?_⟩
    refine (xa_cons ha (xa_cons hb xa_nil)) σ H1 f1.j (s.fr f1) _ fun vs H2 as f2 e i2 => ?_
    subst e
    cases i2 with
    | cons i2 t =>
      cases i2
      cases t with
      | cons i3 t =>
        cases i3
        cases t
        exact ⟨x, y, i, rfl, rfl, q _ H2 _ (f1.trans f2) rfl (.int _)⟩
theorem xe_slS {x : Str} {i k : Int} (n : x.length ≤ 100000) (h : XV K W te Δ (.d (.str x))) (ha : XV K W ta Δ (.d (.int i))) (hb : XV K W tb Δ (.d (.int k))) : XV K W (tSl rSlS te (tPart ta) (tPart tb)) Δ (.d (.str (cutS x (some i) (some k)))) := fun σ H j s Q q =>
  h σ H j s _ fun v H1 a f1 e i1 => by
    subst e
    cases i1
    refine ha σ H1 f1.j (s.fr f1) _ fun w H2 b f2 e i2 => ?_
    subst e
    cases i2
    refine ⟨i, rfl, hb σ H2 f2.j (s.fr (f1.trans f2)) _ fun u H3 d f3 e i3 => ?_⟩
    subst e
    cases i3
    exact ⟨k, rfl, x, rfl, Nat.le_trans n (by decide), q _ H3 _ ((f1.trans f2).trans f3) rfl (.str _)⟩
end
/-- the first of a sign from a place on -/
theorem occ_stays (s sub : Str) (hi a : Nat) : ∀ (l : List Nat) (f : Nat), (forIn l ((#[a] : Array Nat), f) (StrLaws.occBody s sub hi 1)).run.fst = #[a]
  | [], _ => by simp
  | b :: l, f => by
    rw [List.forIn_cons]
    unfold StrLaws.occBody
    rw [if_neg (fun h => by have := h.1.1.1; simp at this)]
    exact occ_stays s sub hi a l f
theorem occ_find (s sub : Str) (hi : Nat) : ∀ (l : List Nat) (f : Nat), (∀ i ∈ l, f ≤ i) →
    (forIn l ((#[] : Array Nat), f) (StrLaws.occBody s sub hi 1)).run.fst.toList = ((l.find? fun i => decide (i + sub.length ≤ hi ∧ Builtin.Str.subAt s sub i = true)).toList)
  | [], _, _ => by simp
  | a :: l, f, h => by
    have ha := h a (List.mem_cons_self ..)
    rw [List.forIn_cons, List.find?_cons]
    unfold StrLaws.occBody
    by_cases hc : a + sub.length ≤ hi ∧ Builtin.Str.subAt s sub a = true
    · rw [if_pos ⟨⟨⟨by simp, ha⟩, hc.1⟩, hc.2⟩, decide_eq_true hc]
      have := occ_stays s sub hi a l (a + sub.length)
      unfold StrLaws.occBody at this
      exact congrArg Array.toList this
    · rw [if_neg (fun q => hc ⟨q.1.2, q.2⟩), decide_eq_false hc]
      exact occ_find s sub hi l f fun i m => h i (List.mem_cons_of_mem _ m)
/-- how many signs a remark takes -/
def afterLF : List Nat → Nat
  | [] => 0
  | c :: r => if c = 10 then 1 else 1 + afterLF r
def afterF (x : List Nat) : Nat → Nat → Option Nat
  | 0, _ => none
  | n + 1, i => if x[i]? = some 10 then some i else afterF x n (i + 1)
theorem find_range (x : List Nat) : ∀ (n lo : Nat), (List.range' lo n).find? (fun i => decide (x[i]? = some 10)) = afterF x n lo
  | 0, _ => rfl
  | n + 1, lo => by
    rw [List.range'_succ, List.find?_cons]
    unfold afterF
    by_cases c : x[lo]? = some 10
    · rw [if_pos c, decide_eq_true c]
    · rw [if_neg c, decide_eq_false c]
      exact find_range x n (lo + 1)
theorem afterF_is (x : List Nat) : ∀ (n lo : Nat), lo + n = x.length + 1 → lo ≤ x.length → (match afterF x n lo with | some i => i + 1 | none => x.length) = lo + afterLF (x.drop lo)
  | 0, lo, h, h2 => by omega
  | n + 1, lo, h, h2 => by
    unfold afterF
    by_cases l : lo < x.length
    · rw [List.drop_eq_getElem_cons l]
      by_cases c : x[lo]? = some 10
      · rw [if_pos c]
        have e : x[lo] = 10 := by
          rw [List.getElem?_eq_getElem l] at c
          exact Option.some.inj c
        show lo + 1 = lo + (if x[lo] = 10 then 1 else _)
        rw [if_pos e]
      · rw [if_neg c, afterF_is x n (lo + 1) (by omega) (by omega)]
        have e : ¬ x[lo] = 10 := fun z => c (by rw [List.getElem?_eq_getElem l, z])
        show _ = lo + (if x[lo] = 10 then 1 else _)
        rw [if_neg e]
        omega
    · have e : lo = x.length := by omega
      subst e
      have c : ¬ x[x.length]? = some 10 := by rw [List.getElem?_eq_none (Nat.le_refl _)]; nofun
      rw [if_neg c, List.drop_length]
      have hn : n = 0 := by omega
      subst hn
      rfl
theorem find_lf (x : Str) (i : Nat) (h : i ≤ x.length) : (if Txt.find3 x "\n" (i : Int) < 0 then (x.length : Int) else Txt.find3 x "\n" (i : Int) + 1) = ((i + afterLF (x.cps.toList.drop i) : Nat) : Int) := by
  have fi : fromIndex x.length (i : Int) = i := by
    unfold fromIndex
    rw [if_neg (by omega)]
    omega
  have lf : ("\n" : Str) = (⟨#[10]⟩ : Str) := rfl
  have occ : Builtin.Str.occurrences x "\n" i x.length 1 = (afterF x.cps.toList (x.length + 1 - i) i).toList := by
    rw [lf, StrLaws.occ_eq, occ_find _ _ _ _ _ (fun k hk => (List.mem_range'_1.mp hk).1), ← find_range]
    congr 2
    funext k
    exact decide_eq_decide.mpr (StrLaws.subAt_one x 10 k)
  have ln : x.length = x.cps.toList.length := rfl
  have key := afterF_is x.cps.toList (x.length + 1 - i) i (by rw [← ln]; omega) (by rw [← ln]; exact h)
  unfold Txt.find3
  rw [fi, occ]
  cases q : afterF x.cps.toList (x.length + 1 - i) i with
  | some k =>
    rw [q] at key
    show (if ((k : Nat) : Int) < 0 then _ else ((k : Nat) : Int) + 1) = _
    rw [if_neg (by omega), ← key]
    rfl
  | none =>
    rw [q] at key
    show (if (-1 : Int) < 0 then (x.length : Int) else _) = _
    rw [if_pos (by decide), ← key]
    rfl
end V2
namespace V2
open PySem PySem.Spec PyProof.Rows L2
/-! ### promises with a datum of one's own -/
def spG {γ : Type} (K : PySem.W.Frag) (pre : γ → Wd → List A → Prop) (post : γ → A → Prop) : Sp := fun vs H Q _ =>
  ∃ (g : γ) (W : Wd) (as : List A), W.J H ∧ pre g W as ∧ IsAll K W.M H vs as ∧ ∀ v H' a, Fr W H H' → post g a → Is K W.M H' v a → Q v H'
section
variable {γ : Type} {P : Program} {w : World} {K : PySem.W.Frag} {mg : Str → Option Value} {base : Heap} {k : Nat} {f : Addr} {fd : FuncData} {ps N : List Str} {pre : γ → Wd → List A → Prop} {post : γ → A → Prop} {x qual : Str} {st : Stmt}
def BodyG (K : PySem.W.Frag) (N : List Str) (pre : γ → Wd → List A → Prop) (post : γ → A → Prop) (t : TS) : Prop :=
  ∀ g W as, pre g W as → XS K W t (startE N as) (fun _ => post g (.d .none)) (post g) No No
theorem bodyG_run {t : TS} (h : BodyG K N pre post t) {vs : List V} {H : Hp} {Q : VK} {E : XK} (s : spG K pre post vs H Q E) : t ⟨fun _ H' => Q .non H', Q, fun _ _ => False, fun _ _ => False⟩ (L2.start N vs) H := by
  obtain ⟨g, W, as, j, p, i, q⟩ := s
  exact h g W as p _ H j (stOk_start i) _ (fun σ' H' Δ' f _ n => q _ H' _ f n .non) (fun v H' a f r i' => q v H' a f r i') (fun _ _ _ _ _ z => z.elim) fun _ _ _ _ _ z => z.elim
theorem okDg (F : Fun K x qual st f fd) (S : FnScope N ps (defScope st)) (ar : ∀ g W as, pre g W as → as.length = ps.length)
    (body : ∀ (cdv : Value) (Ar : Around) (outer : List PySem.Env) (s : Shared) (H : Hp) (E : XK), Room k (Ar.deeper (envOfC qual (defScope st) s.heap.objs.size f cdv)) →
      ∃ t, PSs (cxOf CX0 P w K mg base N qual (defScope st) f cdv Ar outer s H E).nox (defBody st) t ∧ BodyG K N pre post t) : FnOk P w K mg base CX0 (k + 1) f fd ps (spG K pre post) :=
  F.ok S (fun vs H Q E ⟨g, W, as, _, p, i, _⟩ => by rw [i.length]; exact ar g W as p) fun cdv Ar outer s H vs Q E hr h => by
    obtain ⟨t, ht, hb⟩ := body cdv Ar outer s H E hr
    exact ⟨t, ht, bodyG_run hb h⟩
theorem okDgG (F : Fun K x qual st f fd) (S : FnScope N ps (defScope st)) (ar : ∀ g W as, pre g W as → as.length = ps.length)
    (body : ∀ (cdv : Value) (Ar : Around) (outer : List PySem.Env) (s : Shared) (H : Hp) (E : XK), Room k (Ar.deeper (envOfC qual (defScope st) s.heap.objs.size f cdv)) → NoG Ar →
      ∃ t, PSs (cxOf CX0 P w K mg base N qual (defScope st) f cdv Ar outer s H E).nox (defBody st) t ∧ BodyG K N pre post t) : FnG P w K mg base CX0 (k + 1) f fd ps (spG K pre post) :=
  okG0 F S (fun vs H Q E ⟨g, W, as, _, p, i, _⟩ => by rw [i.length]; exact ar g W as p) fun cdv Ar outer s H vs Q E hr ng h => by
    obtain ⟨t, ht, hb⟩ := body cdv Ar outer s H E hr ng
    exact ⟨t, ht, bodyG_run hb h⟩
variable {W : Wd} {Δ : Env} {ta : TA} {E : XK}
theorem xe_callg (g : γ) {as : List A} (h : XAs K W ta Δ as) (p : pre g W as) : XE K W (tCall (spG K pre post) [] E ta) Δ (post g) := fun σ H j s Q q =>
  h σ H j s _ fun vs H1 as' f1 e i1 => by
    subst e
    rw [List.append_nil]
    exact ⟨g, W, as', f1.j, p, i1, fun v H' a f r i => q v H' a (f1.trans f) r i⟩
end
end V2
namespace V2
open PySem PySem.Spec PyProof.Rows L2
theorem cutS_nat {x : Str} {i k : Nat} (hi : i ≤ k) (hk : k ≤ x.length) : cutS x (some (i : Int)) (some (k : Int)) = ⟨((x.cps.toList.drop i).take (k - i)).toArray⟩ := by
  unfold cutS
  rw [HT.sIx_nat, HT.sIx_nat, Nat.min_eq_left (show i ≤ x.length by omega), Nat.min_eq_left hk]
theorem xe_const {K : PySem.W.Frag} {W : Wd} {Δ : Env} {n : Int} {p : Prop} (_ : p) : XV K W (tC (.int n)) Δ (.d (.int n)) := xe_int
end V2

set_option Elab.async false
set_option linter.all false
set_option maxRecDepth 100000
set_option maxHeartbeats 1000000
namespace V2
open PySem PySem.Spec PyProof.Rows L2
/-! ### d.update(e), two dicts -/
def rUpd : V → List V → Hp → VK → Prop := fun x vs H Q => ∃ (a b : Addr) (kvs more : List (Key × V)), x = .ref a ∧ vs = [.ref b] ∧ a ≠ b ∧ H a = some (.dK kvs) ∧ H b = some (.dK more) ∧ kvs.length + more.length ≤ sizeLine ∧ Q .non (upd H a (.dK (mergeK kvs more)))
theorem mt_update {X : Cx} : MtR X "dict.update" rUpd := by
  intro pins s σ H x vs v us Q I rx rv h
  obtain ⟨a, b, kvs, more, ex, ev, ne, e, e2, sz, q⟩ := h
  subst ex
  subst ev
  obtain rfl : v = Value.ref a := rx
  cases rv with
  | @cons _ u _ us' r1 r2 =>
    cases r2
    obtain rfl : u = Value.ref b := r1
    obtain ⟨z, hd, ws, rel, dd⟩ := dk_of I.hok e
    obtain ⟨z2, hd2, ws2, rel2, dd2⟩ := dk_of I.hok e2
    refine call_meetsIn PySem.F.slot_dict_update dd.typeIs PySem.F.entry_dict_update (PySem.F.args_dict_update_2 _ _) (meets_dict_update (mixKind X.prog X.w) a b ne hd2) ⟨ws, ws2, dd, dd2, by rw [← rel.length, ← rel2.length]; exact sz, fun h' dd' _ hs => ?_⟩
    have he : ∃ q, h'.get? a = some q := let ⟨q, _, _, hq, _⟩ := dd'; ⟨q, hq⟩
    exact ⟨.non, _, d_write (t' := s.toks) I (by rw [e]; exact True.intro) hs he (dk_new (Nat.le_trans (length_mergeK more kvs) sz) hd (rel2.merge rel) dd'), rfl, q⟩
/-! ### tables of texts, told one by one -/
def putS (kvs : List (Str × Str)) (k z : Str) : List (Str × Str) := if (kvs.any fun kv => decide (kv.1 = k)) = true then kvs.map (fun kv => if kv.1 = k then (kv.1, z) else kv) else kvs ++ [(k, z)]
theorem any_KV2 (k : Str) : ∀ kvs : List (Str × Str), ((KV2 kvs).any fun kv => decide (kv.1 = Sum.inr k)) = kvs.any fun kv => decide (kv.1 = k)
  | [] => rfl
  | p :: r => by
    have ih := any_KV2 k r
    unfold KV2 at *
    rw [List.map_cons, List.any_cons, List.any_cons, ih]
    congr 1
    exact decide_eq_decide.mpr ⟨fun h => Sum.inr.inj h, fun h => congrArg Sum.inr h⟩
theorem putK_KV2 (kvs : List (Str × Str)) (k z : Str) : putK (KV2 kvs) (Sum.inr k) (.str z) = KV2 (putS kvs k z) := by
  unfold putK putS
  rw [any_KV2]
  split
  · unfold KV2
    rw [List.map_map, List.map_map]
    refine List.map_congr_left fun p _ => ?_
    show (if (Sum.inr p.1 : Key) = Sum.inr k then ((Sum.inr p.1 : Key), V.str z) else (Sum.inr p.1, V.str p.2)) = _
    by_cases e : p.1 = k
    · show _ = (Sum.inr (if p.1 = k then (p.1, z) else p).1, V.str (if p.1 = k then (p.1, z) else p).2)
      rw [if_pos (congrArg Sum.inr e), if_pos e]
    · show _ = (Sum.inr (if p.1 = k then (p.1, z) else p).1, V.str (if p.1 = k then (p.1, z) else p).2)
      rw [if_neg (fun h => e (Sum.inr.inj h)), if_neg e]
  · unfold KV2
    rw [List.map_append]
    rfl
def mergeS (kvs more : List (Str × Str)) : List (Str × Str) := more.foldl (fun acc kv => putS acc kv.1 kv.2) kvs
theorem mergeK_KV2 : ∀ (more kvs : List (Str × Str)), mergeK (KV2 kvs) (KV2 more) = KV2 (mergeS kvs more)
  | [], kvs => rfl
  | p :: r, kvs => by
    have ih := mergeK_KV2 r (putS kvs p.1 p.2)
    rw [← putK_KV2] at ih
    exact ih
/-- keys once each and among KS, worths among WS -/
structure DicOk (KS WS : List Str) (kvs : List (Str × Str)) : Prop where
  nd : (kvs.map (·.1)).Nodup
  ks : ∀ p ∈ kvs, p.1 ∈ KS
  ws : ∀ p ∈ kvs, p.2 ∈ WS
theorem nd_len {α : Type} [DecidableEq α] : ∀ (l m : List α), l.Nodup → (∀ x ∈ l, x ∈ m) → l.length ≤ m.length
  | [], m, _, _ => Nat.zero_le _
  | a :: l, m, nd, h => by
    rw [List.nodup_cons] at nd
    have ha := h a (.head _)
    have ih := nd_len l (m.erase a) nd.2 fun x hx => (List.mem_erase_of_ne fun e : x = a => nd.1 (by rw [← e]; exact hx)).mpr (h x (.tail _ hx))
    rw [List.length_erase_of_mem ha] at ih
    have : 0 < m.length := List.length_pos_of_mem ha
    rw [List.length_cons]
    omega
section
variable {KS WS : List Str} {kvs more : List (Str × Str)}
theorem DicOk.len (h : DicOk KS WS kvs) : kvs.length ≤ KS.length := by
  have := nd_len (kvs.map (·.1)) KS h.nd fun x hx => by
    obtain ⟨p, hp, e⟩ := List.mem_map.mp hx
    rw [← e]
    exact h.ks p hp
  rwa [List.length_map] at this
theorem DicOk.put (h : DicOk KS WS kvs) {k z : Str} (hk : k ∈ KS) (hz : z ∈ WS) : DicOk KS WS (putS kvs k z) := by
  unfold putS
  by_cases a : (kvs.any fun kv => decide (kv.1 = k)) = true
  · rw [if_pos a]
    have e : (kvs.map fun kv => if kv.1 = k then (kv.1, z) else kv).map (·.1) = kvs.map (·.1) := by
      rw [List.map_map]
      refine List.map_congr_left fun p _ => ?_
      show (if p.1 = k then (p.1, z) else p).1 = p.1
      split <;> rfl
    refine ⟨by rw [e]; exact h.nd, fun p hp => ?_, fun p hp => ?_⟩
    · obtain ⟨q, hq, e⟩ := List.mem_map.mp hp
      rw [← e]
      split
      · exact h.ks q hq
      · exact h.ks q hq
    · obtain ⟨q, hq, e⟩ := List.mem_map.mp hp
      rw [← e]
      split
      · exact hz
      · exact h.ws q hq
  · rw [if_neg a]
    refine ⟨?_, fun p hp => ?_, fun p hp => ?_⟩
    · rw [List.map_append, List.nodup_append]
      refine ⟨h.nd, by simp, fun x hx y hy e => a ?_⟩
      obtain ⟨q, hq, e1⟩ := List.mem_map.mp hx
      have e2 : y = k := by simpa using hy
      exact List.any_eq_true.mpr ⟨q, hq, decide_eq_true (by rw [e1, e, e2])⟩
    · rcases List.mem_append.mp hp with q | q
      · exact h.ks p q
      · cases (List.mem_singleton.mp q); exact hk
    · rcases List.mem_append.mp hp with q | q
      · exact h.ws p q
      · cases (List.mem_singleton.mp q); exact hz
theorem DicOk.nil : DicOk KS WS [] := ⟨List.nodup_nil, (fun _ h => nomatch h), (fun _ h => nomatch h)⟩
theorem DicOk.merge : ∀ {more kvs : List (Str × Str)}, DicOk KS WS kvs → (∀ p ∈ more, p.1 ∈ KS ∧ p.2 ∈ WS) → DicOk KS WS (mergeS kvs more)
  | [], _, h, _ => h
  | p :: r, _, h, g => DicOk.merge (more := r) (h.put (g p (.head _)).1 (g p (.head _)).2) fun q hq => g q (.tail _ hq)
end
/-- a table that may be written -/
def isDic (KS WS : List Str) (u : HO) : Prop := ∃ kvs, u = .dK (KV2 kvs) ∧ DicOk KS WS kvs
structure HasDic (W : Wd) (KS WS : List Str) (a : Addr) : Prop where
  mem : W.M a
  get : ∀ H, W.J H → ∃ kvs, H a = some (.dK (KV2 kvs)) ∧ DicOk KS WS kvs
  put : ∀ H kvs, W.J H → DicOk KS WS kvs → W.J (upd H a (.dK (KV2 kvs)))
theorem hasDic_new {W : Wd} {KS WS : List Str} {D : Addr} (n : ¬ W.M D) : HasDic (W.add D (isDic KS WS)) KS WS D where
  mem := .inr rfl
  get H j := by
    obtain ⟨u, e, kvs, rfl, h⟩ := j.2
    exact ⟨kvs, e, h⟩
  put H kvs j h := ⟨W.loc H _ (fun a m => upd_ne fun e => n (e ▸ m)) j.1, _, upd_same, kvs, rfl, h⟩
theorem Fr.dicput {W : Wd} {KS WS : List Str} {H : Hp} {a : Addr} {kvs : List (Str × Str)} (h : HasDic W KS WS a) (j : W.J H) (o : DicOk KS WS kvs) : Fr W H (upd H a (.dK (KV2 kvs))) :=
  ⟨fun b u nm e => by rw [upd_ne fun z : b = a => nm (by rw [z]; exact h.mem)]; exact e, h.put H kvs j o⟩
def tStrs (ps : List (Str × Str)) : List (TE × TE) := ps.map fun p => (tC (.str p.1), tC (.str p.2))
theorem tPairs_strs {σ : L2.St} {H : Hp} : ∀ (ps : List (Str × Str)) {Q : List (V × V) → Hp → Prop}, Q (ps.map fun p => (.str p.1, .str p.2)) H → tPairs (tStrs ps) σ H Q
  | [], Q, h => h
  | p :: r, Q, h => tPairs_strs r (Q := fun ps H3 => Q ((.str p.1, .str p.2) :: ps) H3) h
theorem disp_strs {σ : L2.St} {H : Hp} {Q : VK} {ps : List (Str × Str)} (l : ps.length ≤ 15) (q : ∀ p, H p = none → Q (.ref p) (upd H p (.dK (KV2 (mergeS [] ps))))) : tDisp (tStrs ps) σ H Q := fun p np => by
  refine tPairs_strs ps ⟨upd_same, KV2 ps, ?_, ?_, ?_⟩
  · unfold KV2
    rw [List.map_map]
    rfl
  · unfold KV2
    rw [List.length_map]
    exact l
  · rw [upd_upd]
    have := q p np
    rw [← mergeK_KV2] at this
    exact this
section
variable {K : PySem.W.Frag} {W : Wd} {Δ : Env} {ta tb te td ty tx : TE} {N : Env → Prop} {Rt : A → Prop} {Bk Ct : Env → Prop} {ts tu : TS} {KS WS : List Str}
/-- a table of one's own: the rest in the world that has it; then it is handed back -/
theorem xs_dic {i : Nat} {ps : List (Str × Str)} (l : ps.length ≤ 15) (g : ∀ p ∈ ps, p.1 ∈ KS ∧ p.2 ∈ WS) (rt : ∀ kvs, DicOk KS WS kvs → Rt (.d (KD kvs)))
    (h : ∀ p, ¬ W.M p → XS K (W.add p (isDic KS WS)) ts (Δ.set i (some (.v (.ref p)))) No (fun a => a = .v (.ref p)) No No) : XS K W (tSeq (tAsg (tDisp (tStrs ps)) (gName i)) ts) Δ N Rt Bk Ct := fun σ H j st D nx rt' bk ct => by
  refine seq_in (show tDisp (tStrs ps) σ H _ from disp_strs l fun p np => ?_)
  have m : ¬ W.M p := W.fresh j np
  have ok : DicOk KS WS (mergeS [] ps) := DicOk.nil.merge g
  have f0 : Fr W H (upd H p (.dK (KV2 (mergeS [] ps)))) := .new j np
  have stp : StOk K (W.add p (isDic KS WS)).M (upd H p (.dK (KV2 (mergeS [] ps)))) (σ.set i (some (.ref p))) (Δ.set i (some (.v (.ref p)))) := (st.add (φ := isDic KS WS) j np).set i rfl
  refine h p m _ _ ⟨f0.j, _, upd_same, _, rfl, ok⟩ stp _ (fun _ _ _ _ _ z => z.elim) (fun v H' a f r i1 => ?_) (fun _ _ _ _ _ z => z.elim) fun _ _ _ _ _ z => z.elim
  subst r
  have e : v = .ref p := i1
  subst e
  obtain ⟨u, hu, kvs, rfl, ok2⟩ := f.j.2
  have back : Fr W H H' := ⟨fun a o nm e => f.keep a o (fun z => z.elim nm (ne_of_none e np)) (f0.keep a o nm e), f.j.1⟩
  exact rt' _ H' (.d (KD kvs)) back (rt kvs ok2) (show Dt K (hid W.M H') (.ref p) (KD kvs) from .dct (by rw [hid_out m]; exact hu) (dtkv_of kvs))
theorem xs_dupd {i : Nat} {p : Addr} {ps : List (Str × Str)} (hv : Δ[i]? = some (some (.v (.ref p)))) (hd : HasDic W KS WS p) (l : ps.length ≤ 15) (g : ∀ p ∈ ps, p.1 ∈ KS ∧ p.2 ∈ WS) (lk : KS.length ≤ 10000) (n : N Δ) :
    XS K W (tDrop (tBM K "dict" rUpd (tVar i) (tCons (tDisp (tStrs ps)) tNil))) Δ N Rt Bk Ct := fun σ H j s D nx _ _ _ => by
  obtain ⟨v, h1, h2⟩ := s.get i _ hv
  have e : v = .ref p := h2
  subst e
  obtain ⟨kvs, g0, ok⟩ := hd.get H j
  refine ⟨_, h1, .inr (.inr (.inl ⟨rfl, .inl ⟨_, g0⟩⟩)), disp_strs l fun q nq => ?_⟩
  have ne : p ≠ q := ne_of_none g0 nq
  have f0 : Fr W H (upd H q (.dK (KV2 (mergeS [] ps)))) := .new j nq
  have ok2 : DicOk KS WS (mergeS [] ps) := DicOk.nil.merge g
  have ok3 : ∀ q ∈ mergeS [] ps, q.1 ∈ KS ∧ q.2 ∈ WS := fun q hq => ⟨ok2.ks q hq, ok2.ws q hq⟩
  refine ⟨p, q, _, _, rfl, rfl, ne, by rw [upd_ne ne]; exact g0, upd_same, ?_, ?_⟩
  · have a := ok.len
    have b := ok2.len
    unfold KV2
    rw [List.length_map, List.length_map]
    exact Nat.le_trans (Nat.add_le_add (Nat.le_trans a lk) (Nat.le_trans b lk)) (by decide)
  · rw [mergeK_KV2]
    have f1 := f0.trans (Fr.dicput hd f0.j (ok.merge ok3))
    exact nx _ _ _ f1 (s.fr f1) n
theorem xs_dput {i : Nat} {p : Addr} (hv : Δ[i]? = some (some (.v (.ref p)))) (hd : HasDic W KS WS p) (lk : KS.length ≤ 10000) (hk : XE K W ty Δ fun a => ∃ k ∈ KS, a = .d (.str k)) (hz : XE K W te Δ fun a => ∃ z ∈ WS, a = .d (.str z)) (n : N Δ) :
    XS K W (sDPut (tVar i) ty te) Δ N Rt Bk Ct := fun σ H j s D nx _ _ _ =>
  hz σ H j s _ fun v H1 a f1 r i1 => by
    obtain ⟨z, mz, e⟩ := r
    subst e
    cases i1
    obtain ⟨v, h1, h2⟩ := (s.fr f1).get i _ hv
    have e : v = .ref p := h2
    subst e
    refine ⟨_, h1, hk σ H1 f1.j (s.fr f1) _ fun w H2 b f2 r2 i2 => ?_⟩
    obtain ⟨k, mk, e⟩ := r2
    subst e
    cases i2
    obtain ⟨kvs, g0, ok⟩ := hd.get H2 f2.j
    refine ⟨p, _, rfl, DPut.k (k := Sum.inr k) g0 ?_, ?_⟩
    · have a := ok.len
      unfold KV2
      rw [List.length_map]
      exact Nat.lt_of_le_of_lt (Nat.le_trans a lk) (by decide)
    · rw [putK_KV2]
      have f := (f1.trans f2).trans (Fr.dicput hd f2.j (ok.put mk mz))
      exact nx _ _ _ f (s.fr f) n
end
end V2

namespace V2
open PySem PySem.Spec PyProof.Rows L2
section
variable {K : PySem.W.Frag} {W : Wd} {Δ : Env} {te : TE}
theorem dts_strs {H : Hp} : ∀ {ys : List Str} {vs : List V}, DtAll K H vs (ys.map PyData.str) → vs = ys.map V.str
  | [], _, .nil => rfl
  | y :: r, _, .cons (.str _) t => by rw [dts_strs t]; rfl
theorem strs_ones : ∀ (ds : List PyData), (∀ (i : Nat) d, ds[i]? = some d → ∃ c, d = .str (oneS c)) → ∃ cs : List Nat, ds = (cs.map oneS).map PyData.str ∧ cs.length = ds.length
  | [], _ => ⟨[], rfl, rfl⟩
  | d :: r, h => by
    obtain ⟨c, e⟩ := h 0 d rfl
    obtain ⟨cs, e2, l⟩ := strs_ones r fun i d h' => h (i + 1) d h'
    exact ⟨c :: cs, by rw [e, e2]; rfl, by rw [List.length_cons, List.length_cons, l]⟩
theorem strs_onesP {Pc : Nat → Prop} : ∀ (ds : List PyData), (∀ (i : Nat) d, ds[i]? = some d → ∃ c, Pc c ∧ d = .str (oneS c)) → ∃ cs : List Nat, ds = (cs.map oneS).map PyData.str ∧ cs.length = ds.length ∧ ∀ c ∈ cs, Pc c
  | [], _ => ⟨[], rfl, rfl, fun _ h => nomatch h⟩
  | d :: r, h => by
    obtain ⟨c, p, e⟩ := h 0 d rfl
    obtain ⟨cs, e2, l, q⟩ := strs_onesP r fun i d h' => h (i + 1) d h'
    exact ⟨c :: cs, by rw [e, e2]; rfl, by rw [List.length_cons, List.length_cons, l], fun x hx => by
      rcases List.mem_cons.mp hx with z | z
      · rw [z]; exact p
      · exact q x z⟩
def rJoin (K : PySem.W.Frag) : V → List V → Hp → VK → Prop := fun x xs H Q => ∃ a p, ∃ ys : List Str, x = .str a ∧ xs = [.ref p] ∧ (SqL K H p (ys.map V.str) ∨ SqT K H p (ys.map V.str)) ∧ (ys.map (·.length)).sum + ys.length * a.length ≤ 16777216 ∧ Q (.str (Txt.join a ys)) H
theorem sum_ones : ∀ cs : List Nat, ((cs.map oneS).map (·.length)).sum = cs.length
  | [] => rfl
  | c :: r => by
    rw [List.map_cons, List.map_cons, List.sum_cons, sum_ones r, List.length_cons]
    show 1 + r.length = _
    omega
theorem fold_ones : ∀ (cs : List Nat) (acc : Array Nat), (cs.map oneS).foldl (fun acc p => acc ++ ("" : Str).cps ++ p.cps) acc = acc ++ cs.toArray
  | [], acc => by simp
  | c :: r, acc => by
    rw [List.map_cons, List.foldl_cons, fold_ones r]
    show acc ++ #[] ++ #[c] ++ r.toArray = acc ++ (c :: r).toArray
    simp
theorem join_ones (cs : List Nat) : Txt.join "" (cs.map oneS) = ⟨cs.toArray⟩ := by
  cases cs with
  | nil => rfl
  | cons c r =>
    show (⟨((r.map oneS)).foldl (fun acc p => acc ++ ("" : Str).cps ++ p.cps) #[c]⟩ : Str) = _
    rw [fold_ones]
    simp
/-- ''.join of signs -/
theorem xe_joinC {Nn : Nat → Prop} {Pc : Nat → Prop} (he : XE K W te Δ fun b => ∃ ds : List PyData, Nn ds.length ∧ (∀ (i : Nat) (d : PyData), ds[i]? = some d → ∃ c, Pc c ∧ d = PyData.str (oneS c)) ∧ b = .d (.list ds)) (n : ∀ m, Nn m → m ≤ 100000) :
    XE K W (tM1 (rJoin K) (tC (.str "")) te) Δ fun a => ∃ cs : List Nat, a = .d (.str ⟨cs.toArray⟩) ∧ Nn cs.length ∧ ∀ c ∈ cs, Pc c := fun σ H j s Q q =>
  ⟨⟨_, rfl⟩, he σ H j s _ fun v H1 a f1 r i1 => by
    obtain ⟨ds, hn, hs, e⟩ := r
    subst e
    obtain ⟨cs, e, l, pc⟩ := strs_onesP ds hs
    subst e
    cases i1 with
    | lst h1 d1 =>
      have e := dts_strs d1
      subst e
      have ls : ((cs.map oneS).map (·.length)).sum + (cs.map oneS).length * ("" : Str).length = cs.length := by
        rw [sum_ones]
        show cs.length + _ * 0 = _
        omega
      refine ⟨_, _, _, rfl, rfl, .inl (.inl (.inl (hid_le _ _ h1))), by rw [ls, l]; exact Nat.le_trans (n _ hn) (by decide), ?_⟩
      rw [join_ones]
      exact q _ H1 _ f1 ⟨cs, rfl, by rw [l]; exact hn, pc⟩ (.str _)⟩
theorem xa_oneM {R : A → Prop} {S : List A → Prop} (h : XE K W te Δ R) (m : ∀ a, R a → S [a]) : XA K W (tCons te tNil) Δ S := fun σ H j s Q q =>
  h σ H j s _ fun v H1 a f r i => q _ H1 _ f (m a r) (.cons i .nil)
end
end V2

set_option Elab.async false
set_option linter.all false
set_option maxRecDepth 100000
set_option maxHeartbeats 1000000
namespace V2
open PySem PySem.Spec PyProof.Rows L2
/-! ### worlds with a state: what may change stays the same; what is true of it goes by the state -/
structure SW (S : Type) where
  M : Addr → Prop
  J : S → Hp → Prop
  live : ∀ s H a, J s H → M a → H a ≠ none
  loc : ∀ s H H', (∀ a, M a → H' a = H a) → J s H → J s H'
def SW.at {S : Type} (Z : SW S) (s : S) : Wd := ⟨Z.M, Z.J s, Z.live s, Z.loc s⟩
section
variable {S : Type} {Z : SW S} {s t u : S} {H H1 H2 : Hp} {K : PySem.W.Frag} {σ : L2.St} {Δ : Env} {v : V} {a : A}
theorem Fr.go (a : Fr (Z.at s) H H1) (b : Fr (Z.at t) H1 H2) : Fr (Z.at t) H H2 := ⟨fun x o n e => b.keep x o n (a.keep x o n e), b.j⟩
theorem StOk.go (f : Fr (Z.at t) H H1) (h : StOk K Z.M H σ Δ) : StOk K Z.M H1 σ Δ := h.ext (M := Z.M) (M' := Z.M) f.same
theorem Is.go (f : Fr (Z.at t) H H1) (h : Is K Z.M H v a) : Is K Z.M H1 v a := h.ext (M := Z.M) (M' := Z.M) f.same
end
/-! ### judgements -/
section
variable {S : Type} (K : PySem.W.Frag) (Z : SW S) (s : S)
def YE (te : TE) (Δ : Env) (R : S → A → Prop) : Prop := ∀ σ H, Z.J s H → StOk K Z.M H σ Δ → ∀ Q : VK, (∀ v H' t a, Fr (Z.at t) H H' → R t a → Is K Z.M H' v a → Q v H') → te σ H Q
def YT (tt : TT) (Δ : Env) (R : S → Bool → Prop) : Prop := ∀ σ H, Z.J s H → StOk K Z.M H σ Δ → ∀ Q : Bool → Hp → Prop, (∀ b H' t, Fr (Z.at t) H H' → R t b → Q b H') → tt σ H Q
def YA (ta : TA) (Δ : Env) (R : S → List A → Prop) : Prop := ∀ σ H, Z.J s H → StOk K Z.M H σ Δ → ∀ Q : List V → Hp → Prop, (∀ vs H' t as, Fr (Z.at t) H H' → R t as → IsAll K Z.M H' vs as → Q vs H') → ta σ H Q
/-- a statement; what it lets out: X of the state, and then Wp of the heap -/
def YS (Wp : Hp → Prop) (X : S → Prop) (ts : TS) (Δ : Env) (N : S → Env → Prop) (Rt : S → A → Prop) (Bk Ct : S → Env → Prop) : Prop := ∀ σ H, Z.J s H → StOk K Z.M H σ Δ → (∀ H' t, Fr (Z.at t) H H' → X t → Wp H') → ∀ D : Ends,
  (∀ σ' H' t Δ', Fr (Z.at t) H H' → StOk K Z.M H' σ' Δ' → N t Δ' → D.nx σ' H') → (∀ v H' t a, Fr (Z.at t) H H' → Rt t a → Is K Z.M H' v a → D.rt v H') →
  (∀ σ' H' t Δ', Fr (Z.at t) H H' → StOk K Z.M H' σ' Δ' → Bk t Δ' → D.bk σ' H') → (∀ σ' H' t Δ', Fr (Z.at t) H H' → StOk K Z.M H' σ' Δ' → Ct t Δ' → D.ct σ' H') → ts D σ H
def YI (wi : TI) (Δ : Env) (Nn : Nat → Prop) (Y : Nat → A → Prop) : Prop := ∀ σ H, Z.J s H → StOk K Z.M H σ Δ → ∀ R : It → Hp → Prop,
  (∀ J H1 n, Fr (Z.at s) H H1 → Nn n → (∀ t H2, Fr (Z.at t) H1 H2 → ∀ i, (i < n → J.go i H2 ∧ ∀ x H3, J.yld i H2 x H3 → H3 = H2 ∧ ∃ a, Y i a ∧ Is K Z.M H1 x a) ∧ (n ≤ i → J.stop i H2)) → R J H1) → wi σ H R
end
def NoS {S : Type} (_ : S) (_ : Env) : Prop := False
section
variable {S : Type} {Wp : Hp → Prop} {X : S → Prop} {K : PySem.W.Frag} {Z : SW S} {s : S} {te ta tb tl : TE} {tt ut : TT} {t tr : TA} {ts tu : TS} {Δ : Env} {R R' : S → A → Prop} {N N1 : S → Env → Prop} {Rt : S → A → Prop} {Bk Ct : S → Env → Prop}
theorem ye_of {P : A → Prop} (h : XE K (Z.at s) te Δ P) : YE K Z s te Δ fun t a => t = s ∧ P a := fun σ H j st Q q => h σ H j st Q fun v H' a f r i => q v H' s a f ⟨rfl, r⟩ i
theorem ye_mono (h : YE K Z s te Δ R) (m : ∀ t a, R t a → R' t a) : YE K Z s te Δ R' := fun σ H j st Q q => h σ H j st Q fun v H' t a f r i => q v H' t a f (m t a r) i
theorem yt_of {P : Bool → Prop} (h : XT K (Z.at s) tt Δ P) : YT K Z s tt Δ fun t b => t = s ∧ P b := fun σ H j st Q q => h σ H j st Q fun b H' f r => q b H' s f ⟨rfl, r⟩
theorem ya_of {P : List A → Prop} (h : XA K (Z.at s) t Δ P) : YA K Z s t Δ fun t a => t = s ∧ P a := fun σ H j st Q q => h σ H j st Q fun v H' a f r i => q v H' s a f ⟨rfl, r⟩ i
theorem ys_of {P : Env → Prop} {Pr : A → Prop} {Pb Pc : Env → Prop} (h : XS K (Z.at s) ts Δ P Pr Pb Pc) (n : ∀ Δ', P Δ' → N s Δ') (r : ∀ a, Pr a → Rt s a) (b : ∀ Δ', Pb Δ' → Bk s Δ') (c : ∀ Δ', Pc Δ' → Ct s Δ') : YS K Z s Wp X ts Δ N Rt Bk Ct := fun σ H j st _ D nx rt bk ct =>
  h σ H j st D (fun σ' H' Δ' f s' z => nx σ' H' s Δ' f s' (n Δ' z)) (fun v H' a f z i => rt v H' s a f (r a z) i) (fun σ' H' Δ' f s' z => bk σ' H' s Δ' f s' (b Δ' z)) fun σ' H' Δ' f s' z => ct σ' H' s Δ' f s' (c Δ' z)
theorem ya_one (h : YE K Z s te Δ R) : YA K Z s (tCons te tNil) Δ fun t as => ∃ a, as = [a] ∧ R t a := fun σ H j st Q q => h σ H j st _ fun v H1 t a f r i => q _ H1 t _ f ⟨a, rfl, r⟩ (.cons i .nil)
theorem ye_cb {r : List V → Hp → VK → Prop} {Ra : S → List A → Prop} (ha : YA K Z s t Δ Ra) (hr : ∀ t as, Ra t as → CX1 K (Z.at t) r as (R t)) : YE K Z s (tCB r t) Δ R := fun σ H j st Q q =>
  ha σ H j st _ fun vs H1 t as f1 ra i1 => hr t as ra vs H1 f1.j i1 Q fun u H2 c f2 rc i2 => q u H2 t c (f1.go f2) rc i2
theorem ye_op {r : R2} {Ra : S → A → Prop} {Rb : S → A → S → A → Prop} (ha : YE K Z s ta Δ Ra) (hb : ∀ t a, Ra t a → YE K Z t tb Δ (Rb t a)) (hr : ∀ t a u b, Ra t a → Rb t a u b → OX K (Z.at u) r a b (R u)) : YE K Z s (tOp r ta tb) Δ R := fun σ H j st Q q =>
  ha σ H j st _ fun v H1 t a f1 ra i1 => hb t a ra σ H1 f1.j (st.go f1) _ fun w H2 u b f2 rb i2 => hr t a u b ra rb v w H2 f2.j (Is.go f2 i1) i2 Q fun x H3 c f3 rc i3 => q x H3 u c ((f1.go f2).go f3) rc i3
theorem yt_test {B : S → Bool → Prop} (h : YE K Z s te Δ fun t a => ∃ b, a = .d (.bool b) ∧ B t b) : YT K Z s (tTest te) Δ B := fun σ H j st Q q => h σ H j st _ fun v H1 t a f e i => by
  obtain ⟨b, e, hb⟩ := e
  subst e
  cases i
  exact ⟨_, rfl, q _ H1 t f hb⟩
theorem yt_or {B C : S → Bool → Prop} (h : YT K Z s tt Δ B) (h1 : ∀ t, B t true → C t true) (h2 : ∀ t, B t false → YT K Z t ut Δ C) : YT K Z s (tOr tt ut) Δ C := fun σ H j st Q q => h σ H j st _ fun v H1 t f e => by
  cases v with
  | false => exact iteF (h2 t e σ H1 f.j (st.go f) Q fun c H2 u f2 e => q c H2 u (f.go f2) e)
  | true => exact iteT (q true H1 t f (h1 t e))
theorem yt_and {B C : S → Bool → Prop} (h : YT K Z s tt Δ B) (h1 : ∀ t, B t false → C t false) (h2 : ∀ t, B t true → YT K Z t ut Δ C) : YT K Z s (tAnd tt ut) Δ C := fun σ H j st Q q => h σ H j st _ fun v H1 t f e => by
  cases v with
  | true => exact iteT (h2 t e σ H1 f.j (st.go f) Q fun c H2 u f2 e => q c H2 u (f.go f2) e)
  | false => exact iteF (q false H1 t f (h1 t e))
theorem yt_not {B : S → Bool → Prop} (h : YT K Z s tt Δ B) : YT K Z s (tNot tt) Δ fun t b => B t (!b) := fun σ H j st Q q => h σ H j st _ fun v H1 t f e => q _ H1 t f (show B t (!!v) by rw [Bool.not_not]; exact e)
theorem ys_next (h : N s Δ) : YS K Z s Wp X tNext Δ N Rt Bk Ct := fun σ H j st _ D n _ _ _ => n σ H s Δ (.refl (W := Z.at s) j) st h
theorem ys_seq (h : YS K Z s Wp X ts Δ N1 Rt Bk Ct) (h' : ∀ t Δ', N1 t Δ' → YS K Z t Wp X tu Δ' N Rt Bk Ct) : YS K Z s Wp X (tSeq ts tu) Δ N Rt Bk Ct := fun σ H j st wx D n r b c =>
  h σ H j st wx { D with nx := tu D } (fun σ1 H1 t Δ1 f1 s1 n1 => h' t Δ1 n1 σ1 H1 f1.j s1 (fun H' u f => wx H' u (f1.go f)) D (fun σ2 H2 u Δ2 f2 => n σ2 H2 u Δ2 (f1.go f2)) (fun v H2 u a f2 => r v H2 u a (f1.go f2))
    (fun σ2 H2 u Δ2 f2 => b σ2 H2 u Δ2 (f1.go f2)) fun σ2 H2 u Δ2 f2 => c σ2 H2 u Δ2 (f1.go f2)) r b c
theorem ys_set {i : Nat} (h : YE K Z s te Δ R) (n : ∀ t a, R t a → N t (Δ.set i (some a))) : YS K Z s Wp X (tAsg te (gName i)) Δ N Rt Bk Ct := fun σ H j st _ D nx _ _ _ =>
  h σ H j st _ fun v H1 t a f r i1 => nx _ H1 t _ f ((st.go f).set i i1) (n t a r)
theorem ys_drop (h : YE K Z s te Δ R) (n : ∀ t a, R t a → N t Δ) : YS K Z s Wp X (tDrop te) Δ N Rt Bk Ct := fun σ H j st _ D nx _ _ _ =>
  h σ H j st _ fun v H1 t a f r i1 => nx _ H1 t _ f (st.go f) (n t a r)
theorem ys_ret (h : YE K Z s te Δ R) (m : ∀ t a, R t a → Rt t a) : YS K Z s Wp X (tRet te) Δ N Rt Bk Ct := fun σ H j st _ D _ rt _ _ => h σ H j st _ fun v H1 t a f r i1 => rt v H1 t a f (m t a r) i1
theorem ys_if {B : S → Bool → Prop} (h : YT K Z s tt Δ B) (h1 : ∀ t, B t true → YS K Z t Wp X ts Δ N Rt Bk Ct) (h2 : ∀ t, B t false → YS K Z t Wp X tu Δ N Rt Bk Ct) : YS K Z s Wp X (tIfS tt ts tu) Δ N Rt Bk Ct := fun σ H j st wx D nx rt bk ct =>
  h σ H j st _ fun v H1 t f e => by
    cases v with
    | true => exact iteT (h1 t e σ H1 f.j (st.go f) (fun H' u f' => wx H' u (f.go f')) D (fun σ2 H2 u Δ2 f2 => nx σ2 H2 u Δ2 (f.go f2)) (fun v H2 u a f2 => rt v H2 u a (f.go f2)) (fun σ2 H2 u Δ2 f2 => bk σ2 H2 u Δ2 (f.go f2)) fun σ2 H2 u Δ2 f2 => ct σ2 H2 u Δ2 (f.go f2))
    | false => exact iteF (h2 t e σ H1 f.j (st.go f) (fun H' u f' => wx H' u (f.go f')) D (fun σ2 H2 u Δ2 f2 => nx σ2 H2 u Δ2 (f.go f2)) (fun v H2 u a f2 => rt v H2 u a (f.go f2)) (fun σ2 H2 u Δ2 f2 => bk σ2 H2 u Δ2 (f.go f2)) fun σ2 H2 u Δ2 f2 => ct σ2 H2 u Δ2 (f.go f2))
/-! ### for -/
theorem yi_rng {Nn : Nat → Prop} (h : XA K (Z.at s) t Δ fun as => ∃ j : Int, as = [.d (.int j)] ∧ -(2 ^ 62) ≤ j ∧ j < 2 ^ 62 ∧ Nn j.toNat) : YI K Z s (iRng1 t) Δ Nn fun i a => a = .d (.int (i : Int)) := fun σ H j st R q =>
  h σ H j st _ fun vs H1 as f e i => by
    obtain ⟨k, e, k1, k2, hn⟩ := e
    subst e
    cases i with
    | cons i1 i2 =>
      cases i2
      cases i1
      refine ⟨k, rfl, k1, k2, q _ H1 _ f hn fun t H2 f2 i => ⟨fun l => ⟨l, fun y H3 ⟨e, ey⟩ => ⟨e, _, rfl, ?_⟩⟩, fun l => l⟩⟩
      subst ey
      rw [Int.zero_add]
      exact .int _
theorem yi_list {xs : List PyData} (h : XV K (Z.at s) tl Δ (.d (.list xs))) : YI K Z s (iList K tl) Δ (· = xs.length) fun i a => ∃ d, xs[i]? = some d ∧ a = .d d := fun σ H j st R q =>
  h σ H j st _ fun v H1 a f e i => by
    subst e
    cases i with
    | lst h1 d1 =>
      rename_i p vs
      have m : ¬ (Z.at s).M p := fun m => by rw [hid_in m] at h1; cases h1
      rw [hid_out m] at h1
      refine ⟨p, rfl, ⟨vs, .inl (.inl h1)⟩, q _ H1 _ f rfl fun t H2 f2 i => ?_⟩
      have g : SqL K H2 p vs := .inl (.inl (f2.keep p _ m h1))
      refine ⟨fun l => ?_, fun l => ⟨vs, g, by rw [d1.length]; exact l⟩⟩
      obtain ⟨v, hv, dv⟩ := d1.get (List.getElem?_eq_getElem l)
      refine ⟨⟨vs, v, g, hv⟩, fun x H3 y => ⟨y.1, .d xs[i], ⟨_, List.getElem?_eq_getElem l, rfl⟩, ?_⟩⟩
      have e := y.2 vs g
      rw [hv] at e
      cases e
      exact dv
theorem ys_for {wi : TI} {g : TG} {Nn : Nat → Prop} {Y : Nat → A → Prop} (Inv : Nat → Nat → S → Env → Prop) (hi : YI K Z s wi Δ Nn Y) (h0 : ∀ n, Nn n → Inv n 0 s Δ)
    (hs : ∀ n i a t Δ1, Nn n → i < n → Y i a → Inv n i t Δ1 → ∃ Δ2, GX K (Z.at t) g a Δ1 Δ2 ∧ YS K Z t Wp X ts Δ2 (Inv n (i + 1)) Rt N (Inv n (i + 1))) (hd : ∀ n t Δ1, Nn n → Inv n n t Δ1 → N t Δ1) : YS K Z s Wp X (tFor wi g ts) Δ N Rt Bk Ct := fun σ H j st wx D nx rt bk ct =>
  hi σ H j st _ fun J H1 n f1 hn w => by
    refine ⟨fun i m σ2 H2 => m = n - i ∧ i ≤ n ∧ ∃ t Δ2, Fr (Z.at t) H1 H2 ∧ StOk K Z.M H2 σ2 Δ2 ∧ Inv n i t Δ2, ⟨n, (Nat.sub_zero n).symm, Nat.zero_le n, s, Δ, .refl (W := Z.at s) f1.j, st.go f1, h0 n hn⟩, ?_⟩
    rintro i m σ2 H2 ⟨rfl, hi, t, Δ2, f2, s2, v2⟩
    by_cases l : i < n
    · obtain ⟨go, yl⟩ := (w t H2 f2 i).1 l
      refine .inr ⟨go, fun σ3 H3 => ∃ u Δ3, Fr (Z.at u) H1 H3 ∧ StOk K Z.M H3 σ3 Δ3 ∧ Inv n (i + 1) u Δ3, ?_, ?_⟩
      · rintro σ3 H3 ⟨u, Δ3, f3, s3, v3⟩
        exact ⟨n - (i + 1), by omega, rfl, l, u, Δ3, f3, s3, v3⟩
      · intro x H3 y
        obtain ⟨e, a, ya, ia⟩ := yl x H3 y
        subst e
        obtain ⟨Δ4, gx, body⟩ := hs n i a t Δ2 hn l ya v2
        refine gx x σ2 H3 f2.j s2 (Is.go f2 ia) _ fun σ4 H4 f4 s4 => ?_
        have f24 := f2.go f4
        exact body σ4 H4 f4.j s4 (fun H' u f' => wx H' u (f1.go (f24.go f'))) _ (fun σ5 H5 u Δ5 f5 s5 n5 => ⟨u, Δ5, f24.go f5, s5, n5⟩) (fun v H5 u a f5 => rt v H5 u a (f1.go (f24.go f5)))
          (fun σ5 H5 u Δ5 f5 s5 n5 => nx σ5 H5 u Δ5 (f1.go (f24.go f5)) s5 n5) (fun σ5 H5 u Δ5 f5 s5 n5 => ⟨u, Δ5, f24.go f5, s5, n5⟩)
    · obtain rfl : i = n := by omega
      exact .inl ⟨(w t H2 f2 i).2 (Nat.le_refl _), nx σ2 H2 t Δ2 (f1.go f2) s2 (hd i t Δ2 hn v2)⟩
end
/-! ### an object in such a world: where it stands, what of the state is its own -/
structure HasObj {S T : Type} (Z : SW S) (x : Addr) (o : T → HO) (get : S → T) (set : S → T → S) : Prop where
  mem : Z.M x
  here : ∀ s H, Z.J s H → H x = some (o (get s))
  put : ∀ s t H, Z.J s H → Z.J (set s t) (upd H x (o t))
  same : ∀ s, set s (get s) = s
  got : ∀ s t, get (set s t) = t
  twice : ∀ s t u, set (set s t) u = set s u
/-- one object more -/
def SW.obj {S T : Type} (Z : SW S) (x : Addr) (o : T → HO) : SW (S × T) where
  M a := Z.M a ∨ a = x
  J s H := Z.J s.1 H ∧ H x = some (o s.2)
  live s H a j m := m.elim (Z.live s.1 H a j.1) fun e => by rw [e, j.2]; nofun
  loc s H H' e j := ⟨Z.loc s.1 H H' (fun a m => e a (.inl m)) j.1, by rw [e x (.inr rfl)]; exact j.2⟩
/-- a world without a state -/
def SW.of (W : Wd) : SW Unit := ⟨W.M, fun _ => W.J, fun _ => W.live, fun _ => W.loc⟩
section
variable {S T U : Type} {Z : SW S} {x y : Addr} {o : T → HO} {o' : U → HO} {get : S → T} {set : S → T → S}
theorem hasObj_new (n : ¬ Z.M x) : HasObj (Z.obj x o) x o (fun s => s.2) (fun s t => (s.1, t)) where
  mem := .inr rfl
  here s H j := j.2
  put s t H j := ⟨Z.loc s.1 H _ (fun a m => upd_ne fun e => n (e ▸ m)) j.1, upd_same⟩
  same s := rfl
  got s t := rfl
  twice s t u := rfl
theorem HasObj.obj (h : HasObj Z x o get set) (n : ¬ Z.M y) : HasObj (Z.obj y o') x o (fun s => get s.1) (fun s t => (set s.1 t, s.2)) where
  mem := .inl h.mem
  here s H j := h.here s.1 H j.1
  put s t H j := ⟨h.put s.1 t H j.1, by rw [upd_ne fun e : y = x => n (e ▸ h.mem)]; exact j.2⟩
  same s := by show (set s.1 (get s.1), s.2) = s; rw [h.same]
  got s t := h.got s.1 t
  twice s t u := by show (set (set s.1 t) u, s.2) = (set s.1 u, s.2); rw [h.twice]
theorem HasObj.fr (h : HasObj Z x o get set) {s : S} {t : T} {H : Hp} (j : Z.J s H) : Fr (Z.at (set s t)) H (upd H x (o t)) :=
  ⟨fun b u nm e => by rw [upd_ne fun z : b = x => nm (show Z.M b by rw [z]; exact h.mem)]; exact e, h.put s t H j⟩
end
/-! ### promises about one object and its state -/
/-- o: how an object of such a state stands (its dict's address first); what is handed back, or raised (of the class at C), by post and postX -/
def spO {γ T : Type} (K : PySem.W.Frag) (C : Addr) (o : Addr → T → HO) (pre : γ → T → List A → Prop) (post : γ → T → T → A → Prop) (postX : γ → T → T → Prop) : Sp := fun vs H Q E =>
  ∃ (g : γ) (S : Type) (Z : SW S) (s : S) (x dx : Addr) (get : S → T) (set : S → T → S) (as : List A), Z.J s H ∧ HasObj Z x (o dx) get set ∧ pre g (get s) as ∧ IsAll K Z.M H vs (.v (.ref x) :: as) ∧
    (∀ v H' t a, Fr (Z.at (set s t)) H H' → post g (get s) t a → Is K Z.M H' v a → Q v H') ∧ ∀ H' t, Fr (Z.at (set s t)) H H' → postX g (get s) t → E (.ref C) none H'
section
variable {γ S T : Type} {K : PySem.W.Frag} {C : Addr} {o : Addr → T → HO} {pre : γ → T → List A → Prop} {post : γ → T → T → A → Prop} {postX : γ → T → T → Prop} {Z : SW S} {s : S} {x dx : Addr} {get : S → T} {set : S → T → S} {Δ : Env} {ta : TA} {te : TE} {E : XK}
/-- a method's call that does not raise -/
theorem ye_meth (g : γ) {D : Addr} {m : Str} {fs : List (Str × V)} {as : List A} (h : HasObj Z x (o dx) get set) (hv : XV K (Z.at s) te Δ (.v (.ref x))) (ho : ∀ t, ∃ fs, o dx t = .ins D dx fs ∧ fs.lookup m = none) (ha : XAs K (Z.at s) ta Δ as) (p : pre g (get s) as) (nx : ∀ t, ¬ postX g (get s) t) :
    YE K Z s (tMeth D m (spO K C o pre post postX) [] E te ta) Δ fun u a => ∃ t, u = set s t ∧ post g (get s) t a := fun σ H j st Q q =>
  hv σ H j st _ fun v H1 a f1 e i1 => by
    subst e
    have e : v = .ref x := i1
    subst e
    obtain ⟨fs, eo, el⟩ := ho (get s)
    refine ⟨x, dx, fs, rfl, by rw [h.here s H1 f1.j, eo], el, ha σ H1 f1.j (st.go f1) _ fun vs H2 as' f2 e i2 => ?_⟩
    subst e
    rw [List.append_nil]
    exact ⟨g, S, Z, s, x, dx, get, set, as', f2.j, h, p, .cons rfl i2, fun v H' t a f r i => q v H' (set s t) a ((f1.go f2).go f) ⟨t, rfl, r⟩ i, fun H' t f z => absurd z (nx t)⟩
/-- a def's call with such an object as its first argument -/
theorem ye_callo (g : γ) {as : List A} (h : HasObj Z x (o dx) get set) (ha : XAs K (Z.at s) ta Δ (.v (.ref x) :: as)) (p : pre g (get s) as) (nx : ∀ t, ¬ postX g (get s) t) :
    YE K Z s (tCall (spO K C o pre post postX) [] E ta) Δ fun u a => ∃ t, u = set s t ∧ post g (get s) t a := fun σ H j st Q q =>
  ha σ H j st _ fun vs H1 as' f1 e i1 => by
    subst e
    rw [List.append_nil]
    exact ⟨g, S, Z, s, x, dx, get, set, as, f1.j, h, p, i1, fun v H' t a f r i => q v H' (set s t) a (f1.go f) ⟨t, rfl, r⟩ i, fun H' t f z => absurd z (nx t)⟩
end
/-! ### objects whose fields are plain values -/
def oM {T : Type} (C : Addr) (fl : T → List (Str × V)) : Addr → T → HO := fun dx t => .ins C dx (fl t)
section
variable {γ S T : Type} {K : PySem.W.Frag} {C Ce : Addr} {fl : T → List (Str × V)} {pre : γ → T → List A → Prop} {post : γ → T → T → A → Prop} {postX : γ → T → T → Prop} {Z : SW S} {s : S} {x dx : Addr} {get : S → T} {set : S → T → S} {Δ : Env} {te to : TE} {Wp : Hp → Prop} {X : S → Prop} {N : S → Env → Prop} {Rt : S → A → Prop} {Bk Ct : S → Env → Prop} {f : Str} {d : PyData} {t' : T}
theorem xe_fld (h : HasObj Z x (oM C fl dx) get set) (c : Cls K C) (n : NoAttr K C f) (hv : XV K (Z.at s) to Δ (.v (.ref x))) (l : (fl (get s)).lookup f = some (vOf d)) (fd : flat d = true) : XV K (Z.at s) (tFld K to f) Δ (.d d) := fun σ H j st Q q =>
  hv σ H j st _ fun v H1 a f1 e i1 => by
    subst e
    have e : v = .ref x := i1
    subst e
    exact ⟨x, C, dx, _, _, rfl, h.here s H1 f1.j, c, n, l, q _ H1 _ f1 rfl (Dt.ofFlat fd)⟩
theorem ys_fld (h : HasObj Z x (oM C fl dx) get set) (c : Cls K C) (n : NoAttr K C f) (he : XV K (Z.at s) te Δ (.d d)) (fd : flat d = true) (hv : XV K (Z.at s) to Δ (.v (.ref x))) (small : (fl (get s)).length < 1000) (up : putF f (vOf d) (fl (get s)) = fl t') (nx : N (set s t') Δ) :
    YS K Z s Wp X (sFld K to te f) Δ N Rt Bk Ct := fun σ H j st _ D k _ _ _ =>
  he σ H j st _ fun y H1 a f1 e i1 => by
    subst e
    obtain rfl := Dt.flat i1 fd
    refine hv σ H1 f1.j (st.go f1) _ fun v H2 b f2 e i2 => ?_
    subst e
    have e : v = .ref x := i2
    subst e
    refine ⟨x, C, dx, _, rfl, h.here s H2 f2.j, c, n, small, ?_⟩
    rw [up]
    have f3 := (f1.go f2).go (h.fr (t := t') f2.j)
    exact k _ _ _ _ f3 (st.go f3) nx
/-- raising: an exception of the class at Ce, the state as it is -/
theorem ys_raise {to' : L2.St → Hp → Prop} (h : X s) (hw : ∀ σ H, Wp H → to' σ H) : YS K Z s Wp X (fun _ σ H => to' σ H) Δ N Rt Bk Ct := fun σ H j _ wx _ _ _ _ _ => hw σ H (wx H s (.refl (W := Z.at s) j) h)
def BodyO (K : PySem.W.Frag) (C Ce : Addr) (fl : T → List (Str × V)) (N : List Str) (E : XK) (pre : γ → T → List A → Prop) (post : γ → T → T → A → Prop) (postX : γ → T → T → Prop) (t : TS) : Prop :=
  ∀ (g : γ) (S : Type) (Z : SW S) (s : S) (x dx : Addr) (get : S → T) (set : S → T → S) (as : List A), HasObj Z x (oM C fl dx) get set → pre g (get s) as →
    YS K Z s (fun H => E (.ref Ce) none H) (fun u => ∃ t, u = set s t ∧ postX g (get s) t) t (startE N (.v (.ref x) :: as)) (fun u _ => ∃ t, u = set s t ∧ post g (get s) t (.d .none)) (fun u a => ∃ t, u = set s t ∧ post g (get s) t a) NoS NoS
theorem bodyO_run {N : List Str} {E : XK} {t : TS} (h : BodyO K C Ce fl N E pre post postX t) {vs : List V} {H : Hp} {Q : VK} (p : spO K Ce (oM C fl) pre post postX vs H Q E) : t ⟨fun _ H' => Q .non H', Q, fun _ _ => False, fun _ _ => False⟩ (L2.start N vs) H := by
  obtain ⟨g, S, Z, s, x, dx, get, set, as, j, ho, pr, i, q, qx⟩ := p
  refine h g S Z s x dx get set as ho pr _ H j (stOk_start i) (fun H' u f ⟨t, e, px⟩ => ?_) _ (fun σ' H' u Δ' f _ ⟨t, e, ps⟩ => ?_) (fun v H' u a f ⟨t, e, ps⟩ i' => ?_) (fun _ _ _ _ _ _ z => z.elim) fun _ _ _ _ _ _ z => z.elim
  · subst e
    exact qx H' t f px
  · subst e
    exact q _ H' t _ f ps .non
  · subst e
    exact q v H' t a f ps i'
end
section
variable {γ T : Type} {P : Program} {w : World} {K : PySem.W.Frag} {mg : Str → Option Value} {base : Heap} {k : Nat} {f C Ce : Addr} {fd : FuncData} {ps N : List Str} {fl : T → List (Str × V)} {pre : γ → T → List A → Prop} {post : γ → T → T → A → Prop} {postX : γ → T → T → Prop} {x qual : Str} {st : Stmt}
theorem spO_len (ar : ∀ g t as, pre g t as → as.length + 1 = ps.length) {vs : List V} {H : Hp} {Q : VK} {E : XK} (p : spO K Ce (oM C fl) pre post postX vs H Q E) : vs.length = ps.length := by
  obtain ⟨g, S, Z, s, x, dx, get, set, as, j, ho, pr, i, q, qx⟩ := p
  rw [i.length, List.length_cons]
  exact ar g _ as pr
/-- a method that raises nothing -/
theorem okO (F : Fun K x qual st f fd) (S : FnScope N ps (defScope st)) (ar : ∀ g t as, pre g t as → as.length + 1 = ps.length)
    (body : ∀ (cdv : Value) (Ar : Around) (outer : List PySem.Env) (s : Shared) (H : Hp) (E : XK), Room k (Ar.deeper (envOfC qual (defScope st) s.heap.objs.size f cdv)) →
      ∃ t, PSs (cxOf CX0 P w K mg base N qual (defScope st) f cdv Ar outer s H E).nox (defBody st) t ∧ BodyO K C Ce fl N E pre post postX t) : FnOk P w K mg base CX0 (k + 1) f fd ps (spO K Ce (oM C fl) pre post postX) :=
  F.ok S (fun vs H Q E p => spO_len ar p) fun cdv Ar outer s H vs Q E hr h => by
    obtain ⟨t, ht, hb⟩ := body cdv Ar outer s H E hr
    exact ⟨t, ht, bodyO_run hb h⟩
/-- a method that may raise -/
theorem okOX (F : Fun K x qual st f fd) (S : FnScope N ps (defScope st)) (ar : ∀ g t as, pre g t as → as.length + 1 = ps.length)
    (body : ∀ (cdv : Value) (Ar : Around) (outer : List PySem.Env) (s : Shared) (H : Hp) (E : XK), Room k (Ar.deeper (envOfC qual (defScope st) s.heap.objs.size f cdv)) →
      ∃ t, PSs (cxOf (CX P w) P w K mg base N qual (defScope st) f cdv Ar outer s H E) (defBody st) t ∧ BodyO K C Ce fl N E pre post postX t) : FnOk P w K mg base (CX P w) (k + 1) f fd ps (spO K Ce (oM C fl) pre post postX) :=
  F.okX S (fun vs H Q E p => spO_len ar p) fun cdv Ar outer s H vs Q E hr h => by
    obtain ⟨t, ht, hb⟩ := body cdv Ar outer s H E hr
    exact ⟨t, ht, bodyO_run hb h⟩
end
end V2

set_option Elab.async false
set_option linter.all false
set_option maxRecDepth 100000
set_option maxHeartbeats 1000000
namespace V2
open PySem PySem.Spec PyProof.Rows L2
/-! ### a method's call in a try's body: what it lets out goes by the slots -/
def tMethE (C : Addr) (m : Str) (sp : Sp) (E : L2.St → XK) (ta : TE) (t : TA) : TE := fun σ H Q => ta σ H fun y H1 => ∃ p dx fs, y = .ref p ∧ H1 p = some (.ins C dx fs) ∧ fs.lookup m = none ∧ t σ H1 fun ws H2 => sp (y :: ws) H2 Q (E σ)
section
variable {X : Cx} {CX : CXT} {k : Nat} {f C : Addr} {fd : FuncData} {ps : List Str} {sp : Sp} {E : L2.St → XK} {m : Str} {pos apos : Pos} {e o : Expr} {es : List Expr} {ta : TE} {t : TA} {pl : Sem Bool}
theorem pe_methE (he : PE X o ta) (c : Cls X.K C) (hm : Meth X.K C m f) (F : FnOk X.prog X.w X.K X.mg X.base CX k f fd ps sp) (hr : Room k X.A) (hb : Binds X.K fd ps []) (hx : ∀ σ, PassesAt CX X σ (E σ)) (ha : PA X (e :: es) t)
    (hs : starEach (e :: es) X.env = (false, eval e X.env) :: starEach es X.env := by rfl) (hp : (backTo pos (starEach es X.env)).any (·.1) = false := by rfl)
    (ht : eval (.Call (.Attribute o m apos) (e :: es) [] pos) X.env = (eval o X.env >>= fun u => standAt apos.atName >>= fun _ => holding [u] (getMethod u m pl) >>= fun q => callWith pos q.1 q.2 (backTo pos (starEach (e :: es) X.env)) (backToKw pos (keywordEach [] X.env))) := by rfl) :
    PE X (.Call (.Attribute o m apos) (e :: es) [] pos) (tMethE C m sp E ta t) := ⟨fun pins s σ H Q I h =>
  PySem.W.methodCall_KW (pl := pl) (thn (he.run pins s σ H _ I h) fun u s1 ⟨x, H1, I1, rx, a, dx, fs, ex, ea, l, q⟩ => by
    subst ex
    cases (show u = Value.ref a from rx)
    exact getmeth_ok I1 ea c hm l (PySem.W.callWith_K (first := [.ref a]) (h₀ := X.base) I.ok.mod.kin hm.kp (thn (ha.run pos pins s1 σ H1 _ I1 q) fun us s2 ⟨vs, H2, I2, r, q2⟩ => ⟨I2.kIn, run_fnS (us := .ref a :: us) (vs := .ref a :: vs) F hr hb (hx σ) I2 (.cons rfl r) q2⟩) hs hp)) ht⟩
end
end V2
namespace V2
open PySem PySem.Spec PyProof.Rows L2
theorem gx_tup3 {K : PySem.W.Frag} {W : Wd} {Δ : Env} {i j k : Nat} {x y z : PyData} : GX K W (gTup K 3 (gCons (gName i) (gCons (gName j) (gCons (gName k) gNil)))) (.d (.tuple [x, y, z])) Δ (((Δ.set i (some (.d x))).set j (some (.d y))).set k (some (.d z))) := fun v σ H jj s ii Q q => by
  cases ii with
  | tup h1 d1 =>
    cases d1 with
    | cons dx d2 =>
      cases d2 with
      | cons dy d3 =>
        cases d3 with
        | cons dz d4 =>
          cases d4
          exact ⟨_, _, rfl, sqT_same hid_le h1, rfl, _, _, rfl, _, _, rfl, _, _, rfl, rfl, q _ H (.refl jj) (((s.set (a := .d x) i dx).set (a := .d y) j dy).set (a := .d z) k dz)⟩
end V2
namespace V2
open PySem PySem.Spec PyProof.Rows L2
/-- a block whose derivation wants a fact: it is asked for in the reading -/
theorem pss_when {X : Cx} {b : List Stmt} {t : TS} {p : Prop} (h : p → PSs X b t) : PSs X b (fun D σ H => p ∧ t D σ H) := ⟨fun pins s σ H D I q => (h q.1).run pins s σ H D I q.2⟩
/-- the making of a mouth and the like: __init__ takes a text -/
theorem xs_make {T : Type} {K : PySem.W.Frag} {W : Wd} {C : Addr} {fl : T → List (Str × V)} {t0 : T} {sp : Sp} {dvs : List V} {E : XK} {d : PyData} {te : TE} {k : Nat} {ts : TS} {Δ : Env} {N : Env → Prop} {Rt : A → Prop} {Bk Ct : Env → Prop} (he : XV K W te Δ (.d d)) (fd : flat d = true)
    (hi : ∀ (x dx : Addr) (H : Hp) (Q : VK), H x = some (.ins C dx []) → Q .non (upd H x (.ins C dx (fl t0))) → sp (.ref x :: ([vOf d] ++ dvs)) H Q E)
    (h : ∀ x dx, ¬ W.M x → YS K ((SW.of W).obj x (oM C fl dx)) ((), t0) (fun _ => False) (fun _ => False) ts (Δ.set k (some (.v (.ref x)))) (fun _ => N) (fun _ => Rt) (fun _ => Bk) (fun _ => Ct)) :
    XS K W (tSeq (tAsg (tMake C sp dvs E (tCons te tNil)) (gName k)) ts) Δ N Rt Bk Ct := fun σ H j st D nx rt bk ct =>
  seq_in (show tCons te tNil σ H (fun vs H1 => ∀ x dx, H1 x = none → H1 dx = none → dx ≠ x → sp (.ref x :: (vs ++ dvs)) (upd (upd H1 dx (.own x)) x (.ins C dx [])) (fun v H2 => v = .non ∧ ts D (σ.set k (some (.ref x))) H2) E) from (xa_cons he xa_nil) σ H j st _ fun vs H1 as f1 e i1 => by
    subst e
    cases i1 with
    | cons i1 i2 =>
      cases i2
      obtain rfl := Dt.flat i1 fd
      intro x dx nx0 ndx ne
      refine hi x dx _ _ upd_same ⟨rfl, ?_⟩
      have m : ¬ W.M x := W.fresh f1.j nx0
      have fa : Fr W H1 (upd H1 dx (.own x)) := .new f1.j ndx
      have nx1 : (upd H1 dx (.own x)) x = none := by rw [upd_ne ne.symm]; exact nx0
      have fb : Fr W (upd H1 dx (.own x)) (upd (upd H1 dx (.own x)) x (.ins C dx (fl t0))) := .new fa.j nx1
      have ff := (f1.trans fa).trans fb
      have e2 : upd (upd (upd H1 dx (.own x)) x (.ins C dx [])) x (.ins C dx (fl t0)) = upd (upd H1 dx (.own x)) x (.ins C dx (fl t0)) := upd_upd
      show ts D (σ.set k (some (.ref x))) _
      rw [e2]
      have n0 : H x = none := by
        cases z : H x with
        | none => rfl
        | some o => rw [f1.keep x o m z] at nx0; cases nx0
      have sI : Same (hid W.M H) (hid (fun a => W.M a ∨ a = x) (upd (upd H1 dx (.own x)) x (.ins C dx (fl t0)))) := same_in (φ := fun _ => True) ff n0
      have stp : StOk K (fun a => W.M a ∨ a = x) (upd (upd H1 dx (.own x)) x (.ins C dx (fl t0))) (σ.set k (some (.ref x))) (Δ.set k (some (.v (.ref x)))) := (st.ext sI).set k rfl
      have back : ∀ {H2 : Hp} {u : Unit × T}, Fr (((SW.of W).obj x (oM C fl dx)).at u) (upd (upd H1 dx (.own x)) x (.ins C dx (fl t0))) H2 → Fr W H H2 := fun {H2 u} f => ⟨fun a o nm e => f.keep a o (fun z => z.elim nm (ne_of_none e n0)) (ff.keep a o nm e), f.j.1⟩
      exact h x dx m _ _ ⟨ff.j, upd_same⟩ stp (fun _ _ _ z => z.elim) D (fun σ' H' t Δ' f s' q => nx σ' H' Δ' (back f) (s'.ext (hid_add_le (φ := fun _ => True))) q)
        (fun v H' t a f r i => rt v H' a (back f) r (i.ext (hid_add_le (φ := fun _ => True))))
        (fun σ' H' t Δ' f s' q => bk σ' H' Δ' (back f) (s'.ext (hid_add_le (φ := fun _ => True))) q) fun σ' H' t Δ' f s' q => ct σ' H' Δ' (back f) (s'.ext (hid_add_le (φ := fun _ => True))) q)
section
variable {γ S T : Type} {K : PySem.W.Frag} {C Ce : Addr} {o : Addr → T → HO} {pre : γ → T → List A → Prop} {post : γ → T → T → A → Prop} {postX : γ → T → T → Prop} {Z : SW S} {s : S} {x dx : Addr} {get : S → T} {set : S → T → S} {Δ : Env} {te : TE} {ta : TA} {Wp : Hp → Prop} {X : S → Prop} {N : S → Env → Prop} {Rt : S → A → Prop} {Bk Ct : S → Env → Prop} {m : Str} {ts : Addr → Value → Option Addr → TS} {Wout : WX}
/-- try: name = o.m(..) except C as e: suite -/
theorem ys_try {i k : Nat} (g : γ) {D' : Addr} {as : List A} (h : HasObj Z x (o dx) get set) (hv : XV K (Z.at s) te Δ (.v (.ref x))) (ho : ∀ t, ∃ fs, o dx t = .ins D' dx fs ∧ fs.lookup m = none) (ha : XAs K (Z.at s) ta Δ as) (p : pre g (get s) as)
    (ex : PySem.W.exmOne K (.ref Ce) (.ref Ce) = some true) (n : ∀ t a, post g (get s) t a → N (set s t) (Δ.set k (some a)))
    (hx : ∀ t q, postX g (get s) t → YS K Z (set s t) Wp X (ts q (.ref Ce) none) (Δ.set i (some (.v (.ref q)))) (fun u Δ' => N u (Δ'.set i none)) Rt (fun u Δ' => Bk u (Δ'.set i none)) (fun u Δ' => Ct u (Δ'.set i none))) :
    YS K Z s Wp X (fun D σ H => tAsg (tMethE D' m (spO K Ce o pre post postX) (WE (wAs K (.ref Ce) i ts Wout D)) te ta) (gName k) D σ H) Δ N Rt Bk Ct := fun σ H j st wx D nx rt bk ct =>
  hv σ H j st _ fun v H1 a f1 e i1 => by
    subst e
    have e : v = .ref x := i1
    subst e
    obtain ⟨fs, eo, el⟩ := ho (get s)
    refine ⟨x, dx, fs, rfl, by rw [h.here s H1 f1.j, eo], el, ha σ H1 f1.j (st.go f1) _ fun vs H2 as' f2 e i2 => ?_⟩
    subst e
    have f12 := f1.go f2
    refine ⟨g, S, Z, s, x, dx, get, set, as', f2.j, h, p, .cons rfl i2, fun v H' t a f r i => nx _ H' (set s t) _ (f12.go f) ((st.go (f12.go f)).set k i) (n t a r), fun H' t f px => ?_⟩
    refine ⟨true, ex, fun _ q hq => ?_, fun z => nomatch z⟩
    have f3 := f12.go f
    exact hx t q px _ H' f3.j ((st.go f3).set (a := .v (.ref q)) i rfl) (fun H'' u f' => wx H'' u (f3.go f')) _ (fun σ' H'' u Δ' f' s' z => nx _ H'' u _ (f3.go f') (s'.unset i none) z) (fun v H'' u a f' => rt v H'' u a (f3.go f'))
      (fun σ' H'' u Δ' f' s' z => bk _ H'' u _ (f3.go f') (s'.unset i none) z) fun σ' H'' u Δ' f' s' z => ct _ H'' u _ (f3.go f') (s'.unset i none) z
end
section
variable {γ T : Type} {P : Program} {w : World} {K : PySem.W.Frag} {mg : Str → Option Value} {base : Heap} {k : Nat} {f C Ce : Addr} {fd : FuncData} {ps N : List Str} {fl : T → List (Str × V)} {pre : γ → T → List A → Prop} {post : γ → T → T → A → Prop} {postX : γ → T → T → Prop} {x qual : Str} {st : Stmt}
/-- a def about an object, where no repr is under way -/
theorem okOG (F : Fun K x qual st f fd) (S : FnScope N ps (defScope st)) (ar : ∀ g t as, pre g t as → as.length + 1 = ps.length)
    (body : ∀ (cdv : Value) (Ar : Around) (outer : List PySem.Env) (s : Shared) (H : Hp) (E : XK), Room k (Ar.deeper (envOfC qual (defScope st) s.heap.objs.size f cdv)) → NoG Ar →
      ∃ t, PSs (cxOf CX0 P w K mg base N qual (defScope st) f cdv Ar outer s H E).nox (defBody st) t ∧ BodyO K C Ce fl N E pre post postX t) : FnG P w K mg base CX0 (k + 1) f fd ps (spO K Ce (oM C fl) pre post postX) :=
  okG0 F S (fun vs H Q E p => spO_len ar p) fun cdv Ar outer s H vs Q E hr ng h => by
    obtain ⟨t, ht, hb⟩ := body cdv Ar outer s H E hr ng
    exact ⟨t, ht, bodyO_run hb h⟩
end
end V2
namespace V2
open PySem PySem.Spec PyProof.Rows L2
theorem ys_when {S : Type} {K : PySem.W.Frag} {Z : SW S} {s : S} {Wp : Hp → Prop} {X : S → Prop} {t : TS} {p : Prop} {Δ : Env} {N : S → Env → Prop} {Rt : S → A → Prop} {Bk Ct : S → Env → Prop} (hp : p) (h : YS K Z s Wp X t Δ N Rt Bk Ct) : YS K Z s Wp X (fun D σ H => p ∧ t D σ H) Δ N Rt Bk Ct :=
  fun σ H j st wx D a b c d => ⟨hp, h σ H j st wx D a b c d⟩
theorem cx_isE {K : PySem.W.Frag} {W : Wd} {D q : Addr} {c : V} {cv : Value} {b : Bool} (hc : ∀ u, RelV c u → u = cv) (hk : PySem.W.kitOne K (.ref D) cv = some b) : CX1 K W (rIsE K D q) [.v (.ref q), .v c] (· = .d (.bool b)) := fun vs H j i Q k => by
  cases i with
  | cons i1 i2 =>
    cases i2 with
    | cons i2 i3 =>
      cases i3
      have e1 : _ = V.ref q := i1
      have e2 : _ = c := i2
      subst e1 e2
      exact ⟨_, cv, b, rfl, hc, hk, k _ H _ (.refl j) rfl (.bl b)⟩
end V2
namespace V2
open PySem PySem.Spec PyProof.Rows L2
theorem ox_isB {K : PySem.W.Frag} {W : Wd} {a b : Bool} : OX K W rIsB (.d (.bool a)) (.d (.bool b)) (· = .d (.bool (decide (a = b)))) := fun v w H j i1 i2 Q q => by
  cases i1
  cases i2
  exact ⟨_, _, rfl, rfl, q _ H _ (.refl j) rfl (.bl _)⟩
theorem ox_notB {K : PySem.W.Frag} {W : Wd} {a b : Bool} : OX K W rNotB (.d (.bool a)) (.d (.bool b)) (· = .d (.bool (!decide (a = b)))) := fun v w H j i1 i2 Q q => by
  cases i1
  cases i2
  exact ⟨_, _, rfl, rfl, q _ H _ (.refl j) rfl (.bl _)⟩
/-- what leaves the state as it is, read as an expression -/
theorem xe_of_ye {S : Type} {K : PySem.W.Frag} {Z : SW S} {s : S} {te : TE} {Δ : Env} {P : A → Prop} (h : YE K Z s te Δ fun t a => t = s ∧ P a) : XE K (Z.at s) te Δ P := fun σ H j st Q q =>
  h σ H j st Q fun v H' t a f r i => by
    obtain ⟨e, r⟩ := r
    subst e
    exact q v H' a f r i
end V2
namespace V2
open PySem PySem.Spec PyProof.Rows L2
/-- a text, so many times -/
def rMulT : R2 := fun x y H Q => ∃ (a : Str) (n : Int), x = .str a ∧ y = .int n ∧ MulOk a n ∧ Q (.str (Txt.mul a n)) H
theorem o_mulT {X : Cx} : OpR X (binaryOp .Mult) rMulT := fun pins s σ H x y v u Q I rx ry h => by
  obtain ⟨a, n, rfl, rfl, ok, q⟩ := h
  obtain ⟨t, rfl⟩ := rx
  obtain ⟨t', rfl⟩ := ry
  exact SB.mul ok fun t' k => ⟨.str _, H, I.tok _, ⟨_, rfl⟩, q⟩
theorem ox_mulT {K : PySem.W.Frag} {W : Wd} {a : Str} {n : Int} (ok : MulOk a n) : OX K W rMulT (.d (.str a)) (.d (.int n)) (· = .d (.str (Txt.mul a n))) := fun v w H j i1 i2 Q q => by
  cases i1
  cases i2
  exact ⟨_, _, rfl, rfl, ok, q _ H _ (.refl j) rfl (.str _)⟩
theorem xe_disp {K : PySem.W.Frag} {W : Wd} {Δ : Env} {ps : List (Str × Str)} (l : ps.length ≤ 15) : XV K W (tDisp (tStrs ps)) Δ (.d (KD (mergeS [] ps))) := fun σ H j st Q q =>
  disp_strs l fun p np => q _ _ _ (.new j np) rfl (.dct (hid_new j np) (dtkv_of _))
theorem xa_consR {K : PySem.W.Frag} {W : Wd} {Δ : Env} {te : TE} {tr : TA} {R : A → Prop} {R2 : List A → Prop} (h : XE K W te Δ R) (r : XA K W tr Δ R2) : XA K W (tCons te tr) Δ fun as => ∃ a bs, as = a :: bs ∧ R a ∧ R2 bs := fun σ H j s Q q =>
  h σ H j s _ fun v H1 a f1 e1 i1 => r σ H1 f1.j (s.fr f1) _ fun vs H2 bs f2 e2 i2 => q _ H2 _ (f1.trans f2) ⟨a, bs, rfl, e1, e2⟩ (.cons (i1.fr f2) i2)
theorem xe_callgR {γ : Type} {K : PySem.W.Frag} {W : Wd} {Δ : Env} {ta : TA} {E : XK} {pre : γ → Wd → List A → Prop} {post : γ → A → Prop} {Ra : List A → Prop} {R : A → Prop} (h : XA K W ta Δ Ra) (p : ∀ as, Ra as → ∃ g, pre g W as ∧ ∀ a, post g a → R a) : XE K W (tCall (spG K pre post) [] E ta) Δ R := fun σ H j s Q q =>
  h σ H j s _ fun vs H1 as f1 e i1 => by
    obtain ⟨g, hp, hr⟩ := p as e
    rw [List.append_nil]
    exact ⟨g, W, as, f1.j, hp, i1, fun v H' a f r i => q v H' a (f1.trans f) (hr a r) i⟩
end V2
namespace V2
open PySem PySem.Spec PyProof.Rows L2
/-- an error of a class is what «except» of that class names -/
theorem exm_one {K : PySem.W.Frag} {D : Addr} (b : PySem.W.subIn K (.ref D) (.type "BaseException") = some true) (i : PySem.W.isClsIn K D = true) (t : PySem.W.typeIn K (.ref D) = some (.type "type")) (s : PySem.W.subIn K (.ref D) (.ref D) = some true) : PySem.W.exmOne K (.ref D) (.ref D) = some true := by
  have i' : (PySem.W.clsIn K D).isSome = true := i
  have e1 : (PySem.W.subIn K (.ref D) (.type "BaseException") == some true) = true := by rw [b] <;> rfl
  have e2 : ((PySem.W.clsIn K D).isSome && PySem.W.typeIn K (.ref D) == some (.type "type")) = true := by rw [i', t] <;> rfl
  have k : PySem.W.kitCls K (.ref D) (.ref D) = some true := (if_pos e2).trans s
  exact (if_pos e1).trans k
end V2

set_option Elab.async false
set_option linter.all false
set_option maxRecDepth 100000
set_option maxHeartbeats 1000000
namespace V2
open PySem PySem.Spec PyProof.Rows L2
section
variable {γ S T : Type} {K : PySem.W.Frag} {C Ce : Addr} {o : Addr → T → HO} {pre : γ → T → List A → Prop} {post : γ → T → T → A → Prop} {postX : γ → T → T → Prop} {Z : SW S} {s : S} {x dx : Addr} {get : S → T} {set : S → T → S} {Δ : Env} {te : TE} {ta : TA} {Wp : Hp → Prop} {X : S → Prop} {N : S → Env → Prop} {Rt : S → A → Prop} {Bk Ct : S → Env → Prop} {m : Str} {ts : Addr → Value → Option Addr → TS} {Wout : WX}
/-- try: return o.m(..) except C: suite -/
theorem ys_tryret (g : γ) {D' : Addr} {as : List A} (h : HasObj Z x (o dx) get set) (hv : XV K (Z.at s) te Δ (.v (.ref x))) (ho : ∀ t, ∃ fs, o dx t = .ins D' dx fs ∧ fs.lookup m = none) (ha : XAs K (Z.at s) ta Δ as) (p : pre g (get s) as)
    (ex : PySem.W.exmOne K (.ref Ce) (.ref Ce) = some true) (n : ∀ t a, post g (get s) t a → Rt (set s t) a) (hx : ∀ t q, postX g (get s) t → YS K Z (set s t) Wp X (ts q (.ref Ce) none) Δ N Rt Bk Ct) :
    YS K Z s Wp X (fun D σ H => tRet (tMethE D' m (spO K Ce o pre post postX) (WE (wOnly K (.ref Ce) ts Wout D)) te ta) D σ H) Δ N Rt Bk Ct := fun σ H j st wx D nx rt bk ct =>
  hv σ H j st _ fun v H1 a f1 e i1 => by
    subst e
    have e : v = .ref x := i1
    subst e
    obtain ⟨fs, eo, el⟩ := ho (get s)
    refine ⟨x, dx, fs, rfl, by rw [h.here s H1 f1.j, eo], el, ha σ H1 f1.j (st.go f1) _ fun vs H2 as' f2 e i2 => ?_⟩
    subst e
    have f12 := f1.go f2
    refine ⟨g, S, Z, s, x, dx, get, set, as', f2.j, h, p, .cons rfl i2, fun v H' t a f r i => rt v H' (set s t) a (f12.go f) (n t a r) i, fun H' t f px => ?_⟩
    refine ⟨true, ex, fun _ q hq => ?_, fun z => nomatch z⟩
    have f3 := f12.go f
    exact hx t q px _ H' f3.j (st.go f3) (fun H'' u f' => wx H'' u (f3.go f')) _ (fun σ' H'' u Δ' f' s' z => nx _ H'' u _ (f3.go f') s' z) (fun v H'' u a f' => rt v H'' u a (f3.go f'))
      (fun σ' H'' u Δ' f' s' z => bk _ H'' u _ (f3.go f') s' z) fun σ' H'' u Δ' f' s' z => ct _ H'' u _ (f3.go f') s' z
end
end V2

set_option Elab.async false
set_option linter.all false
set_option maxRecDepth 100000
set_option maxHeartbeats 1000000
namespace V2
open PySem PySem.Spec PyProof.Rows L2
/-! ### a world with a state that grows by new objects -/
structure Grw {S S' : Type} (Z : SW S) (s : S) (H : Hp) (Z' : SW S') (s' : S') (H' : Hp) (π : S' → S) : Prop where
  j : Z'.J s' H'
  sm : Same (hid Z.M H) (hid Z'.M H')
  back : ∀ u H2, Fr (Z'.at u) H' H2 → Fr (Z.at (π u)) H H2
  le : ∀ H2, Same (hid Z'.M H2) (hid Z.M H2)
section
variable {S S' S'' T : Type} {Z : SW S} {Z' : SW S'} {Z'' : SW S''} {s t : S} {s' : S'} {s'' : S''} {H H' H'' : Hp} {π : S' → S} {ρ : S'' → S'} {x y D : Addr} {o : T → HO} {t0 : T} {φ : HO → Prop}
theorem Grw.fr (f : Fr (Z.at t) H H') : Grw Z s H Z t H' id := ⟨f.j, f.same, fun u H2 g => f.go g, fun _ _ _ e => e⟩
theorem Grw.trans (a : Grw Z s H Z' s' H' π) (b : Grw Z' s' H' Z'' s'' H'' ρ) : Grw Z s H Z'' s'' H'' (fun u => π (ρ u)) :=
  ⟨b.j, fun x o e => b.sm x o (a.sm x o e), fun u H2 g => a.back (ρ u) H2 (b.back u H2 g), fun H2 x o e => a.le H2 x o (b.le H2 x o e)⟩
theorem Grw.obj (j : Z.J s H) (n : H x = none) : Grw Z s H (Z.obj x o) (s, t0) (upd H x (o t0)) Prod.fst where
  j := ⟨Z.loc s H _ (fun a m => upd_ne fun z => Wd.fresh (W := Z.at s) j n (z ▸ m)) j, upd_same⟩
  sm := same_in (W := Z.at s) (φ := fun _ => True) (Fr.new (W := Z.at s) j n) n
  back u H2 g := ⟨fun a o nm e => g.keep a o (fun z => z.elim nm (ne_of_none e n)) ((Fr.new (W := Z.at s) j n).keep a o nm e), g.j.1⟩
  le H2 := hid_add_le (W := Z.at s) (φ := fun _ => True)
/-- one more address that may change, by φ alone -/
def SW.add {S : Type} (Z : SW S) (D : Addr) (φ : HO → Prop) : SW S where
  M a := Z.M a ∨ a = D
  J s H := Z.J s H ∧ ∃ u, H D = some u ∧ φ u
  live s H a j m := m.elim (Z.live s H a j.1) fun e => by
    obtain ⟨u, h, _⟩ := j.2
    rw [e, h]
    nofun
  loc s H H' e j := ⟨Z.loc s H H' (fun a m => e a (.inl m)) j.1, by rw [e D (.inr rfl)]; exact j.2⟩
theorem HasObj.add {get : S → T} {set : S → T → S} (h : HasObj Z x o get set) (n : ¬ Z.M D) : HasObj (Z.add D φ) x o get set where
  mem := .inl h.mem
  here s H j := h.here s H j.1
  put s t H j := ⟨h.put s t H j.1, by
    obtain ⟨u, e, p⟩ := j.2
    exact ⟨u, by rw [upd_ne fun z : D = x => n (z ▸ h.mem)]; exact e, p⟩⟩
  same := h.same
  got := h.got
  twice := h.twice
theorem HasPool.obj {t : T} (h : HasPool (Z.at s) x) (n : ¬ Z.M y) : HasPool ((Z.obj y o).at (s, t)) x where
  mem := .inl h.mem
  get H j := h.get H j.1
  put H n' s' j h0 h1 := ⟨h.put H n' s' j.1 h0 h1, by rw [upd_ne fun e : y = x => n (e ▸ h.mem)]; exact j.2⟩
end
section
variable {S S' T : Type} {K : PySem.W.Frag} {Z : SW S} {Z' : SW S'} {s : S} {s' : S'} {π : S' → S} {H H' : Hp} {σ : L2.St} {Δ Δ' : Env} {Wp : Hp → Prop} {X : S → Prop} {N : S → Env → Prop} {Rt : S → A → Prop} {Bk Ct : S → Env → Prop} {ts : TS} {te : TE} {ta : TA} {k : Nat} {W : Wd}
theorem ys_in (g : Grw Z s H Z' s' H' π) (st : StOk K Z'.M H' σ Δ') (h : YS K Z' s' Wp (fun u => X (π u)) ts Δ' (fun u => N (π u)) (fun u => Rt (π u)) (fun u => Bk (π u)) (fun u => Ct (π u)))
    (wx : ∀ H2 t, Fr (Z.at t) H H2 → X t → Wp H2) {D : Ends} (nx : ∀ σ' H' t Δ', Fr (Z.at t) H H' → StOk K Z.M H' σ' Δ' → N t Δ' → D.nx σ' H') (rt : ∀ v H' t a, Fr (Z.at t) H H' → Rt t a → Is K Z.M H' v a → D.rt v H')
    (bk : ∀ σ' H' t Δ', Fr (Z.at t) H H' → StOk K Z.M H' σ' Δ' → Bk t Δ' → D.bk σ' H') (ct : ∀ σ' H' t Δ', Fr (Z.at t) H H' → StOk K Z.M H' σ' Δ' → Ct t Δ' → D.ct σ' H') : ts D σ H' :=
  h σ H' g.j st (fun H2 u f => wx H2 (π u) (g.back u H2 f)) D (fun σ2 H2 u Δ2 f s2 n => nx σ2 H2 (π u) Δ2 (g.back u H2 f) (s2.ext (g.le H2)) n) (fun v H2 u a f r i => rt v H2 (π u) a (g.back u H2 f) r (i.ext (g.le H2)))
    (fun σ2 H2 u Δ2 f s2 n => bk σ2 H2 (π u) Δ2 (g.back u H2 f) (s2.ext (g.le H2)) n) fun σ2 H2 u Δ2 f s2 n => ct σ2 H2 (π u) Δ2 (g.back u H2 f) (s2.ext (g.le H2)) n
theorem xs_of_ys {N : Env → Prop} {Rt : A → Prop} {Bk Ct : Env → Prop} (h : YS K (SW.of W) () (fun _ => False) (fun _ => False) ts Δ (fun _ => N) (fun _ => Rt) (fun _ => Bk) (fun _ => Ct)) : XS K W ts Δ N Rt Bk Ct := fun σ H j st D nx rt bk ct =>
  h σ H j st (fun _ _ _ z => z.elim) D (fun σ' H' _ Δ' f s n => nx σ' H' Δ' f s n) (fun v H' _ a f r i => rt v H' a f r i) (fun σ' H' _ Δ' f s n => bk σ' H' Δ' f s n) fun σ' H' _ Δ' f s n => ct σ' H' Δ' f s n
theorem ys_via (P : TS → Prop) (h : P ts) (h' : P ts → YS K Z s Wp X ts Δ N Rt Bk Ct) : YS K Z s Wp X ts Δ N Rt Bk Ct := h' h
/-- the making of an object whose __init__ takes flat things -/
theorem mk_in {C : Addr} {fl : T → List (Str × V)} {t0 : T} {sp : Sp} {dvs : List V} {E : XK} {d : PyData} (he : XV K (Z.at s) te Δ (.d d)) (fd : flat d = true)
    (hi : ∀ (x dx : Addr) (H : Hp) (Q : VK), H x = some (.ins C dx []) → Q .non (upd H x (.ins C dx (fl t0))) → sp (.ref x :: ([vOf d] ++ dvs)) H Q E) (j : Z.J s H) (st : StOk K Z.M H σ Δ) {Q : VK}
    (q : ∀ x dx H', ¬ Z.M x → Grw Z s H (Z.obj x (oM C fl dx)) (s, t0) H' Prod.fst → Q (.ref x) H') : tMake C sp dvs E (tCons te tNil) σ H Q :=
  show tCons te tNil σ H (fun vs H1 => ∀ x dx, H1 x = none → H1 dx = none → dx ≠ x → sp (.ref x :: (vs ++ dvs)) (upd (upd H1 dx (.own x)) x (.ins C dx [])) (fun v H2 => v = .non ∧ Q (.ref x) H2) E) from
  (xa_cons he xa_nil) σ H j st _ fun vs H1 as f1 e i1 => by
    subst e
    cases i1 with
    | cons i1 i2 =>
      cases i2
      obtain rfl := Dt.flat i1 fd
      intro x dx nx0 ndx ne
      refine hi x dx _ _ upd_same ⟨rfl, ?_⟩
      have fa : Fr (Z.at s) H1 (upd H1 dx (.own x)) := .new f1.j ndx
      have nx1 : (upd H1 dx (.own x)) x = none := by rw [upd_ne ne.symm]; exact nx0
      have e2 : upd (upd (upd H1 dx (.own x)) x (.ins C dx [])) x (.ins C dx (fl t0)) = upd (upd H1 dx (.own x)) x (.ins C dx (fl t0)) := upd_upd
      rw [e2]
      exact q x dx _ (Wd.fresh (W := Z.at s) f1.j nx0) ((Grw.fr (f1.trans fa)).trans (Grw.obj (o := oM C fl dx) (t0 := t0) fa.j nx1))
/-- [C(..), C(..)], the rest in the world that has both and the list -/
theorem ys_two {C : Addr} {fl : T → List (Str × V)} {t0 : T} {sp : Sp} {dvs : List V} {E : XK} {d : PyData} (he : ∀ W, XV K W te Δ (.d d)) (fd : flat d = true)
    (hi : ∀ (x dx : Addr) (H : Hp) (Q : VK), H x = some (.ins C dx []) → Q .non (upd H x (.ins C dx (fl t0))) → sp (.ref x :: ([vOf d] ++ dvs)) H Q E)
    (h : ∀ x1 dx1 x2 dx2 m, ¬ Z.M x1 → ¬ (Z.obj x1 (oM C fl dx1)).M x2 → ¬ ((Z.obj x1 (oM C fl dx1)).obj x2 (oM C fl dx2)).M m →
      YS K (((Z.obj x1 (oM C fl dx1)).obj x2 (oM C fl dx2)).obj m (fun (_ : Unit) => HO.lst [.ref x1, .ref x2])) (((s, t0), t0), ()) Wp (fun u => X u.1.1.1) ts (Δ.set k (some (.v (.ref m)))) (fun u => N u.1.1.1) (fun u => Rt u.1.1.1) (fun u => Bk u.1.1.1) (fun u => Ct u.1.1.1)) :
    YS K Z s Wp X (tSeq (tAsg (tLst (tCons (tMake C sp dvs E (tCons te tNil)) (tCons (tMake C sp dvs E (tCons te tNil)) tNil))) (gName k)) ts) Δ N Rt Bk Ct := fun σ H j st wx D nx rt bk ct =>
  seq_in (show tMake C sp dvs E (tCons te tNil) σ H (fun v1 H1 => tMake C sp dvs E (tCons te tNil) σ H1 (fun v2 H2 => [v1, v2].length ≤ sizeLine ∧ ∀ p, H2 p = none → ts D (σ.set k (some (.ref p))) (upd H2 p (.lst [v1, v2])))) from
    mk_in (he _) fd hi j st fun x1 dx1 H1 m1 g1 => mk_in (he _) fd hi g1.j (st.ext g1.sm) fun x2 dx2 H2 m2 g2 => by
      refine ⟨by show 2 ≤ sizeLine; decide, fun p np => ?_⟩
      have g3 := Grw.obj (o := fun (_ : Unit) => HO.lst [.ref x1, .ref x2]) (t0 := ()) g2.j np
      have m3 : ¬ ((Z.obj x1 (oM C fl dx1)).obj x2 (oM C fl dx2)).M p := Wd.fresh (W := ((Z.obj x1 (oM C fl dx1)).obj x2 (oM C fl dx2)).at ((s, t0), t0)) g2.j np
      exact ys_in ((g1.trans g2).trans g3) ((((st.ext g1.sm).ext g2.sm).ext g3.sm).set (a := .v (.ref p)) k rfl) (h x1 dx1 x2 dx2 p m1 m2 m3) wx nx rt bk ct)
/-- two whole numbers in a list that may be written -/
def o2 : Nat × Nat → HO := fun p => .lst [.int (p.1 : Int), .int (p.2 : Int)]
theorem ys_ints {a b : Nat} (ha : XAs K (Z.at s) ta Δ [.d (.int (a : Int)), .d (.int (b : Int))])
    (h : ∀ x, ¬ Z.M x → YS K (Z.obj x o2) (s, (a, b)) Wp (fun u => X u.1) ts (Δ.set k (some (.v (.ref x)))) (fun u => N u.1) (fun u => Rt u.1) (fun u => Bk u.1) (fun u => Ct u.1)) :
    YS K Z s Wp X (tSeq (tAsg (tLst ta) (gName k)) ts) Δ N Rt Bk Ct := fun σ H j st wx D nx rt bk ct =>
  seq_in (show ta σ H (fun xs H1 => xs.length ≤ sizeLine ∧ ∀ p, H1 p = none → ts D (σ.set k (some (.ref p))) (upd H1 p (.lst xs))) from ha σ H j st _ fun vs H1 as f e i => by
    subst e
    cases i with
    | cons i1 i2 =>
      cases i1
      cases i2 with
      | cons i1 i2 =>
        cases i1
        cases i2
        refine ⟨by show 2 ≤ sizeLine; decide, fun p np => ?_⟩
        have g := (Grw.fr (s := s) f).trans (Grw.obj (o := o2) (t0 := (a, b)) f.j np)
        exact ys_in g ((st.ext g.sm).set (a := .v (.ref p)) k rfl) (h p (Wd.fresh (W := Z.at s) f.j np)) wx nx rt bk ct)
theorem ox_ixO {xs : List V} {m : Addr} {i : Int} {v : V} {a : A} (h : ∀ H, Z.J s H → H m = some (.lst xs)) (h0 : 0 ≤ i) (hv : xs[i.toNat]? = some v) (ia : ∀ H, Is K Z.M H v a) : OX K (Z.at s) (rIxL K) (.v (.ref m)) (.d (.int i)) (· = a) := fun v' w H j i1 i2 Q q => by
  cases i2
  have e : v' = .ref m := i1
  subst e
  exact ⟨_, xs, i, v, rfl, rfl, .inl (.inl (h H j)), at_of (j := i.toNat) (by omega) hv, q _ H _ (.refl j) rfl (ia H)⟩
/-- name, list[w] = a pair -/
theorem ys_putAt {i pl w : Nat} {x : Addr} {wi : Int} {P : PyData} {n : Nat} {get : S → Nat × Nat} {set : S → Nat × Nat → S} {p' : Nat × Nat} (ho : HasObj Z x o2 get set) (hpl : Δ[pl]? = some (some (.v (.ref x)))) (hw : Δ[w]? = some (some (.d (.int wi)))) (ne1 : i ≠ pl) (ne2 : i ≠ w)
    (hwi : (wi = 0 ∧ p' = (n, (get s).2)) ∨ (wi = 1 ∧ p' = ((get s).1, n))) (he : XV K (Z.at s) te Δ (.d (.tuple [P, .int (n : Nat)]))) (hN : N (set s p') (Δ.set i (some (.d P)))) :
    YS K Z s Wp X (tAsg te (gTup K 2 (gCons (gName i) (gCons (gSub (tVar pl) (tVar w) rSetL) gNil)))) Δ N Rt Bk Ct := fun σ H j st wx D nx rt bk ct =>
  he σ H j st _ fun v H1 a f e i1 => by
    subst e
    cases i1 with
    | tup h1 d1 =>
      cases d1 with
      | cons dx d2 =>
        cases d2 with
        | cons dy d3 =>
          cases d3
          cases dy
          have st1 := (st.go f).set (a := .d P) i dx
          obtain ⟨u1, e1, r1⟩ := st1.get pl (.v (.ref x)) (by rw [List.getElem?_set_ne ne1]; exact hpl)
          obtain ⟨u2, e2, r2⟩ := st1.get w (.d (.int wi)) (by rw [List.getElem?_set_ne ne2]; exact hw)
          cases r2
          have r1 : u1 = .ref x := r1
          subst r1
          have ff : Fr (Z.at (set s p')) H1 (upd H1 x (o2 p')) := ho.fr f.j
          have fin := nx _ _ (set s p') _ (f.go ff) (st1.go ff) hN
          refine ⟨_, _, rfl, sqT_same hid_le h1, rfl, _, _, rfl, _, _, rfl, _, e1, _, e2, x, _, wi, wi.toNat, rfl, rfl, ho.here s H1 f.j, ?_, ?_⟩
          · rcases hwi with ⟨rfl, _⟩ | ⟨rfl, _⟩ <;> rfl
          · refine ⟨rfl, ?_⟩
            rcases hwi with ⟨rfl, rfl⟩ | ⟨rfl, rfl⟩ <;> exact fin
theorem xi_objs {xs : List Addr} {m : Addr} {jv : Nat} (h : ∀ H, Z.J s H → H m = some (.lst (xs.map V.ref))) (hv : Δ[jv]? = some (some (.v (.ref m)))) : XI K (Z.at s) (iList K (tVar jv)) Δ (· = xs.length) (fun i a => ∃ x, xs[i]? = some x ∧ a = .v (.ref x)) := fun σ H j st R q => by
  obtain ⟨v, e, r⟩ := st.get jv _ hv
  have r : v = .ref m := r
  subst r
  refine ⟨_, e, m, rfl, ⟨_, .inl (.inl (h H j))⟩, q _ H _ (.refl j) rfl fun H2 f2 i => ?_⟩
  have g : SqL K H2 m (xs.map V.ref) := .inl (.inl (h H2 f2.j))
  refine ⟨fun l => ?_, fun l => ⟨_, g, by rw [List.length_map]; exact l⟩⟩
  refine ⟨⟨_, .ref xs[i], g, by rw [List.getElem?_map, List.getElem?_eq_getElem l]; rfl⟩, fun x H3 y => ⟨y.1, .v (.ref xs[i]), ⟨_, List.getElem?_eq_getElem l, rfl⟩, ?_⟩⟩
  have e := y.2 _ g
  rw [List.getElem?_map, List.getElem?_eq_getElem l] at e
  cases e
  rfl
theorem dts_ints {H : Hp} : ∀ ns : List Int, DtAll K H (ns.map V.int) (ns.map PyData.int)
  | [] => .nil
  | n :: r => .cons (.int n) (dts_ints r)
theorem ox_neO {d : PyData} {ns : List Int} {x : Addr} (nd : d.hasDict = false) (sd : SeqAt.shaped d = true) (h : ∀ H, Z.J s H → H x = some (.lst (ns.map V.int))) (hn : (PyData.list (ns.map .int)).hasDict = false) (sn : SeqAt.shaped (.list (ns.map .int)) = true) :
    OX K (Z.at s) (rNeD K) (.d d) (.v (.ref x)) (· = .d (.bool (!PyData.eqv d (.list (ns.map .int))))) := fun v w H j i1 i2 Q q => by
  have e : w = .ref x := i2
  subst e
  exact ⟨d, .list (ns.map .int), Dt.dp _ _ nd (Dt.ext hid_le _ _ i1), Dt.dp _ _ hn (Dt.lst (h H j) (dts_ints ns)), sd, sn, q _ H _ (.refl j) rfl (.bl _)⟩
end
section
variable {γ S T : Type} {K : PySem.W.Frag} {C Ce : Addr} {o : Addr → T → HO} {pre : γ → T → List A → Prop} {post : γ → T → T → A → Prop} {postX : γ → T → T → Prop} {Z : SW S} {s : S} {x dx : Addr} {get : S → T} {set : S → T → S} {Δ : Env} {te : TE} {ta : TA} {Wp : Hp → Prop} {X : S → Prop} {N : S → Env → Prop} {Rt : S → A → Prop} {Bk Ct : S → Env → Prop} {m : Str} {ts : Addr → Value → Option Addr → TS} {Wout : WX}
/-- try: o.m(..) except C as e: suite -/
theorem ys_tryDrop {i : Nat} (g : γ) {D' : Addr} {as : List A} (h : HasObj Z x (o dx) get set) (hv : XV K (Z.at s) te Δ (.v (.ref x))) (ho : ∀ t, ∃ fs, o dx t = .ins D' dx fs ∧ fs.lookup m = none) (ha : XAs K (Z.at s) ta Δ as) (p : pre g (get s) as)
    (ex : PySem.W.exmOne K (.ref Ce) (.ref Ce) = some true) (n : ∀ t a, post g (get s) t a → N (set s t) Δ)
    (hx : ∀ t q, postX g (get s) t → YS K Z (set s t) Wp X (ts q (.ref Ce) none) (Δ.set i (some (.v (.ref q)))) (fun u Δ' => N u (Δ'.set i none)) Rt (fun u Δ' => Bk u (Δ'.set i none)) (fun u Δ' => Ct u (Δ'.set i none))) :
    YS K Z s Wp X (fun D σ H => tDrop (tMethE D' m (spO K Ce o pre post postX) (WE (wAs K (.ref Ce) i ts Wout D)) te ta) D σ H) Δ N Rt Bk Ct := fun σ H j st wx D nx rt bk ct =>
  hv σ H j st _ fun v H1 a f1 e i1 => by
    subst e
    have e : v = .ref x := i1
    subst e
    obtain ⟨fs, eo, el⟩ := ho (get s)
    refine ⟨x, dx, fs, rfl, by rw [h.here s H1 f1.j, eo], el, ha σ H1 f1.j (st.go f1) _ fun vs H2 as' f2 e i2 => ?_⟩
    subst e
    have f12 := f1.go f2
    refine ⟨g, S, Z, s, x, dx, get, set, as', f2.j, h, p, .cons rfl i2, fun v H' t a f r i => nx _ H' (set s t) _ (f12.go f) (st.go (f12.go f)) (n t a r), fun H' t f px => ?_⟩
    refine ⟨true, ex, fun _ q hq => ?_, fun z => nomatch z⟩
    have f3 := f12.go f
    exact hx t q px _ H' f3.j ((st.go f3).set (a := .v (.ref q)) i rfl) (fun H'' u f' => wx H'' u (f3.go f')) _ (fun σ' H'' u Δ' f' s' z => nx _ H'' u _ (f3.go f') (s'.unset i none) z) (fun v H'' u a f' => rt v H'' u a (f3.go f'))
      (fun σ' H'' u Δ' f' s' z => bk _ H'' u _ (f3.go f') (s'.unset i none) z) fun σ' H'' u Δ' f' s' z => ct _ H'' u _ (f3.go f') (s'.unset i none) z
end
end V2

set_option Elab.async false
set_option linter.all false
set_option maxRecDepth 100000
set_option maxHeartbeats 1000000
namespace V2
open PySem PySem.Spec PyProof.Rows L2
section
variable {S T γ : Type} {K : PySem.W.Frag} {Z : SW S} {s : S} {H : Hp} {σ : L2.St} {Δ : Env} {te tk : TE} {ta : TA} {W : Wd} {k : Nat} {ts : TS} {Wp : Hp → Prop} {X : S → Prop} {N : S → Env → Prop} {Rt : S → A → Prop} {Bk Ct : S → Env → Prop}
/-- C(e, k = e2) -/
theorem mk_inK {C : Addr} {fl : T → List (Str × V)} {t0 : T} {sp : Sp} {E : XK} {d d2 : PyData} (he : XV K (Z.at s) te Δ (.d d)) (fd : flat d = true) (he2 : XV K (Z.at s) tk Δ (.d d2)) (fd2 : flat d2 = true)
    (hi : ∀ (x dx : Addr) (H : Hp) (Q : VK), H x = some (.ins C dx []) → Q .non (upd H x (.ins C dx (fl t0))) → sp (.ref x :: [vOf d, vOf d2]) H Q E) (j : Z.J s H) (st : StOk K Z.M H σ Δ) {Q : VK}
    (q : ∀ x dx H', ¬ Z.M x → Grw Z s H (Z.obj x (oM C fl dx)) (s, t0) H' Prod.fst → Q (.ref x) H') : tMakeK C 1 1 sp (fun vs zs => vs ++ zs) E (tCons te tNil) (tCons tk tNil) σ H Q :=
  show tCons te tNil σ H (fun vs H1 => tCons tk tNil σ H1 fun zs H2 => vs.length = 1 ∧ zs.length = 1 ∧ ∀ x dx, H2 x = none → H2 dx = none → dx ≠ x → sp ((.ref x :: vs) ++ zs) (upd (upd H2 dx (.own x)) x (.ins C dx [])) (fun v H3 => v = .non ∧ Q (.ref x) H3) E) from
  (xa_cons he xa_nil) σ H j st _ fun vs H1 as f1 e i1 => by
    subst e
    refine (xa_cons he2 xa_nil) σ H1 f1.j (st.go f1) _ fun zs H2 bs f2 e i2 => ?_
    subst e
    cases i1 with
    | cons i1 i1' =>
      cases i1'
      cases i2 with
      | cons i2 i2' =>
        cases i2'
        obtain rfl := Dt.flat i1 fd
        obtain rfl := Dt.flat i2 fd2
        refine ⟨rfl, rfl, ?_⟩
        intro x dx nx0 ndx ne
        refine hi x dx _ _ upd_same ⟨rfl, ?_⟩
        have f12 := f1.go f2
        have fa : Fr (Z.at s) H2 (upd H2 dx (.own x)) := .new f2.j ndx
        have nx1 : (upd H2 dx (.own x)) x = none := by rw [upd_ne ne.symm]; exact nx0
        have e2 : upd (upd (upd H2 dx (.own x)) x (.ins C dx [])) x (.ins C dx (fl t0)) = upd (upd H2 dx (.own x)) x (.ins C dx (fl t0)) := upd_upd
        rw [e2]
        exact q x dx _ (Wd.fresh (W := Z.at s) f2.j nx0) ((Grw.fr (f12.trans fa)).trans (Grw.obj (o := oM C fl dx) (t0 := t0) fa.j nx1))
/-- name = C(e, k = e2), the rest in the world that has it -/
theorem ys_makeK {C : Addr} {fl : T → List (Str × V)} {t0 : T} {sp : Sp} {E : XK} {d d2 : PyData} (he : XV K (Z.at s) te Δ (.d d)) (fd : flat d = true) (he2 : XV K (Z.at s) tk Δ (.d d2)) (fd2 : flat d2 = true)
    (hi : ∀ (x dx : Addr) (H : Hp) (Q : VK), H x = some (.ins C dx []) → Q .non (upd H x (.ins C dx (fl t0))) → sp (.ref x :: [vOf d, vOf d2]) H Q E)
    (h : ∀ x dx, ¬ Z.M x → YS K (Z.obj x (oM C fl dx)) (s, t0) Wp (fun u => X u.1) ts (Δ.set k (some (.v (.ref x)))) (fun u => N u.1) (fun u => Rt u.1) (fun u => Bk u.1) (fun u => Ct u.1)) :
    YS K Z s Wp X (tSeq (tAsg (tMakeK C 1 1 sp (fun vs zs => vs ++ zs) E (tCons te tNil) (tCons tk tNil)) (gName k)) ts) Δ N Rt Bk Ct := fun σ H j st wx D nx rt bk ct =>
  seq_in (show tMakeK C 1 1 sp (fun vs zs => vs ++ zs) E (tCons te tNil) (tCons tk tNil) σ H (fun v H1 => ts D (σ.set k (some v)) H1) from mk_inK he fd he2 fd2 hi j st fun x dx H1 m g =>
    ys_in g ((st.ext g.sm).set (a := .v (.ref x)) k rfl) (h x dx m) wx nx rt bk ct)
/-- f(C(e)) -/
theorem xe_callMk {C Ce : Addr} {fl : T → List (Str × V)} {t0 : T} {sp : Sp} {dvs : List V} {E E' : XK} {d : PyData} {pre : γ → T → List A → Prop} {post : γ → T → T → A → Prop} {postX : γ → T → T → Prop} {R : A → Prop} (g : γ) (he : XV K W te Δ (.d d)) (fd : flat d = true)
    (hi : ∀ (x dx : Addr) (H : Hp) (Q : VK), H x = some (.ins C dx []) → Q .non (upd H x (.ins C dx (fl t0))) → sp (.ref x :: ([vOf d] ++ dvs)) H Q E') (p : pre g t0 []) (nx : ∀ t, ¬ postX g t0 t) (q : ∀ t a, post g t0 t a → R a) :
    XE K W (tCall (spO K Ce (oM C fl) pre post postX) [] E (tCons (tMake C sp dvs E' (tCons te tNil)) tNil)) Δ R := fun σ H j st Q k =>
  show tMake C sp dvs E' (tCons te tNil) σ H (fun x H1 => spO K Ce (oM C fl) pre post postX ([x] ++ []) H1 Q E) from mk_in (Z := SW.of W) (s := ()) he fd hi j st fun x dx H' nm gr =>
    ⟨g, _, (SW.of W).obj x (oM C fl dx), ((), t0), x, dx, (fun s => s.2), (fun s t => (s.1, t)), [], gr.j, hasObj_new nm, p, .cons rfl .nil, fun v H2 t a f r i => k v H2 a (gr.back _ _ f) (q t a r) (i.ext (gr.le H2)), fun H' t f z => absurd z (nx t)⟩
/-! ### promises about one object and a pool -/
def spOP (K : PySem.W.Frag) (o : Addr → T → HO) (pre : γ → T → List A → Prop) (post : γ → T → T → A → Prop) : Sp := fun vs H Q _ =>
  ∃ (g : γ) (S : Type) (Z : SW S) (s : S) (p x dx : Addr) (get : S → T) (set : S → T → S) (as : List A), Z.J s H ∧ HasObj Z x (o dx) get set ∧ (∀ s, HasPool (Z.at s) p) ∧ pre g (get s) as ∧ IsAll K Z.M H vs (.v (.ref p) :: .v (.ref x) :: as) ∧
    ∀ v H' t a, Fr (Z.at (set s t)) H H' → post g (get s) t a → Is K Z.M H' v a → Q v H'
theorem ye_callop {o : Addr → T → HO} {pre : γ → T → List A → Prop} {post : γ → T → T → A → Prop} {p x dx : Addr} {get : S → T} {set : S → T → S} {E : XK} (g : γ) {as : List A} (h : HasObj Z x (o dx) get set) (hp : ∀ s, HasPool (Z.at s) p) (ha : XAs K (Z.at s) ta Δ (.v (.ref p) :: .v (.ref x) :: as)) (pr : pre g (get s) as) :
    YE K Z s (tCall (spOP K o pre post) [] E ta) Δ fun u a => ∃ t, u = set s t ∧ post g (get s) t a := fun σ H j st Q q =>
  ha σ H j st _ fun vs H1 as' f1 e i1 => by
    subst e
    rw [List.append_nil]
    exact ⟨g, S, Z, s, p, x, dx, get, set, as, f1.j, h, hp, pr, i1, fun v H' t a f r i => q v H' (set s t) a (f1.go f) ⟨t, rfl, r⟩ i⟩
def BodyOP (K : PySem.W.Frag) (C : Addr) (fl : T → List (Str × V)) (N : List Str) (pre : γ → T → List A → Prop) (post : γ → T → T → A → Prop) (t : TS) : Prop :=
  ∀ (g : γ) (S : Type) (Z : SW S) (s : S) (p x dx : Addr) (get : S → T) (set : S → T → S) (as : List A), HasObj Z x (oM C fl dx) get set → (∀ s, HasPool (Z.at s) p) → pre g (get s) as →
    YS K Z s (fun _ => False) (fun _ => False) t (startE N (.v (.ref p) :: .v (.ref x) :: as)) (fun u _ => ∃ t, u = set s t ∧ post g (get s) t (.d .none)) (fun u a => ∃ t, u = set s t ∧ post g (get s) t a) NoS NoS
theorem bodyOP_run {C : Addr} {fl : T → List (Str × V)} {pre : γ → T → List A → Prop} {post : γ → T → T → A → Prop} {N : List Str} {E : XK} {t : TS} (h : BodyOP K C fl N pre post t) {vs : List V} {H : Hp} {Q : VK} (p : spOP K (oM C fl) pre post vs H Q E) : t ⟨fun _ H' => Q .non H', Q, fun _ _ => False, fun _ _ => False⟩ (L2.start N vs) H := by
  obtain ⟨g, S, Z, s, p, x, dx, get, set, as, j, ho, hp, pr, i, q⟩ := p
  refine h g S Z s p x dx get set as ho hp pr _ H j (stOk_start i) (fun _ _ _ z => z.elim) _ (fun σ' H' u Δ' f _ ⟨t, e, ps⟩ => ?_) (fun v H' u a f ⟨t, e, ps⟩ i' => ?_) (fun _ _ _ _ _ _ z => z.elim) fun _ _ _ _ _ _ z => z.elim
  · subst e
    exact q _ H' t _ f ps .non
  · subst e
    exact q v H' t a f ps i'
end
section
variable {γ T : Type} {P : Program} {w : World} {K : PySem.W.Frag} {mg : Str → Option Value} {base : Heap} {k : Nat} {f C : Addr} {fd : FuncData} {ps N : List Str} {fl : T → List (Str × V)} {pre : γ → T → List A → Prop} {post : γ → T → T → A → Prop} {x qual : Str} {st : Stmt}
theorem spOP_len (ar : ∀ g t as, pre g t as → as.length + 2 = ps.length) {vs : List V} {H : Hp} {Q : VK} {E : XK} (p : spOP K (oM C fl) pre post vs H Q E) : vs.length = ps.length := by
  obtain ⟨g, S, Z, s, p, x, dx, get, set, as, j, ho, hp, pr, i, q⟩ := p
  rw [i.length, List.length_cons, List.length_cons]
  exact ar g _ as pr
theorem okOPG (F : Fun K x qual st f fd) (S : FnScope N ps (defScope st)) (ar : ∀ g t as, pre g t as → as.length + 2 = ps.length)
    (body : ∀ (cdv : Value) (Ar : Around) (outer : List PySem.Env) (s : Shared) (H : Hp) (E : XK), Room k (Ar.deeper (envOfC qual (defScope st) s.heap.objs.size f cdv)) → NoG Ar →
      ∃ t, PSs (cxOf CX0 P w K mg base N qual (defScope st) f cdv Ar outer s H E).nox (defBody st) t ∧ BodyOP K C fl N pre post t) : FnG P w K mg base CX0 (k + 1) f fd ps (spOP K (oM C fl) pre post) :=
  okG0 F S (fun vs H Q E p => spOP_len ar p) fun cdv Ar outer s H vs Q E hr ng h => by
    obtain ⟨t, ht, hb⟩ := body cdv Ar outer s H E hr ng
    exact ⟨t, ht, bodyOP_run hb h⟩
end
section
variable {K : PySem.W.Frag} {W : Wd} {Δ : Env} {t : TA} {te : TE}
theorem wipe2 {i j : Nat} (ij : i ≠ j) (σ : L2.St) (u v : Option V) : L2.wipe (((L2.wipe σ [i, j]).set i u).set j v) [i, j] = L2.wipe σ [i, j] := by
  show (((((σ.set j none).set i none).set i u).set j v).set j none).set i none = (σ.set j none).set i none
  rw [List.set_set, List.set_set, List.set_comm _ _ ij, List.set_set, List.set_set]
/-- [e for i, j in zip(xs, ys)] -/
theorem xe_lcZ {i j : Nat} {xs ys : List PyData} {P : PyData → Prop} (ij : i ≠ j) (ha : XAs K W t Δ [.d (.list xs), .d (.list ys)]) (small : xs.length ≤ 100000)
    (hs : ∀ D φ x y, ¬ W.M D → x ∈ xs → y ∈ ys → XE K (W.add D φ) te ((((Δ.set j none).set i none).set i (some (.d x))).set j (some (.d y))) fun b => ∃ d, b = .d d ∧ P d) :
    XE K W (tLc (iZip K t) (gTup K 2 (gCons (gName i) (gCons (gName j) gNil))) tYes te [i, j]) Δ fun b => ∃ ds : List PyData, ds.length = min xs.length ys.length ∧ (∀ d ∈ ds, P d) ∧ b = .d (.list ds) := fun σ H jw s Q q =>
  ha σ H jw s _ fun vs H1 as f1 e ia => by
    subst e
    cases ia with
    | cons ia ib =>
      cases ib with
      | cons ib ic =>
        cases ic
        cases ia with
        | lst h1 d1 =>
          cases ib with
          | lst h2 d2 =>
            rename_i p1 us1 p2 us2
            have m1 : ¬ W.M p1 := fun m => by rw [hid_in m] at h1; cases h1
            have m2 : ¬ W.M p2 := fun m => by rw [hid_in m] at h2; cases h2
            rw [hid_out m1] at h1
            rw [hid_out m2] at h2
            have g1 : ∀ H2, Fr W H1 H2 → SqL K H2 p1 us1 := fun H2 f => .inl (.inl (f.keep p1 _ m1 h1))
            have g2 : ∀ H2, Fr W H1 H2 → SqL K H2 p2 us2 := fun H2 f => .inl (.inl (f.keep p2 _ m2 h2))
            refine ⟨p1, p2, us1, us2, rfl, g1 H1 (.refl f1.j), g2 H1 (.refl f1.j), ?_⟩
            intro D nD
            have mD : ¬ W.M D := W.fresh f1.j nD
            have s1 := s.fr f1
            let n := min xs.length ys.length
            refine ⟨fun i m H2 => m = n - i ∧ i ≤ n ∧ ∃ ds vs, Fr W H1 H2 ∧ H2 D = some (.lst vs) ∧ DtAll K (hid (fun a => W.M a ∨ a = D) H2) vs ds ∧ ds.length = i ∧ ∀ d ∈ ds, P d,
              ⟨n, (Nat.sub_zero n).symm, Nat.zero_le n, [], [], .new f1.j nD, upd_same, .nil, rfl, fun d e => by cases e⟩, ?_⟩
            rintro c m H2 ⟨rfl, hc, ds, vs, f2, hD, dD, len, pr⟩
            by_cases l : c < n
            · have lx : c < xs.length := by show c < xs.length; have : n ≤ xs.length := Nat.min_le_left _ _; omega
              have ly : c < ys.length := by have : n ≤ ys.length := Nat.min_le_right _ _; omega
              obtain ⟨x, hx, dx⟩ := d1.get (List.getElem?_eq_getElem lx)
              obtain ⟨y, hy, dy⟩ := d2.get (List.getElem?_eq_getElem ly)
              refine .inr ⟨⟨us1, us2, x, y, g1 H2 f2, g2 H2 f2, hx, hy⟩, fun H3 => ∃ ds vs, Fr W H1 H3 ∧ H3 D = some (.lst vs) ∧ DtAll K (hid (fun a => W.M a ∨ a = D) H3) vs ds ∧ ds.length = c + 1 ∧ ∀ d ∈ ds, P d, ?_, ?_⟩
              · rintro H3 ⟨ds3, vs3, r⟩
                exact ⟨n - (c + 1), by omega, rfl, l, ds3, vs3, r⟩
              · rintro z H3 ⟨T, x', y', rfl, nT, rfl, ex, ey⟩
                have ex' := ex us1 (g1 H2 f2)
                rw [hx] at ex'
                cases ex'
                have ey' := ey us2 (g2 H2 f2)
                rw [hy] at ey'
                cases ey'
                have fT : Fr W H1 (upd H2 T (.tup [x, y])) := f2.trans (.new f2.j nT)
                have hD' : (upd H2 T (.tup [x, y])) D = some (.lst vs) := by rw [upd_ne fun e => by rw [e, nT] at hD; cases hD]; exact hD
                refine ⟨T, [x, y], rfl, .inl (.inl upd_same), rfl, x, [y], rfl, y, [], rfl, rfl, wipe2 ij σ (some x) (some y), ?_⟩
                unfold tYes
                dsimp only
                rw [if_pos rfl]
                have sI := same_in (φ := (· = HO.lst vs)) fT nD
                have sD : StOk K (W.add D (· = .lst vs)).M (upd H2 T (.tup [x, y])) (((L2.wipe σ [i, j]).set i (some x)).set j (some y)) ((((Δ.set j none).set i none).set i (some (.d xs[c]))).set j (some (.d ys[c]))) :=
                  ((((s1.unset j none).unset i none).ext sI).set (a := .d xs[c]) i (Dt.ext sI _ _ dx)).set (a := .d ys[c]) j (Dt.ext sI _ _ dy)
                refine hs D (· = .lst vs) xs[c] ys[c] mD (List.getElem_mem lx) (List.getElem_mem ly) _ _ ⟨fT.j, _, hD', rfl⟩ sD _ fun v H4 b f4 rb ib => ?_
                obtain ⟨d, eb, pd⟩ := rb
                subst eb
                obtain ⟨u4, h4, eu⟩ := f4.j.2
                subst eu
                have dT : DtAll K (hid (fun a => W.M a ∨ a = D) (upd H2 T (.tup [x, y]))) vs ds := DtAll.ext (fun a o e => by
                  by_cases z : W.M a ∨ a = D
                  · rw [hid_in z] at e; cases e
                  · rw [hid_out z] at e ⊢
                    rw [upd_ne (ne_of_none e nT)]; exact e) _ _ dD
                have len4 : vs.length = c := by rw [dD.length]; exact len
                have f5 : Fr W H1 (upd H4 D (.lst (vs ++ [v]))) := by
                  refine ⟨fun a o nm e => ?_, W.loc H4 _ (fun a m => upd_ne fun z => mD (z ▸ m)) f4.j.1⟩
                  have ne : a ≠ D := ne_of_none e nD
                  rw [upd_ne ne]
                  exact f4.keep a o (fun z => z.elim nm ne) (fT.keep a o nm e)
                have cl : c ≤ 100000 := by have : n ≤ xs.length := Nat.min_le_left _ _; omega
                refine ⟨vs, h4, Nat.lt_of_le_of_lt (by rw [len4]; exact cl) (by decide), ds ++ [d], vs ++ [v], f5, upd_same, ?_, by rw [List.length_append, len]; rfl, fun d' hd' => ?_⟩
                · rw [hid_upd (.inr rfl)]
                  exact DtAll.append (DtAll.ext f4.same _ _ dT) (.cons ib .nil)
                · rcases List.mem_append.mp hd' with hd' | hd'
                  · exact pr d' hd'
                  · rw [List.mem_singleton.mp hd']; exact pd
            · obtain rfl : c = n := by omega
              refine .inl ⟨⟨us1, us2, g1 H2 f2, g2 H2 f2, ?_⟩, q _ H2 _ (f1.trans f2) ⟨ds, len, pr, rfl⟩ ?_⟩
              · rw [d1.length, d2.length]
                show xs.length ≤ min xs.length ys.length ∨ ys.length ≤ min xs.length ys.length
                omega
              · exact Dt.lst (by rw [hid_out mD]; exact hD) (DtAll.ext (hid_add_le (φ := fun _ => True)) _ _ dD)
theorem ints_vs {H : Hp} : ∀ {vs : List V} {ns : List Int}, DtAll K H vs (ns.map PyData.int) → vs = ns.map V.int
  | _, [], .nil => rfl
  | _, n :: r, .cons h t => by
    cases h
    rw [ints_vs t]
    rfl
theorem cx_sorted {ns : List Int} (n : ns.length < 64) : CX1 K W (rSorted K) [.d (.list (ns.map PyData.int))] (fun a => ∃ ns' : List Int, ns'.Perm ns ∧ a = .d (.list (ns'.map PyData.int))) := fun vs H j i Q q => by
  cases i with
  | cons h t =>
    cases t
    cases h with
    | lst h1 d1 =>
      obtain rfl := ints_vs d1
      exact ⟨_, ns, rfl, .inl (.inl (hid_le _ _ h1)), n, fun ns' p pm _ np => q _ _ _ (.new j np) ⟨ns', pm, rfl⟩ (Dt.lst (hid_new j np) (dts_ints ns'))⟩
theorem ox_inD {d : PyData} {ds : List PyData} (f : d.hasDict = false) (g : (PyData.list ds).hasDict = false) (sd : SeqAt.shaped d = true) (se : SeqAt.shaped (.list ds) = true) : OX K W (rInD K) (.d d) (.d (.list ds)) (· = .d (.bool (ds.any fun z => PyData.eqv z d))) := fun v w H j i1 i2 Q q =>
  ⟨d, ds, Dt.dp _ _ f (Dt.ext hid_le _ _ i1), Dt.dp _ _ g (Dt.ext hid_le _ _ i2), sd, se, q _ H _ (.refl j) rfl (.bl _)⟩
end
theorem ys_at {S : Type} {K : PySem.W.Frag} {Z : SW S} {s s' : S} {Δ : Env} {Wp : Hp → Prop} {X : S → Prop} {N : S → Env → Prop} {Rt : S → A → Prop} {Bk Ct : S → Env → Prop} {ts : TS} (e : s = s') (h : YS K Z s' Wp X ts Δ N Rt Bk Ct) : YS K Z s Wp X ts Δ N Rt Bk Ct := by
  rw [e]
  exact h
theorem room65 {k : Nat} {A : Around} (r : Room (k + 1) A) : A.units + 65 < cLine := by
  have := r.un
  omega
section
variable {S : Type} {K : PySem.W.Frag} {Z : SW S} {s : S} {W : Wd} {Δ : Env} {t ta : TA} {te : TE} {Wp : Hp → Prop} {X : S → Prop} {N : S → Env → Prop} {Rt : S → A → Prop} {Bk Ct : S → Env → Prop}
theorem xe_lstR {P : List PyData → Prop} (h : XA K W t Δ fun as => ∃ ds, as = dAll ds ∧ P ds) (n : ∀ ds, P ds → ds.length ≤ 10000) : XE K W (tLst t) Δ fun a => ∃ ds : List PyData, P ds ∧ a = .d (.list ds) := fun σ H j s Q q =>
  h σ H j s _ fun vs H1 as f1 e i => by
    obtain ⟨ds, e, pd⟩ := e
    subst e
    have d := dts_of i
    refine ⟨by rw [d.length]; exact Nat.le_trans (n ds pd) (by decide), fun p np => q _ _ _ (f1.trans (.new f1.j np)) ⟨ds, pd, rfl⟩ ?_⟩
    exact Dt.lst (hid_new f1.j np) (DtAll.ext (Fr.same (.new f1.j np)) _ _ d)
theorem xa_mono {R R' : List A → Prop} (h : XA K W t Δ R) (m : ∀ as, R as → R' as) : XA K W t Δ R' := fun σ H j s Q q => h σ H j s Q fun vs H' as f r i => q vs H' as f (m as r) i
theorem ys_par {i j : Nat} {a b : A} (h : XAs K (Z.at s) t Δ [a, b]) (n : N s ((Δ.set i (some a)).set j (some b))) : YS K Z s Wp X (tPar i j t) Δ N Rt Bk Ct := fun σ H jj st wx D nx rt bk ct =>
  h σ H jj st _ fun vs H1 as f e ia => by
    subst e
    cases ia with
    | cons i1 i2 =>
      cases i2 with
      | cons i2 i3 =>
        cases i3
        exact ⟨_, _, rfl, nx _ H1 s _ f (((st.go f).set i i1).set j i2) n⟩
/-- range(a, b) -/
theorem xi_rng2 {Nn : Nat → Prop} {a b : Int} (h : XAs K W t Δ [.d (.int a), .d (.int b)]) (b1 : -(2 ^ 62) ≤ a ∧ a < 2 ^ 62 ∧ -(2 ^ 62) ≤ b ∧ b < 2 ^ 62) (hn : Nn (b - a).toNat) : XI K W (iRng2 t) Δ Nn fun i x => x = .d (.int (a + (i : Int))) := fun σ H j s R q =>
  h σ H j s _ fun vs H1 as f e i => by
    subst e
    cases i with
    | cons i1 i2 =>
      cases i2 with
      | cons i2 i3 =>
        cases i3
        cases i1
        cases i2
        refine ⟨a, b, rfl, b1, q _ H1 _ f hn fun H2 f2 i => ⟨fun l => ⟨l, fun y H3 ⟨e, ey⟩ => ⟨e, _, rfl, ?_⟩⟩, fun l => l⟩⟩
        subst ey
        exact .int _
end
/-- no exception is let out -/
theorem passE {X : Cx} {P : Program} {w : World} : Passes (L2.CX P w) X E0 := fun _ _ _ _ _ _ _ ⟨_, _, _, _, _, _, _, _, _, _, _, _, h⟩ => h.elim
end V2

set_option Elab.async false
set_option linter.all false
set_option maxRecDepth 100000
set_option maxHeartbeats 1000000
namespace V2
open PySem PySem.Spec PyProof.Rows L2
section
variable {K : PySem.W.Frag} {W : Wd} {Δ Δ2 : Env} {wi : TI} {g : TG} {tt : TT} {te ta tb : TE} {t : TA} {own : List Nat} {d : PyData}
/-- what a comprehension's target does to an item -/
def GT (K : PySem.W.Frag) (g : TG) (own : List Nat) (d : PyData) (Δ Δ2 : Env) : Prop := ∀ (W' : Wd) (v : V) (σ : L2.St) (H : Hp), W'.J H → StOk K W'.M H (L2.wipe σ own) (wipeE Δ own) → Is K W'.M H v (.d d) → ∀ Q : L2.St → Hp → Prop, (∀ σ2, L2.wipe σ2 own = L2.wipe σ own → StOk K W'.M H σ2 Δ2 → Q σ2 H) → g v (L2.wipe σ own) H Q
theorem gt_name {k : Nat} : GT K (gName k) [k] d Δ ((Δ.set k none).set k (some (.d d))) := fun W' v σ H j st i Q q =>
  q _ (show ((σ.set k none).set k (some v)).set k none = σ.set k none by rw [List.set_set, List.set_set]) (st.set k i)
theorem gt_pair {i j : Nat} {x y : PyData} (ij : i ≠ j) : GT K (gTup K 2 (gCons (gName i) (gCons (gName j) gNil))) [i, j] (.tuple [x, y]) Δ ((((Δ.set j none).set i none).set i (some (.d x))).set j (some (.d y))) := fun W' v σ H jj st ii Q q => by
  cases ii with
  | tup h1 d1 =>
    cases d1 with
    | cons dx d2 =>
      cases d2 with
      | cons dy d3 =>
        cases d3
        exact ⟨_, _, rfl, sqT_same hid_le h1, rfl, _, _, rfl, _, _, rfl, rfl, q _ (wipe2 ij σ _ _) ((st.set (a := .d x) i dx).set (a := .d y) j dy)⟩
theorem xt_yes : XB K W tYes Δ true := fun σ H j s Q q => q true H (.refl j) rfl
/-- [e for target in xs if t] -/
theorem xe_lcF {xs : List PyData} {b : PyData → Bool} {h : PyData → PyData} (hi : XI K W wi Δ (· = xs.length) fun i a => ∃ d, xs[i]? = some d ∧ a = .d d) (small : xs.length ≤ 100000)
    (hs : ∀ d ∈ xs, ∃ Δ2, GT K g own d Δ Δ2 ∧ (∀ D φ, ¬ W.M D → XB K (W.add D φ) tt Δ2 (b d)) ∧ (b d = true → ∀ D φ, ¬ W.M D → XV K (W.add D φ) te Δ2 (.d (h d)))) :
    XV K W (tLc wi g tt te own) Δ (.d (.list ((xs.filter b).map h))) := fun σ H j s Q q =>
  hi σ H j s _ fun J H1 n f1 hn w => by
    subst hn
    intro D nD
    have mD : ¬ W.M D := W.fresh f1.j nD
    have s1 := s.fr f1
    let out : Nat → List PyData := fun i => ((xs.take i).filter b).map h
    have outl : ∀ i, (out i).length ≤ xs.length := fun i => by
      show (((xs.take i).filter b).map h).length ≤ _
      rw [List.length_map]
      exact Nat.le_trans (List.length_filter_le _ _) (by rw [List.length_take]; exact Nat.min_le_right _ _)
    have out1 : ∀ i d, xs[i]? = some d → out (i + 1) = out i ++ (if b d = true then [h d] else []) := fun i d e => by
      show ((xs.take (i + 1)).filter b).map h = _
      rw [List.take_add_one, e, List.filter_append, List.map_append]
      congr 1
      show ([d].filter b).map h = _
      by_cases c : b d = true
      · rw [if_pos c, List.filter_cons_of_pos c]; rfl
      · rw [if_neg c, List.filter_cons_of_neg c]; rfl
    refine ⟨fun i m H2 => m = xs.length - i ∧ i ≤ xs.length ∧ ∃ vs, Fr W H1 H2 ∧ H2 D = some (.lst vs) ∧ DtAll K (hid (fun a => W.M a ∨ a = D) H2) vs (out i),
      ⟨xs.length, (Nat.sub_zero _).symm, Nat.zero_le _, [], .new f1.j nD, upd_same, .nil⟩, ?_⟩
    rintro i m H2 ⟨rfl, hi, vs, f2, h2, d2⟩
    by_cases l : i < xs.length
    · obtain ⟨go, yl⟩ := (w H2 f2 i).1 l
      refine .inr ⟨go, fun H3 => ∃ vs, Fr W H1 H3 ∧ H3 D = some (.lst vs) ∧ DtAll K (hid (fun a => W.M a ∨ a = D) H3) vs (out (i + 1)), ?_, ?_⟩
      · rintro H3 ⟨vs3, r⟩
        exact ⟨xs.length - (i + 1), by omega, rfl, l, vs3, r⟩
      · intro x H3 y
        obtain ⟨e, a, ⟨d, hd, ea⟩, ia⟩ := yl x H3 y
        subst e ea
        obtain ⟨Δ2, gt, ht, he⟩ := hs d (List.mem_of_getElem? hd)
        have sI := same_in (φ := (· = HO.lst vs)) f2 nD
        have s0 : StOk K (W.add D (· = .lst vs)).M H3 (L2.wipe σ own) (wipeE Δ own) := (s1.wipe own).ext sI
        refine gt (W.add D (· = .lst vs)) x σ H3 ⟨f2.j, _, h2, rfl⟩ s0 (ia.ext sI) _ fun σ2 ew s2 => ⟨ew, ?_⟩
        refine ht D (· = HO.lst vs) mD σ2 H3 ⟨f2.j, _, h2, rfl⟩ s2 _ fun c H4 f4 ec => ?_
        subst ec
        have e1 := out1 i d hd
        have keep : ∀ {H5}, Fr (W.add D (· = HO.lst vs)) H3 H5 → Fr W H1 H5 := fun {H5} f => ⟨fun a o nm e => f.keep a o (fun z => z.elim nm (ne_of_none e nD)) (f2.keep a o nm e), f.j.1⟩
        by_cases c : b d = true
        · rw [if_pos c]
          rw [if_pos c] at e1
          refine he c D (· = HO.lst vs) mD σ2 H4 f4.j (s2.fr f4) _ fun v H5 a f5 ea ib => ?_
          subst ea
          have f45 := f4.trans f5
          obtain ⟨u5, h5, eu⟩ := f45.j.2
          subst eu
          have lvs : vs.length = (out i).length := d2.length
          refine ⟨vs, h5, Nat.lt_of_le_of_lt (by rw [lvs]; exact Nat.le_trans (outl i) small) (by decide), vs ++ [v], ?_, upd_same, ?_⟩
          · refine ⟨fun a o nm e => ?_, W.loc H5 _ (fun a m => upd_ne fun z => mD (z ▸ m)) f45.j.1⟩
            have ne : a ≠ D := ne_of_none e nD
            rw [upd_ne ne]
            exact (keep f45).keep a o nm e
          · rw [hid_upd (.inr rfl), e1]
            exact DtAll.append (DtAll.ext f45.same _ _ d2) (.cons ib .nil)
        · rw [if_neg c]
          rw [if_neg c, List.append_nil] at e1
          obtain ⟨u4, h4, eu⟩ := f4.j.2
          subst eu
          refine ⟨vs, keep f4, h4, ?_⟩
          rw [e1]
          exact DtAll.ext f4.same _ _ d2
    · obtain rfl : i = xs.length := by omega
      have e : out xs.length = (xs.filter b).map h := by
        show ((xs.take xs.length).filter b).map h = _
        rw [List.take_length]
      rw [e] at d2
      exact .inl ⟨(w H2 f2 _).2 (Nat.le_refl _), q _ H2 _ (f1.trans f2) rfl (Dt.lst (by rw [hid_out mD]; exact h2) (DtAll.ext (hid_add_le (φ := fun _ => True)) _ _ d2))⟩
/-- list(range(a, b)) -/
theorem xe_listRg {a b : Int} (ha : XV K W ta Δ (.d (.int a))) (hb : XV K W tb Δ (.d (.int b))) (ok : RgOk a b) : XV K W (tLstRg (tRg2 ta tb)) Δ (.d (.list ((List.range (b - a).toNat).map fun i => PyData.int (a + (i : Nat))))) := fun σ H j s Q q =>
  ha σ H j s _ fun v H1 x f1 e i1 => by
    subst e
    cases i1
    refine hb σ H1 f1.j (s.fr f1) _ fun w H2 y f2 e i2 => ?_
    subst e
    cases i2
    refine ⟨a, b, rfl, rfl, ok, fun p np => q _ _ _ ((f1.trans f2).trans (.new f2.j np)) rfl (Dt.lst (hid_new f2.j np) ?_)⟩
    have e : rgV a b = ((List.range (b - a).toNat).map fun i => a + ((i : Nat) : Int)).map V.int := by
      unfold rgV
      rw [List.map_map]
      rfl
    have e2 : ((List.range (b - a).toNat).map fun i => PyData.int (a + ((i : Nat) : Int))) = ((List.range (b - a).toNat).map fun i => a + ((i : Nat) : Int)).map PyData.int := by
      rw [List.map_map]
      rfl
    rw [e, e2]
    exact dts_ints _
theorem dtAll_rep {H : Hp} {vs : List V} {ds : List PyData} (h : DtAll K H vs ds) : ∀ n, DtAll K H (List.replicate n vs).flatten (List.replicate n ds).flatten
  | 0 => .nil
  | n + 1 => by
    rw [List.replicate_succ, List.replicate_succ, List.flatten_cons, List.flatten_cons]
    exact DtAll.append h (dtAll_rep h n)
theorem ox_rep {xs : List PyData} {k : Int} (h0 : 0 ≤ k) (h1 : k ≤ 1000) (n : xs.length ≤ 1000) : OX K W rRep (.d (.list xs)) (.d (.int k)) (· = .d (.list (List.replicate k.toNat xs).flatten)) := fun v w H j i1 i2 Q q => by
  cases i2
  cases i1 with
  | lst h1' d1 =>
    have m : ¬ W.M _ := fun m => by rw [hid_in m] at h1'; cases h1'
    rw [hid_out m] at h1'
    refine ⟨_, k, _, rfl, rfl, h1', by omega, by omega, ?_, fun p np => q _ _ _ (.new j np) rfl (Dt.lst (hid_new j np) (dtAll_rep (DtAll.ext (Fr.same (.new j np)) _ _ d1) _))⟩
    rw [d1.length]
    exact Nat.le_trans (Nat.mul_le_mul n (show k.toNat ≤ 1000 by omega)) (by decide)
theorem ox_repT {xs : List PyData} {k : Int} (ne : xs ≠ []) (h0 : 2 ≤ k) (h1 : k ≤ 1000) (n : xs.length ≤ 1000) : OX K W (rRepT K) (.d (.tuple xs)) (.d (.int k)) (· = .d (.tuple (List.replicate k.toNat xs).flatten)) := fun v w H j i1 i2 Q q => by
  cases i2
  cases i1 with
  | tup h1' d1 =>
    refine ⟨_, k, _, rfl, rfl, sqT_same hid_le h1', fun e => ne ?_, h0, h1, by rw [d1.length]; exact n, fun p np => q _ _ _ (.new j np) rfl (Dt.tup (.inl (.inl (hid_new j np))) (dtAll_rep (DtAll.ext (Fr.same (.new j np)) _ _ d1) _))⟩
    subst e
    cases d1
    rfl
theorem ox_catT {xs ys : List PyData} (n : xs.length + ys.length ≤ 100000) : OX K W (rCatA K) (.d (.tuple xs)) (.d (.tuple ys)) (· = .d (.tuple (xs ++ ys))) := fun v w H j i1 i2 Q q => by
  cases i1 with
  | tup h1 d1 =>
    cases i2 with
    | tup h2 d2 =>
      refine ⟨_, _, _, _, rfl, rfl, sqT_same hid_le h1, sqT_same hid_le h2, by rw [d1.length, d2.length]; exact Nat.le_trans n (by decide), fun e => ?_, fun _ e => ?_, fun _ _ p np => ?_⟩
      · subst e
        cases d1
        exact q _ H _ (.refl j) rfl (Dt.tup h2 d2)
      · subst e
        cases d2
        rw [List.append_nil] at q
        exact q _ H _ (.refl j) rfl (Dt.tup h1 d1)
      · exact q _ _ _ (.new j np) rfl (Dt.tup (.inl (.inl (hid_new j np))) (DtAll.append (DtAll.ext (Fr.same (.new j np)) _ _ d1) (DtAll.ext (Fr.same (.new j np)) _ _ d2)))
theorem cx_lstT {xs : List PyData} : CX1 K W (rLstOf K) [.d (.tuple xs)] (· = .d (.list xs)) := fun vs H j i Q q => by
  cases i with
  | cons h t =>
    cases t
    cases h with
    | tup h1 d1 => exact ⟨_, _, rfl, .inr (sqT_same hid_le h1), fun p np => q _ _ _ (.new j np) rfl (Dt.lst (hid_new j np) (DtAll.ext (Fr.same (.new j np)) _ _ d1))⟩
theorem ox_notInS1 {c : Nat} {z : Str} : OX K W rNotInS (.d (.str (oneS c))) (.d (.str z)) (· = .d (.bool (!decide (c ∈ z.cps.toList)))) := fun v w H j i1 i2 Q q => by
  cases i1
  cases i2
  exact ⟨c, z, rfl, rfl, q _ H _ (.refl j) rfl (.bl _)⟩
end
section
variable {K : PySem.W.Frag} {W : Wd} {Δ : Env} {te ta tb : TE} {t : TA} {g : TG} {N : Env → Prop} {Rt : A → Prop} {Bk Ct : Env → Prop} {R : A → Prop}
theorem xs_asgR (h : XE K W te Δ R) (hg : ∀ a, R a → ∃ Δ', GX K W g a Δ Δ' ∧ N Δ') : XS K W (tAsg te g) Δ N Rt Bk Ct := fun σ H j s D nx _ _ _ =>
  h σ H j s _ fun v H1 a f r i => by
    obtain ⟨Δ', gx, n⟩ := hg a r
    exact gx v σ H1 f.j (s.fr f) i _ fun σ' H' f' s' => nx σ' H' Δ' (f.trans f') s' n
theorem xe_tupR {P : List PyData → Prop} (h : XA K W t Δ fun as => ∃ ds, as = dAll ds ∧ P ds) (n : ∀ ds, P ds → ds.length ≤ 10000) : XE K W (tTup t) Δ fun a => ∃ ds : List PyData, P ds ∧ a = .d (.tuple ds) := fun σ H j s Q q =>
  h σ H j s _ fun vs H1 as f1 e i => by
    obtain ⟨ds, e, pd⟩ := e
    subst e
    have d := dts_of i
    refine ⟨by rw [d.length]; exact Nat.le_trans (n ds pd) (by decide), fun p np => q _ _ _ (f1.trans (.new f1.j np)) ⟨ds, pd, rfl⟩ ?_⟩
    exact Dt.tup (.inl (.inl (hid_new f1.j np))) (DtAll.ext (Fr.same (.new f1.j np)) _ _ d)
def BoolR (p : Bool → Prop) (a : A) : Prop := ∃ b, a = .d (.bool b) ∧ p b
theorem xe_andB {a0 : Bool} (h : XV K W ta Δ (.d (.bool a0))) (h' : a0 = true → XE K W tb Δ (BoolR fun _ => True)) : XE K W (tAndV ta tb) Δ (BoolR fun b => b = true → a0 = true) := fun σ H j s Q q => h σ H j s _ fun v H1 c f e i => by
  subst e
  cases i
  refine ⟨a0, rfl, ?_⟩
  cases a0 with
  | true => exact iteT (h' rfl σ H1 f.j (s.fr f) Q fun c H2 z f2 ⟨b, e, _⟩ i => q c H2 z (f.trans f2) ⟨b, e, fun _ => rfl⟩ i)
  | false => exact iteF (q _ H1 _ f ⟨false, rfl, fun z => z⟩ (.bl _))
/-- int(..) of a truth -/
theorem xe_intBR {p : Bool → Prop} (h : XE K W te Δ (BoolR p)) : XE K W (tCB rIntB (tCons te tNil)) Δ fun a => ∃ b, p b ∧ a = .d (.int (b2i b)) := xe_cbR (xa_oneM (S := fun as => ∃ b, p b ∧ as = [.d (.bool b)]) h fun a ⟨b, e, hb⟩ => ⟨b, hb, by rw [e]⟩) fun as ⟨b, hb, e⟩ => by
  subst e
  intro vs H j i Q q
  exact cx_intB vs H j i Q fun u H' c f e ic => q u H' c f ⟨b, hb, e⟩ ic
/-- [..] * int(a truth) -/
theorem xe_repB {xs : List PyData} {b : Bool} (h : XV K W ta Δ (.d (.list xs))) (h' : XV K W tb Δ (.d (.int (b2i b)))) (n : xs.length ≤ 1000) : XV K W (tOp rRep ta tb) Δ (.d (.list (if b = true then xs else []))) := by
  refine XE.is (xe_op h h' (ox_rep (by cases b <;> decide) (by cases b <;> decide) n)) ?_
  cases b
  · rfl
  · show A.d (.list (List.replicate 1 xs).flatten) = _
    rw [List.replicate_one, List.flatten_singleton]
    rfl
theorem ox_repB {xs : List PyData} {b : Bool} (n : xs.length ≤ 1000) : OX K W rRep (.d (.list xs)) (.d (.int (b2i b))) (· = .d (.list (if b = true then xs else []))) := by
  refine OX.is (ox_rep (by cases b <;> decide) (by cases b <;> decide) n) ?_
  cases b
  · rfl
  · show A.d (.list (List.replicate 1 xs).flatten) = _
    rw [List.replicate_one, List.flatten_singleton]
    rfl
end
section
variable {γ : Type} {K : PySem.W.Frag} {W : Wd} {Δ : Env} {wi : TI} {tl : TE} {ts : TS} {N : Env → Prop} {Rt : A → Prop} {Bk Ct : Env → Prop}
/-- what a loop walks, known by a datum alone -/
def XIP (K : PySem.W.Frag) (W : Wd) (wi : TI) (Δ : Env) (Nn : γ → Nat → Prop) (Y : γ → Nat → A → Prop) : Prop := ∀ σ H, W.J H → StOk K W.M H σ Δ → ∀ R : It → Hp → Prop, (∀ c J H1 n, Fr W H H1 → Nn c n → Walks K W H1 J n (Y c) → R J H1) → wi σ H R
theorem xip_list {P : List PyData → Prop} (h : XE K W tl Δ fun a => ∃ xs, P xs ∧ a = .d (.list xs)) : XIP K W (iList K tl) Δ (fun xs n => P xs ∧ n = xs.length) fun xs i a => ∃ d, xs[i]? = some d ∧ a = .d d := fun σ H j s R q =>
  h σ H j s _ fun v H1 a f e i => by
    obtain ⟨xs, px, e⟩ := e
    subst e
    cases i with
    | lst h1 d1 =>
      rename_i p vs
      have m : ¬ W.M p := fun m => by rw [hid_in m] at h1; cases h1
      rw [hid_out m] at h1
      refine ⟨p, rfl, ⟨vs, .inl (.inl h1)⟩, q xs _ H1 _ f ⟨px, rfl⟩ fun H2 f2 i => ?_⟩
      have g : SqL K H2 p vs := .inl (.inl (f2.keep p _ m h1))
      refine ⟨fun l => ?_, fun l => ⟨vs, g, by rw [d1.length]; exact l⟩⟩
      obtain ⟨v, hv, dv⟩ := d1.get (List.getElem?_eq_getElem l)
      refine ⟨⟨vs, v, g, hv⟩, fun x H3 y => ⟨y.1, .d xs[i], ⟨_, List.getElem?_eq_getElem l, rfl⟩, ?_⟩⟩
      have e := y.2 vs g
      rw [hv] at e
      cases e
      exact dv
theorem xs_forP {g : TG} {Nn : γ → Nat → Prop} {Y : γ → Nat → A → Prop} (Inv : γ → Nat → Nat → Env → Prop) (hi : XIP K W wi Δ Nn Y) (h0 : ∀ c n, Nn c n → Inv c n 0 Δ)
    (hs : ∀ c n i a Δ1, Nn c n → i < n → Y c i a → Inv c n i Δ1 → ∃ Δ2, GX K W g a Δ1 Δ2 ∧ XS K W ts Δ2 (Inv c n (i + 1)) Rt N (Inv c n (i + 1))) (hd : ∀ c n Δ1, Nn c n → Inv c n n Δ1 → N Δ1) : XS K W (tFor wi g ts) Δ N Rt Bk Ct := fun σ H j s D nx rt bk ct =>
  hi σ H j s _ fun c J H1 n f1 hn w => by
    refine ⟨fun i m σ2 H2 => m = n - i ∧ i ≤ n ∧ ∃ Δ2, Fr W H1 H2 ∧ StOk K W.M H2 σ2 Δ2 ∧ Inv c n i Δ2, ⟨n, (Nat.sub_zero n).symm, Nat.zero_le n, Δ, .refl f1.j, s.fr f1, h0 c n hn⟩, ?_⟩
    rintro i m σ2 H2 ⟨rfl, hi, Δ2, f2, s2, v2⟩
    by_cases l : i < n
    · obtain ⟨go, yl⟩ := (w H2 f2 i).1 l
      refine .inr ⟨go, fun σ3 H3 => ∃ Δ3, Fr W H1 H3 ∧ StOk K W.M H3 σ3 Δ3 ∧ Inv c n (i + 1) Δ3, ?_, ?_⟩
      · rintro σ3 H3 ⟨Δ3, f3, s3, v3⟩
        exact ⟨n - (i + 1), by omega, rfl, l, Δ3, f3, s3, v3⟩
      · intro x H3 y
        obtain ⟨e, a, ya, ia⟩ := yl x H3 y
        subst e
        obtain ⟨Δ4, gx, body⟩ := hs c n i a Δ2 hn l ya v2
        refine gx x σ2 H3 f2.j s2 (ia.fr f2) _ fun σ4 H4 f4 s4 => ?_
        have f24 := f2.trans f4
        exact body σ4 H4 f4.j s4 _ (fun σ5 H5 Δ5 f5 s5 n5 => ⟨Δ5, f24.trans f5, s5, n5⟩) (fun v H5 a f5 => rt v H5 a (f1.trans (f24.trans f5)))
          (fun σ5 H5 Δ5 f5 s5 n5 => nx σ5 H5 Δ5 (f1.trans (f24.trans f5)) s5 n5) (fun σ5 H5 Δ5 f5 s5 n5 => ⟨Δ5, f24.trans f5, s5, n5⟩)
    · obtain rfl : i = n := by omega
      exact .inl ⟨(w H2 f2 i).2 (Nat.le_refl _), nx σ2 H2 Δ2 (f1.trans f2) s2 (hd c i Δ2 hn v2)⟩
def charsD (s : Str) : List PyData := s.cps.toList.map fun c => PyData.str (oneS c)
theorem xi_strL {x : Str} (h : XV K W tl Δ (.d (.str x))) : XI K W (iStr tl) Δ (· = (charsD x).length) fun i a => ∃ d, (charsD x)[i]? = some d ∧ a = .d d := fun σ H j s R q =>
  xi_str h σ H j s R fun J H1 n f hn w => q J H1 n f (by rw [hn]; unfold charsD; rw [List.length_map, Array.length_toList]) fun H2 f2 i => ⟨fun l => ⟨((w H2 f2 i).1 l).1, fun y H3 yl => by
    obtain ⟨e, a, ⟨c, hc, ea⟩, ia⟩ := ((w H2 f2 i).1 l).2 y H3 yl
    refine ⟨e, a, ⟨_, ?_, ea⟩, ia⟩
    unfold charsD
    rw [List.getElem?_map, Array.getElem?_toList, hc]
    rfl⟩, (w H2 f2 i).2⟩
end
def cutD (xs : List PyData) (lo hi : Option Int) : List PyData := (xs.drop (HT.sIx xs.length 0 lo)).take (HT.sIx xs.length xs.length hi - HT.sIx xs.length 0 lo)
theorem cutD_mem {xs : List PyData} {lo hi : Option Int} {d : PyData} (h : d ∈ cutD xs lo hi) : d ∈ xs := List.mem_of_mem_drop (List.mem_of_mem_take h)
theorem cutD_len (xs : List PyData) (lo hi : Option Int) : (cutD xs lo hi).length ≤ xs.length := by
  unfold cutD
  rw [List.length_take, List.length_drop]
  omega
section
variable {K : PySem.W.Frag} {W : Wd} {Δ : Env} {te ta : TE} {xs : List PyData} {k : Int}
theorem cut_dts {H : Hp} {vs : List V} {lo hi : Option Int} (d : DtAll K H vs xs) : DtAll K H (cutV vs lo hi) (cutD xs lo hi) := by
  unfold cutV cutD
  rw [d.length]
  exact DtAll.take _ (DtAll.drop _ d)
theorem xe_slTto (h : XV K W te Δ (.d (.tuple xs))) (hk : XV K W ta Δ (.d (.int k))) (ne : ¬ (HT.sIx xs.length 0 none = 0 ∧ HT.sIx xs.length xs.length (some k) = xs.length)) : XV K W (tSl (rSlT K) te tNoPart (tPart ta)) Δ (.d (.tuple (cutD xs none (some k)))) := fun σ H j s Q q =>
  h σ H j s _ fun v H1 a f1 e i1 => by
    subst e
    refine hk σ H1 f1.j (s.fr f1) _ fun w H2 b f2 e i2 => ?_
    subst e
    cases i2
    cases i1.fr f2 with
    | tup h1 d1 =>
      exact ⟨k, rfl, _, _, rfl, sqT_same hid_le h1, by rw [d1.length]; exact ne, fun p np => q _ _ _ ((f1.trans f2).trans (.new f2.j np)) rfl (Dt.tup (.inl (.inl (hid_new f2.j np))) (cut_dts (DtAll.ext (Fr.same (.new f2.j np)) _ _ d1)))⟩
theorem xe_slTfrom (h : XV K W te Δ (.d (.tuple xs))) (hk : XV K W ta Δ (.d (.int k))) (ne : ¬ (HT.sIx xs.length 0 (some k) = 0 ∧ HT.sIx xs.length xs.length none = xs.length)) : XV K W (tSl (rSlT K) te (tPart ta) tNoPart) Δ (.d (.tuple (cutD xs (some k) none))) := fun σ H j s Q q =>
  h σ H j s _ fun v H1 a f1 e i1 => by
    subst e
    refine hk σ H1 f1.j (s.fr f1) _ fun w H2 b f2 e i2 => ?_
    subst e
    cases i2
    cases i1.fr f2 with
    | tup h1 d1 =>
      exact ⟨k, rfl, _, _, rfl, sqT_same hid_le h1, by rw [d1.length]; exact ne, fun p np => q _ _ _ ((f1.trans f2).trans (.new f2.j np)) rfl (Dt.tup (.inl (.inl (hid_new f2.j np))) (cut_dts (DtAll.ext (Fr.same (.new f2.j np)) _ _ d1)))⟩
end
end V2

set_option Elab.async false
set_option linter.all false
set_option maxRecDepth 100000
set_option maxHeartbeats 1000000
namespace V2
open PySem PySem.Spec PyProof.Rows L2
/-- a statement that is never reached -/
theorem ps_never {X : Cx} {st : Stmt} : PS X st (fun _ _ _ => False) := ⟨fun _ _ _ _ _ _ h => h.elim⟩
/-! ### an object that holds values of which something is known -/
section
variable {S T γ : Type} {K : PySem.W.Frag} {Z : SW S} {s : S} {Δ : Env} {te to : TE} {ta t : TA} {tt : TT} {ts : TS} {C : Addr} {fl : T → List (Str × V)} {x dx : Addr} {get : S → T} {set : S → T → S} {f : Str} {vs : List V} {ds : List PyData}
variable {Wp : Hp → Prop} {X : S → Prop} {N : S → Env → Prop} {Rt : S → A → Prop} {Bk Ct : S → Env → Prop}
theorem xe_fldW {v0 : V} {d0 : PyData} (h : HasObj Z x (oM C fl dx) get set) (c : Cls K C) (n : NoAttr K C f) (hv : XV K (Z.at s) to Δ (.w (.ref x) [v0] [d0])) (l : (fl (get s)).lookup f = some v0) : XV K (Z.at s) (tFld K to f) Δ (.d d0) := fun σ H j st Q q =>
  hv σ H j st _ fun v H1 a f1 e i1 => by
    subst e
    obtain ⟨e, dd⟩ := i1
    subst e
    cases dd with
    | cons d1 d2 => exact ⟨x, C, dx, _, _, rfl, h.here s H1 f1.j, c, n, l, q _ H1 _ f1 rfl d1⟩
theorem xe_fldF {d : PyData} (h : HasObj Z x (oM C fl dx) get set) (c : Cls K C) (n : NoAttr K C f) (hv : XV K (Z.at s) to Δ (.w (.ref x) vs ds)) (l : (fl (get s)).lookup f = some (vOf d)) (fd : flat d = true) : XV K (Z.at s) (tFld K to f) Δ (.d d) := fun σ H j st Q q =>
  hv σ H j st _ fun v H1 a f1 e i1 => by
    subst e
    obtain ⟨e, dd⟩ := i1
    subst e
    exact ⟨x, C, dx, _, _, rfl, h.here s H1 f1.j, c, n, l, q _ H1 _ f1 rfl (Dt.ofFlat fd)⟩
/-- o.f += 1 and the like -/
theorem ys_fldaug {i k : Int} {t' : T} (h : HasObj Z x (oM C fl dx) get set) (c : Cls K C) (n : NoAttr K C f) (hv : XV K (Z.at s) to Δ (.w (.ref x) vs ds)) (l : (fl (get s)).lookup f = some (.int i)) (he : XV K (Z.at s) te Δ (.d (.int k))) (small : (fl (get s)).length < 1000) (up : putF f (.int (i + k)) (fl (get s)) = fl t') (nx : N (set s t') Δ) :
    YS K Z s Wp X (sFldAug K to te rAdd f) Δ N Rt Bk Ct := fun σ H j st _ D kk _ _ _ =>
  hv σ H j st _ fun v H1 a f1 e i1 => by
    subst e
    obtain ⟨e, dd⟩ := i1
    subst e
    refine ⟨x, C, dx, _, _, rfl, h.here s H1 f1.j, c, n, l, he σ H1 f1.j (st.go f1) _ fun y H2 b f2 e i2 => ?_⟩
    subst e
    cases i2
    refine ⟨i, k, rfl, rfl, dx, _, h.here s H2 f2.j, small, ?_⟩
    rw [up]
    have f3 := (f1.go f2).go (h.fr (t := t') f2.j)
    exact kk _ _ _ _ f3 (st.go f3) nx
/-- promises about such an object -/
def spW (K : PySem.W.Frag) (o : Addr → T → HO) (hv : γ → List V) (hd : γ → List PyData) (pre : γ → T → List A → Prop) (post : γ → T → T → A → Prop) : Sp := fun us H Q _ =>
  ∃ (g : γ) (S : Type) (Z : SW S) (s : S) (x dx : Addr) (get : S → T) (set : S → T → S) (as : List A), Z.J s H ∧ HasObj Z x (o dx) get set ∧ pre g (get s) as ∧ IsAll K Z.M H us (.w (.ref x) (hv g) (hd g) :: as) ∧
    ∀ v H' t a, Fr (Z.at (set s t)) H H' → post g (get s) t a → Is K Z.M H' v a → Q v H'
variable {hv : γ → List V} {hd : γ → List PyData} {pre : γ → T → List A → Prop} {post : γ → T → T → A → Prop} {o : Addr → T → HO} {E : XK} {m : Str}
theorem ye_methW (g : γ) {D : Addr} {fs : List (Str × V)} {as : List A} (h : HasObj Z x (o dx) get set) (hx : XV K (Z.at s) te Δ (.w (.ref x) (hv g) (hd g))) (ho : ∀ t, ∃ fs, o dx t = .ins D dx fs ∧ fs.lookup m = none) (ha : XAs K (Z.at s) ta Δ as) (p : pre g (get s) as) :
    YE K Z s (tMeth D m (spW K o hv hd pre post) [] E te ta) Δ fun u a => ∃ t, u = set s t ∧ post g (get s) t a := fun σ H j st Q q =>
  hx σ H j st _ fun v H1 a f1 e i1 => by
    subst e
    have i0 := i1
    obtain ⟨e, dd⟩ := i1
    subst e
    obtain ⟨fs, eo, el⟩ := ho (get s)
    refine ⟨x, dx, fs, rfl, by rw [h.here s H1 f1.j, eo], el, ha σ H1 f1.j (st.go f1) _ fun us H2 as' f2 e i2 => ?_⟩
    subst e
    rw [List.append_nil]
    exact ⟨g, S, Z, s, x, dx, get, set, as', f2.j, h, p, .cons (a := .w (.ref x) (hv g) (hd g)) (Is.go f2 i0) i2, fun v H' t a f r i => q v H' (set s t) a ((f1.go f2).go f) ⟨t, rfl, r⟩ i⟩
theorem ye_callW (g : γ) {as : List A} (h : HasObj Z x (o dx) get set) (ha : XAs K (Z.at s) ta Δ (.w (.ref x) (hv g) (hd g) :: as)) (p : pre g (get s) as) :
    YE K Z s (tCall (spW K o hv hd pre post) [] E ta) Δ fun u a => ∃ t, u = set s t ∧ post g (get s) t a := fun σ H j st Q q =>
  ha σ H j st _ fun us H1 as' f1 e i1 => by
    subst e
    rw [List.append_nil]
    exact ⟨g, S, Z, s, x, dx, get, set, as, f1.j, h, p, i1, fun v H' t a f r i => q v H' (set s t) a (f1.go f) ⟨t, rfl, r⟩ i⟩
def BodyW (K : PySem.W.Frag) (C : Addr) (fl : T → List (Str × V)) (hv : γ → List V) (hd : γ → List PyData) (N : List Str) (pre : γ → T → List A → Prop) (post : γ → T → T → A → Prop) (t : TS) : Prop :=
  ∀ (g : γ) (S : Type) (Z : SW S) (s : S) (x dx : Addr) (get : S → T) (set : S → T → S) (as : List A), HasObj Z x (oM C fl dx) get set → pre g (get s) as →
    YS K Z s (fun _ => False) (fun _ => False) t (startE N (.w (.ref x) (hv g) (hd g) :: as)) (fun u _ => ∃ t, u = set s t ∧ post g (get s) t (.d .none)) (fun u a => ∃ t, u = set s t ∧ post g (get s) t a) NoS NoS
theorem bodyW_run {N : List Str} {E : XK} {t : TS} (h : BodyW K C fl hv hd N pre post t) {us : List V} {H : Hp} {Q : VK} (p : spW K (oM C fl) hv hd pre post us H Q E) : t ⟨fun _ H' => Q .non H', Q, fun _ _ => False, fun _ _ => False⟩ (L2.start N us) H := by
  obtain ⟨g, S, Z, s, x, dx, get, set, as, j, ho, pr, i, q⟩ := p
  refine h g S Z s x dx get set as ho pr _ H j (stOk_start i) (fun _ _ _ z => z.elim) _ (fun σ' H' u Δ' f _ ⟨t, e, ps⟩ => ?_) (fun v H' u a f ⟨t, e, ps⟩ i' => ?_) (fun _ _ _ _ _ _ z => z.elim) fun _ _ _ _ _ _ z => z.elim
  · subst e
    exact q _ H' t _ f ps .non
  · subst e
    exact q v H' t a f ps i'
/-! ### a list of one's own in a world with a state -/
def oL (vs : List V) : HO := .lst vs
theorem is_w {M : Addr → Prop} {H : Hp} {v : V} {y : V} (h : Is K M H v (.w y vs ds)) : v = y ∧ DtAll K (hid M H) vs ds := h
/-- name = [], the rest in the world that has it -/
theorem ys_new {k : Nat} (h : ∀ p, ¬ Z.M p → YS K (Z.obj p oL) (s, []) Wp (fun u => X u.1) ts (Δ.set k (some (.w (.ref p) [] []))) (fun u => N u.1) (fun u => Rt u.1) (fun u => Bk u.1) (fun u => Ct u.1)) : YS K Z s Wp X (tSeq (tAsg (tLst tNil) (gName k)) ts) Δ N Rt Bk Ct := fun σ H j st wx D nx rt bk ct =>
  seq_in (show ([] : List V).length ≤ sizeLine ∧ ∀ p, H p = none → ts D (σ.set k (some (.ref p))) (upd H p (.lst [])) from ⟨by decide, fun p np => by
    have g := Grw.obj (o := oL) (t0 := ([] : List V)) j np
    exact ys_in g ((st.ext g.sm).set (a := .w (.ref p) [] []) k ⟨rfl, .nil⟩) (h p (Wd.fresh (W := Z.at s) j np)) wx nx rt bk ct⟩)
/-- name, other = [], e -/
theorem ys_parNew {k i : Nat} {b : A} (he : ∀ W, XV K W te Δ b) (h : ∀ p, ¬ Z.M p → YS K (Z.obj p oL) (s, []) Wp (fun u => X u.1) ts ((Δ.set k (some (.w (.ref p) [] []))).set i (some b)) (fun u => N u.1) (fun u => Rt u.1) (fun u => Bk u.1) (fun u => Ct u.1)) :
    YS K Z s Wp X (tSeq (tPar k i (tCons (tLst tNil) (tCons te tNil))) ts) Δ N Rt Bk Ct := fun σ H j st wx D nx rt bk ct =>
  seq_in (show ([] : List V).length ≤ sizeLine ∧ ∀ p, H p = none → te σ (upd H p (.lst [])) (fun y H2 => ∃ v w, [.ref p, y] = [v, w] ∧ ts D ((σ.set k (some v)).set i (some w)) H2) from ⟨by decide, fun p np => by
    have g := Grw.obj (o := oL) (t0 := ([] : List V)) j np
    refine he ((Z.obj p oL).at (s, [])) σ _ g.j (st.ext g.sm) _ fun y H2 b' f e ib => ?_
    subst e
    have g2 := g.trans (Grw.fr (s := (s, ([] : List V))) f)
    exact ⟨_, _, rfl, ys_in g2 (((st.ext g2.sm).set (a := .w (.ref p) [] []) k ⟨rfl, .nil⟩).set i ib) (h p (Wd.fresh (W := Z.at s) j np)) wx nx rt bk ct⟩⟩)
/-- name.append(e) -/
theorem ys_app {p : Addr} {get : S → List V} {set : S → List V → S} {k : Nat} {d : PyData} (h : HasObj Z p oL get set) (hk : Δ[k]? = some (some (.w (.ref p) (get s) ds))) (small : ds.length ≤ 100000) (he : XV K (Z.at s) te Δ (.d d))
    (n : ∀ v, N (set s (get s ++ [v])) (Δ.set k (some (.w (.ref p) (get s ++ [v]) (ds ++ [d]))))) : YS K Z s Wp X (tDrop (tBM K "list" rAppend (tVar k) (tCons te tNil))) Δ N Rt Bk Ct := fun σ H j st _ D nx _ _ _ => by
  obtain ⟨v0, e0, i0⟩ := st.get k _ hk
  obtain ⟨e, dd⟩ := is_w i0
  subst e
  have hp := h.here s H j
  refine ⟨_, e0, .inl ⟨rfl, _, .inl (.inl hp)⟩, he σ H j st _ fun v H1 a f1 e i1 => ?_⟩
  subst e
  have hp1 := h.here s H1 f1.j
  have len : (get s).length = ds.length := dd.length
  have f2 : Fr (Z.at (set s (get s ++ [v]))) H1 (upd H1 p (.lst (get s ++ [v]))) := h.fr (t := get s ++ [v]) f1.j
  have ff := f1.go f2
  have d2 : DtAll K (hid Z.M (upd H1 p (.lst (get s ++ [v])))) (get s ++ [v]) (ds ++ [d]) := DtAll.append (DtAll.ext ff.same _ _ dd) (.cons (Is.go f2 i1) .nil)
  have st2 : StOk K Z.M (upd H1 p (.lst (get s ++ [v]))) (σ.set k (some (.ref p))) (Δ.set k (some (.w (.ref p) (get s ++ [v]) (ds ++ [d])))) := (st.go ff).set k ⟨rfl, d2⟩
  have es : σ.set k (some (.ref p)) = σ := by
    refine List.ext_getElem? fun i => ?_
    by_cases q : k = i
    · subst q
      have lt : k < σ.length := by
        rcases Nat.lt_or_ge k σ.length with l | l
        · exact l
        · rw [List.getElem?_eq_none l] at e0; cases e0
      rw [List.getElem?_set_self lt, e0]
    · rw [List.getElem?_set_ne q]
  rw [es] at st2
  exact ⟨p, _, v, rfl, rfl, hp1, Nat.lt_of_le_of_lt (by rw [len]; exact small) (by decide), nx _ _ _ _ ff st2 (n v)⟩
theorem xe_lenW {p : Addr} {get : S → List V} {set : S → List V → S} {k : Nat} (h : HasObj Z p oL get set) (hk : Δ[k]? = some (some (.w (.ref p) (get s) ds))) : XV K (Z.at s) (tCB (rLen K) (tCons (tVar k) tNil)) Δ (.d (.int ds.length)) := fun σ H j st Q q => by
  obtain ⟨v0, e0, i0⟩ := st.get k _ hk
  obtain ⟨e, dd⟩ := is_w i0
  subst e
  refine ⟨_, e0, p, _, rfl, .inl (.inl (.inl (h.here s H j))), ?_⟩
  rw [dd.length]
  exact q _ H _ (.refl j) rfl (.int _)
theorem xe_tupW {p : Addr} {get : S → List V} {set : S → List V → S} {k : Nat} (h : HasObj Z p oL get set) (hk : Δ[k]? = some (some (.w (.ref p) (get s) ds))) : XV K (Z.at s) (tCB (rTupOf K) (tCons (tVar k) tNil)) Δ (.d (.tuple ds)) := fun σ H j st Q q => by
  obtain ⟨v0, e0, i0⟩ := st.get k _ hk
  obtain ⟨e, dd⟩ := is_w i0
  subst e
  exact ⟨_, e0, p, _, rfl, .inl ⟨.inl (.inl (h.here s H j)), fun l nl => q _ _ _ (.new j nl) rfl (Dt.tup (.inl (.inl (hid_new (W := Z.at s) j nl))) (DtAll.ext (Fr.same (W := Z.at s) (.new j nl)) _ _ dd))⟩⟩
/-! ### while -/
theorem ys_while {B : S → Bool → Prop} (Inv : Nat → S → Env → Prop) (h0 : ∃ m, Inv m s Δ)
    (hs : ∀ m t Δ', Inv m t Δ' → ∃ b, XB K (Z.at t) tt Δ' b ∧ (b = true → YS K Z t Wp X ts Δ' (fun u Δ2 => ∃ m', m' < m ∧ Inv m' u Δ2) Rt N (fun u Δ2 => ∃ m', m' < m ∧ Inv m' u Δ2)) ∧ (b = false → N t Δ')) : YS K Z s Wp X (tWhile tt ts) Δ N Rt Bk Ct := fun σ H j st wx D nx rt bk ct => by
  obtain ⟨m0, i0⟩ := h0
  refine ⟨fun m σ2 H2 => ∃ t Δ2, Fr (Z.at t) H H2 ∧ StOk K Z.M H2 σ2 Δ2 ∧ Inv m t Δ2, ⟨m0, s, Δ, .refl (W := Z.at s) j, st, i0⟩, ?_⟩
  rintro m σ2 H2 ⟨t, Δ2, f2, s2, v2⟩
  obtain ⟨b, hb, h1, h2⟩ := hs m t Δ2 v2
  refine hb σ2 H2 f2.j s2 _ fun b' H3 f3 e => ?_
  subst e
  have f : Fr (Z.at t) H H3 := f2.go f3
  cases b' with
  | true =>
    refine iteT ⟨fun σ4 H4 => ∃ m', m' < m ∧ ∃ u Δ4, Fr (Z.at u) H H4 ∧ StOk K Z.M H4 σ4 Δ4 ∧ Inv m' u Δ4, fun σ4 H4 h => h, ?_⟩
    exact h1 rfl σ2 H3 f.j (s2.fr f3) (fun H' u f' => wx H' u (f.go f')) _ (fun σ4 H4 u Δ4 f4 s4 ⟨m', l, v⟩ => ⟨m', l, u, Δ4, f.go f4, s4, v⟩) (fun v H4 u a f4 => rt v H4 u a (f.go f4)) (fun σ4 H4 u Δ4 f4 s4 n => nx σ4 H4 u Δ4 (f.go f4) s4 n) fun σ4 H4 u Δ4 f4 s4 ⟨m', l, v⟩ => ⟨m', l, u, Δ4, f.go f4, s4, v⟩
  | false => exact iteF (nx σ2 H3 t Δ2 f (s2.fr f3) (h2 rfl))
end
section
variable {γ T : Type} {P : Program} {w : World} {K : PySem.W.Frag} {mg : Str → Option Value} {base : Heap} {k : Nat} {f C : Addr} {fd : FuncData} {ps N : List Str} {fl : T → List (Str × V)} {hv : γ → List V} {hd : γ → List PyData} {pre : γ → T → List A → Prop} {post : γ → T → T → A → Prop} {x qual : Str} {st : Stmt}
theorem spW_len (ar : ∀ g t as, pre g t as → as.length + 1 = ps.length) {vs : List V} {H : Hp} {Q : VK} {E : XK} (p : spW K (oM C fl) hv hd pre post vs H Q E) : vs.length = ps.length := by
  obtain ⟨g, S, Z, s, x, dx, get, set, as, j, ho, pr, i, q⟩ := p
  rw [i.length, List.length_cons]
  exact ar g _ as pr
theorem okW (F : Fun K x qual st f fd) (S : FnScope N ps (defScope st)) (ar : ∀ g t as, pre g t as → as.length + 1 = ps.length)
    (body : ∀ (cdv : Value) (Ar : Around) (outer : List PySem.Env) (s : Shared) (H : Hp) (E : XK), Room k (Ar.deeper (envOfC qual (defScope st) s.heap.objs.size f cdv)) →
      ∃ t, PSs (cxOf CX0 P w K mg base N qual (defScope st) f cdv Ar outer s H E).nox (defBody st) t ∧ BodyW K C fl hv hd N pre post t) : FnOk P w K mg base CX0 (k + 1) f fd ps (spW K (oM C fl) hv hd pre post) :=
  F.ok S (fun vs H Q E p => spW_len ar p) fun cdv Ar outer s H vs Q E hr h => by
    obtain ⟨t, ht, hb⟩ := body cdv Ar outer s H E hr
    exact ⟨t, ht, bodyW_run hb h⟩
end
section
variable {S T : Type} {K : PySem.W.Frag} {Z : SW S} {s : S} {W : Wd} {Δ : Env} {te te1 te2 ta : TE} {ts : TS} {Wp : Hp → Prop} {X : S → Prop} {N : S → Env → Prop} {Rt : S → A → Prop} {Bk Ct : S → Env → Prop}
/-- name = C(e), e a list that the object holds: the rest in the world that has it -/
theorem ys_makeL {C : Addr} {fl : T → List (Str × V)} {t0 : Addr → T} {sp : Sp} {E : XK} {xs : List PyData} {k : Nat} (he : XV K (Z.at s) te Δ (.d (.list xs)))
    (hi : ∀ (x dx : Addr) (H : Hp) (Q : VK) (a : Addr), H x = some (.ins C dx []) → Q .non (upd H x (.ins C dx (fl (t0 a)))) → sp [.ref x, .ref a] H Q E)
    (h : ∀ x dx a, ¬ Z.M x → YS K (Z.obj x (oM C fl dx)) (s, t0 a) Wp (fun u => X u.1) ts (Δ.set k (some (.w (.ref x) [.ref a] [.list xs]))) (fun u => N u.1) (fun u => Rt u.1) (fun u => Bk u.1) (fun u => Ct u.1)) :
    YS K Z s Wp X (tSeq (tAsg (tMake C sp [] E (tCons te tNil)) (gName k)) ts) Δ N Rt Bk Ct := fun σ H j st wx D nx rt bk ct =>
  seq_in (show tCons te tNil σ H (fun vs H1 => ∀ x dx, H1 x = none → H1 dx = none → dx ≠ x → sp (.ref x :: (vs ++ [])) (upd (upd H1 dx (.own x)) x (.ins C dx [])) (fun v H2 => v = .non ∧ ts D (σ.set k (some (.ref x))) H2) E) from
    (xa_cons he xa_nil) σ H j st _ fun vs H1 as f1 e i1 => by
      subst e
      cases i1 with
      | cons i1 i2 =>
        cases i2
        have i0 := i1
        cases i1 with
        | lst h1 d1 =>
          rename_i a us
          intro x dx nx0 ndx ne
          have fa : Fr (Z.at s) H1 (upd H1 dx (.own x)) := .new f1.j ndx
          have nx1 : (upd H1 dx (.own x)) x = none := by rw [upd_ne ne.symm]; exact nx0
          refine hi x dx _ _ a upd_same ⟨rfl, ?_⟩
          have e2 : upd (upd (upd H1 dx (.own x)) x (.ins C dx [])) x (.ins C dx (fl (t0 a))) = upd (upd H1 dx (.own x)) x (.ins C dx (fl (t0 a))) := upd_upd
          rw [e2]
          have m : ¬ Z.M x := Wd.fresh (W := Z.at s) f1.j nx0
          have g1 := Grw.fr (s := s) (f1.trans fa)
          have g2 := Grw.obj (o := oM C fl dx) (t0 := t0 a) fa.j nx1
          have g := g1.trans g2
          have iv : Is K (Z.obj x (oM C fl dx)).M (upd (upd H1 dx (.own x)) x (.ins C dx (fl (t0 a)))) (.ref a) (.d (.list xs)) := (Is.go fa i0).ext g2.sm
          exact ys_in g ((st.ext g.sm).set (a := .w (.ref x) [.ref a] [.list xs]) k ⟨rfl, .cons iv .nil⟩) (h x dx a m) wx nx rt bk ct)
theorem xe_slSto {x : Str} {k : Int} (n : x.length ≤ 100000) (h : XV K W te Δ (.d (.str x))) (hb : XV K W ta Δ (.d (.int k))) : XV K W (tSl rSlS te tNoPart (tPart ta)) Δ (.d (.str (cutS x none (some k)))) := fun σ H j s Q q =>
  h σ H j s _ fun v H1 a f1 e i1 => by
    subst e
    refine hb σ H1 f1.j (s.fr f1) _ fun w H2 b f2 e i2 => ?_
    subst e
    cases i2
    cases i1.fr f2
    exact ⟨k, rfl, _, rfl, by exact Nat.le_trans n (by decide), q _ H2 _ (f1.trans f2) rfl (.str _)⟩
theorem ye_tupS {a : PyData} {R : S → PyData → Prop} (h : ∀ W, XV K W te1 Δ (.d a)) (h2 : YE K Z s te2 Δ fun t x => ∃ d, x = .d d ∧ R t d) : YE K Z s (tTup (tCons te1 (tCons te2 tNil))) Δ fun t x => ∃ d, x = .d (.tuple [a, d]) ∧ R t d := fun σ H j st Q q =>
  (h (Z.at s)) σ H j st _ fun v H1 b f1 e i1 => by
    subst e
    refine h2 σ H1 f1.j (st.go f1) _ fun w H2 t c f2 r i2 => ?_
    obtain ⟨d, e, rd⟩ := r
    subst e
    refine ⟨by show 2 ≤ sizeLine; decide, fun p np => ?_⟩
    have f3 : Fr (Z.at t) H2 (upd H2 p (.tup [v, w])) := .new f2.j np
    refine q _ _ t _ ((f1.go f2).go f3) ⟨d, rfl, rd⟩ (Dt.tup (.inl (.inl (hid_new (W := Z.at t) f2.j np))) (.cons (Is.go f3 (Is.go f2 i1)) (.cons (Is.go f3 i2) .nil)))
theorem cx_intS {x : Str} {n : Int} (h : PySem.intText? x = some n) (l : x.length ≤ 640) : CX1 K W (fun xs H Q => ∃ a n, xs = [.str a] ∧ PySem.intText? a = some n ∧ a.length ≤ 640 ∧ Q (.int n) H) [.d (.str x)] (· = .d (.int n)) := fun vs H j i Q q => by
  cases i with
  | cons h1 t =>
    cases t
    cases h1
    exact ⟨x, n, rfl, h, l, q _ H _ (.refl j) rfl (.int _)⟩
theorem ox_notInT {x z : Str} {b : Bool} (h : (!(!(Builtin.Str.occurrences z x 0 z.length 1).isEmpty)) = b) : OX K W (fun x y H Q => ∃ i j, x = .str i ∧ y = .str j ∧ Q (.bl (!(!(Builtin.Str.occurrences j i 0 j.length 1).isEmpty))) H) (.d (.str x)) (.d (.str z)) (· = .d (.bool b)) := fun v w H j i1 i2 Q q => by
  cases i1
  cases i2
  refine ⟨_, _, rfl, rfl, ?_⟩
  rw [h]
  exact q _ H _ (.refl j) rfl (.bl _)
end
/-- for x in xs, a tuple that stood ahead of one's own list -/
theorem own_tup {K : PySem.W.Frag} {W : Wd} {Δ : Env} {k : Nat} {H0 H : Hp} {σ : L2.St} {ds : List PyData} {D : Ends} {i j : Nat} {tb : TS} {xs : List PyData} {a : Addr} {vs : List V} (o : Own K W k H0 H σ Δ ds) (ne : i ≠ k) (hj : σ[j]? = some (some (.ref a))) (ha : SqT K (hid W.M H0) a vs) (da : DtAll K (hid W.M H0) vs xs)
    (Inv : Nat → Env → List PyData → Prop) (h0 : Inv 0 Δ ds)
    (hs : ∀ (m : Nat) (x : PyData) (v : V) (σ1 : L2.St) (H1 : Hp) (Δ1 : Env) (ds1 : List PyData), xs[m]? = some x → Inv m Δ1 ds1 → Own K W k H0 H1 (σ1.set i (some v)) (Δ1.set i (some (.d x))) ds1 →
      ∀ N : L2.St → Hp → Prop, (∀ σ2 H2 Δ2 ds2, Own K W k H0 H2 σ2 Δ2 ds2 → Inv (m + 1) Δ2 ds2 → N σ2 H2) → tb { D with nx := N, ct := N, bk := D.nx } (σ1.set i (some v)) H1)
    (hd : ∀ (σ1 : L2.St) (H1 : Hp) (Δ1 : Env) (ds1 : List PyData), Own K W k H0 H1 σ1 Δ1 ds1 → Inv xs.length Δ1 ds1 → D.nx σ1 H1) : tFor (iTup K (tVar j)) (gName i) tb D σ H := by
  have ga : ∀ H2, Fr W H0 H2 → SqT K H2 a vs := fun H2 f => sqT_same hid_le (sqT_same f.same ha)
  refine ⟨.ref a, hj, a, rfl, ⟨vs, ga H o.fr⟩, for_tup (xs := vs) (fun m σ2 H2 => ∃ Δ2 ds2, Own K W k H0 H2 σ2 Δ2 ds2 ∧ Inv m Δ2 ds2) ⟨Δ, ds, o, h0⟩ (fun m σ2 H2 _ ⟨Δ2, ds2, o2, _⟩ => ga H2 o2.fr) ?_ ?_⟩
  · rintro m v σ2 H2 hv ⟨Δ2, ds2, o2, v2⟩
    have l : m < xs.length := by
      rw [← da.length]
      exact (List.getElem?_eq_some_iff.mp hv).1
    obtain ⟨v', hv', dv⟩ := da.get (List.getElem?_eq_getElem l)
    rw [hv] at hv'
    cases hv'
    obtain ⟨p, us, n0, mp, hp, dd, hk, s⟩ := o2.it
    have iv : Is K (fun a => W.M a ∨ a = p) H2 v (.d xs[m]) := Dt.ext (same_in (φ := fun _ => True) o2.fr n0) _ _ dv
    refine hs m xs[m] v σ2 H2 Δ2 ds2 (List.getElem?_eq_getElem l) v2 ⟨o2.fr, p, us, n0, mp, hp, dd, by rw [List.getElem?_set_ne ne]; exact hk, s.set i iv⟩ _ fun σ3 H3 Δ3 ds3 o3 v3 => ⟨Δ3, ds3, o3, v3⟩
  · rintro σ2 H2 ⟨Δ2, ds2, o2, v2⟩
    rw [da.length] at v2
    exact hd σ2 H2 Δ2 ds2 o2 v2
end V2

set_option Elab.async false
set_option linter.all false
set_option maxRecDepth 100000
set_option maxHeartbeats 1000000
namespace V2
open PySem PySem.Spec PyProof.Rows L2
/-! ### promises of a new list -/
section
variable {γ : Type}
def spF (K : PySem.W.Frag) (pre : γ → Wd → List A → Prop) (val : γ → List PyData) : Sp := fun us H Q _ => ∃ (g : γ) (W : Wd) (as : List A), W.J H ∧ pre g W as ∧ IsAll K W.M H us as ∧
  ∀ p H' vs, Fr W H H' → H p = none → H' p = some (.lst vs) → DtAll K (hid (fun a => W.M a ∨ a = p) H') vs (val g) → Q (.ref p) H'
variable {K : PySem.W.Frag} {W : Wd} {Δ : Env} {ta : TA} {te : TE} {tt : TT} {ts tu : TS} {E : XK} {pre : γ → Wd → List A → Prop} {val : γ → List PyData} {k : Nat} {H0 H : Hp} {σ : L2.St} {ds : List PyData} {D : Ends} {B : Bool → Prop}
theorem xn_callF (g : γ) {as : List A} (h : XAs K W ta Δ as) (p : pre g W as) : XN K W (tCall (spF K pre val) [] E ta) Δ (· = val g) := fun σ H j s Q q =>
  h σ H j s _ fun vs H1 as' f1 e i1 => by
    subst e
    rw [List.append_nil]
    refine ⟨g, W, as', f1.j, p, i1, fun p' H' us f np hp dd => q p' H' us _ (f1.trans f) ?_ rfl hp dd⟩
    cases z : H p' with
    | none => rfl
    | some o =>
      have m : ¬ W.M p' := W.fresh f1.j np
      rw [f1.keep p' o m z] at np
      cases np
theorem xe_callF (g : γ) {as : List A} (h : XAs K W ta Δ as) (p : pre g W as) : XV K W (tCall (spF K pre val) [] E ta) Δ (.d (.list (val g))) := fun σ H j s Q q =>
  xn_callF (E := E) g h p σ H j s Q fun p' H' vs ds f np e hp dd => by
    subst e
    have m : ¬ W.M p' := W.fresh j np
    exact q _ H' _ f rfl (Dt.lst (by rw [hid_out m]; exact hp) (DtAll.ext hid_or_le _ _ dd))
/-- a test that reads one's own list as data -/
theorem own_ifD (o : Own K W k H0 H σ Δ ds) (ht : XT K W tt (Δ.set k (some (.d (.list ds)))) B) (h1 : ∀ H', B true → Own K W k H0 H' σ Δ ds → ts D σ H') (h2 : ∀ H', B false → Own K W k H0 H' σ Δ ds → tu D σ H') : tIfS tt ts tu D σ H :=
  ht σ H o.fr.j o.st _ fun b H1 f hb => by
    cases b with
    | true => exact iteT (h1 H1 hb (o.later f))
    | false => exact iteF (h2 H1 hb (o.later f))
/-- a list is put behind one's own -/
theorem own_extend (h : Own K W k H0 H σ Δ ds) {P : List PyData → Prop} (small : ∀ es, P es → ds.length + es.length ≤ 100000) (he : ∀ p φ, ¬ W.M p → XE K (W.add p φ) te Δ fun a => ∃ es, a = .d (.list es) ∧ P es)
    (q : ∀ H' es, P es → Own K W k H0 H' σ Δ (ds ++ es) → D.nx σ H') : tDrop (tBM K "list" rExtend (tVar k) (tCons te tNil)) D σ H := by
  obtain ⟨p, vs, n0, m, hp, dd, hk, s⟩ := h.it
  refine ⟨_, hk, .inl ⟨rfl, _, .inl (.inl hp)⟩, ?_⟩
  refine he p (· = .lst vs) m σ H ⟨h.fr.j, _, hp, rfl⟩ s _ fun v H1 a f1 r i1 => ?_
  obtain ⟨es, e, pd⟩ := r
  subst e
  obtain ⟨u, hp1, e⟩ := f1.j.2
  subst e
  cases i1 with
  | lst h1 d1 =>
    rename_i b ws
    have m1 : ¬ (W.M b ∨ b = p) := fun z => by
      have h1' : hid (fun a => W.M a ∨ a = p) H1 b = some (.lst ws) := h1
      rw [hid_in (M := fun a => W.M a ∨ a = p) z] at h1'
      cases h1'
    have hb : H1 b = some (.lst ws) := by
      have h1' : hid (fun a => W.M a ∨ a = p) H1 b = some (.lst ws) := h1
      rw [hid_out (M := fun a => W.M a ∨ a = p) m1] at h1'
      exact h1'
    have len : vs.length + ws.length ≤ sizeLine := by rw [dd.length, d1.length]; exact Nat.le_trans (small es pd) (by decide)
    have sm2 : Same (hid (W.add p (· = .lst vs)).M H) (hid (W.add p (· = .lst vs)).M H1) := f1.same
    refine ⟨p, b, vs, ws, rfl, rfl, hp1, hb, len, q _ es pd ⟨?_, p, vs ++ ws, n0, m, upd_same, ?_, hk, ?_⟩⟩
    · refine ⟨fun a o nm e => ?_, W.loc H1 _ (fun a ma => upd_ne fun z => m (z ▸ ma)) f1.j.1⟩
      have ne : a ≠ p := ne_of_none e n0
      rw [upd_ne ne]
      exact f1.keep a o (fun z => z.elim nm ne) (h.fr.keep a o nm e)
    · rw [hid_upd (.inr rfl)]
      exact DtAll.append (DtAll.ext f1.same _ _ dd) d1
    · have s2 := s.fr f1
      refine s2.ext fun a o e => ?_
      rw [hid_upd (.inr rfl)]
      exact e
/-- a new list of one's own is handed back -/
theorem own_retN (o : Own K W k H0 H σ Δ ds) (q : ∀ p vs, Fr W H0 H → H0 p = none → H p = some (.lst vs) → DtAll K (hid (fun a => W.M a ∨ a = p) H) vs ds → D.rt (.ref p) H) : tRet (tVar k) D σ H := by
  obtain ⟨p, vs, n0, m, hp, dd, hk, s⟩ := o.it
  exact ⟨_, hk, q p vs o.fr n0 hp dd⟩
end
end V2
namespace V2
open PySem PySem.Spec PyProof.Rows L2
theorem xe_lcRg {K : PySem.W.Frag} {W : Wd} {Δ : Env} {te te0 : TE} {k n : Nat} {g : Nat → PyData} (h : XV K W te0 Δ (.d (.int (n : Int)))) (small : n ≤ 100000) (hs : ∀ D φ (i : Nat), ¬ W.M D → XV K (W.add D φ) te ((Δ.set k none).set k (some (.d (.int (i : Int))))) (.d (g i))) :
    XV K W (tLc (iRng1 (tCons te0 tNil)) (gName k) tYes te [k]) Δ (.d (.list ((List.range n).map g))) :=
  XE.mono (xe_lc (Nn := (· = n)) (Y := fun i a => a = .d (.int (i : Int))) (P := fun i d => d = g i) (xi_rng (Nn := (· = n)) (xa_rng (Nn := (· = n)) h (by omega) (by omega) (by omega))) (fun m e => by omega) fun D φ i a mD ea => by
      subst ea
      exact XE.mono (hs D φ i mD) fun a e => ⟨_, e, rfl⟩)
    fun a ⟨ds, hl, hp, e⟩ => by
      subst e
      have z : ds = (List.range n).map g := by
        refine List.ext_getElem? fun i => ?_
        by_cases hi : i < ds.length
        · rw [List.getElem?_eq_getElem hi, hp i ds[i] (List.getElem?_eq_getElem hi), List.getElem?_map, List.getElem?_range (by omega)]
          rfl
        · rw [List.getElem?_eq_none (by omega), List.getElem?_eq_none (by rw [List.length_map, List.length_range]; omega)]
      rw [z]
end V2

set_option Elab.async false
set_option linter.all false
namespace V2
/-! ### borders of beginnings: the greatest one by borders of borders -/
section
variable {α : Type} {p : Nat → α}
/-- the first k are the last k of the first m, and not all of them -/
def Bord (p : Nat → α) (m k : Nat) : Prop := k < m ∧ ∀ j, j < k → p j = p (m - k + j)
def MaxB (p : Nat → α) (m d : Nat) : Prop := Bord p m d ∧ ∀ l, Bord p m l → l ≤ d
theorem bord_zero {m : Nat} (h : 0 < m) : Bord p m 0 := ⟨h, fun j z => by omega⟩
theorem bord_succ {m k : Nat} (h : k < m) : Bord p (m + 1) (k + 1) ↔ Bord p m k ∧ p k = p m := by
  constructor
  · rintro ⟨_, e⟩
    refine ⟨⟨h, fun j hj => ?_⟩, ?_⟩
    · have := e j (by omega)
      rw [show m + 1 - (k + 1) + j = m - k + j by omega] at this
      exact this
    · have := e k (by omega)
      rw [show m + 1 - (k + 1) + k = m by omega] at this
      exact this
  · rintro ⟨⟨_, e⟩, e2⟩
    refine ⟨by omega, fun j hj => ?_⟩
    rw [show m + 1 - (k + 1) + j = m - k + j by omega]
    by_cases c : j < k
    · exact e j c
    · rw [show j = k by omega, show m - k + k = m by omega]
      exact e2
theorem bord_trans {m k l : Nat} (h : Bord p m k) (h' : Bord p k l) : Bord p m l := by
  refine ⟨Nat.lt_trans h'.1 h.1, fun j hj => ?_⟩
  have a := h'.1
  have b := h.1
  rw [h'.2 j hj, h.2 (k - l + j) (by omega), show m - k + (k - l + j) = m - l + j by omega]
theorem bord_in {m k l : Nat} (h : Bord p m k) (h' : Bord p m l) (lt : l < k) : Bord p k l := by
  refine ⟨lt, fun j hj => ?_⟩
  have b := h.1
  rw [h'.2 j hj, h.2 (k - l + j) (by omega), show m - k + (k - l + j) = m - l + j by omega]
/-- what stands while a border is sought that goes on -/
structure Seek (p : Nat → α) (m k : Nat) : Prop where
  bord : Bord p m k
  past : ∀ l, k < l → Bord p m l → p l ≠ p m
theorem seek_first {m d : Nat} (h : MaxB p m d) : Seek p m d := ⟨h.1, fun l hl b => absurd (h.2 l b) (by omega)⟩
theorem seek_next {m k d : Nat} (s : Seek p m k) (ne : p k ≠ p m) (h : MaxB p k d) : Seek p m d := by
  refine ⟨bord_trans s.bord h.1, fun l hl b => ?_⟩
  by_cases c : l < k
  · exact absurd (h.2 l (bord_in s.bord b c)) (by omega)
  · by_cases c2 : l = k
    · rw [c2]
      exact ne
    · exact s.past l (by omega) b
theorem seek_yes {m k : Nat} (s : Seek p m k) (e : p k = p m) : MaxB p (m + 1) (k + 1) := by
  refine ⟨(bord_succ s.bord.1).mpr ⟨s.bord, e⟩, fun l hl => ?_⟩
  cases l with
  | zero => omega
  | succ l =>
    have lt : l < m := by have := hl.1; omega
    obtain ⟨b, e2⟩ := (bord_succ lt).mp hl
    by_cases c : k < l
    · exact absurd e2 (s.past l c b)
    · omega
theorem seek_no {m : Nat} (s : Seek p m 0) (ne : p 0 ≠ p m) : MaxB p (m + 1) 0 := by
  refine ⟨bord_zero (by omega), fun l hl => ?_⟩
  cases l with
  | zero => omega
  | succ l =>
    have lt : l < m := by have := hl.1; omega
    obtain ⟨b, e2⟩ := (bord_succ lt).mp hl
    cases l with
    | zero => exact absurd e2 ne
    | succ l => exact absurd e2 (s.past _ (by omega) b)
theorem max_one : MaxB p 1 0 := ⟨bord_zero (by decide), fun l h => by have := h.1; omega⟩
theorem max_uniq {m d d' : Nat} (h : MaxB p m d) (h' : MaxB p m d') : d = d' := Nat.le_antisymm (h'.2 d h.1) (h.2 d' h'.1)
theorem max_some (m : Nat) (hm : 0 < m) : ∃ d, MaxB p m d := by
  have go : ∀ n, n < m → (∀ l, Bord p m l → l ≤ n) → ∃ d, MaxB p m d := by
    intro n
    induction n with
    | zero => exact fun h a => ⟨0, bord_zero hm, a⟩
    | succ n ih =>
      intro h a
      by_cases c : Bord p m (n + 1)
      · exact ⟨n + 1, c, a⟩
      · refine ih (by omega) fun l hl => ?_
        have := a l hl
        by_cases z : l = n + 1
        · rw [z] at hl
          exact absurd hl c
        · omega
  exact go (m - 1) (by omega) fun l hl => by have := hl.1; omega
end
end V2
namespace V2
open PySem PySem.Spec PyProof.Rows L2
/-! ### an own list that grows while a tuple made behind its start is walked -/
structure OwnP (K : PySem.W.Frag) (W : Wd) (k : Nat) (p : Addr) (Hb H0 H : Hp) (σ : L2.St) (Δ : Env) (ds : List PyData) : Prop where
  own : Own K W k H0 H σ Δ ds
  at_ : σ[k]? = some (some (.ref p))
  keep : ∀ a o, ¬ W.M a → a ≠ p → Hb a = some o → H a = some o
section
variable {K : PySem.W.Frag} {W : Wd} {Δ : Env} {te : TE} {k : Nat} {H0 H Hb : Hp} {σ : L2.St} {ds : List PyData} {D : Ends} {i : Nat} {tb : TS} {xs : List PyData} {p : Addr}
theorem own_tupX (o : Own K W k H0 H σ Δ ds) (ne : i ≠ k) (he : ∀ p φ, ¬ W.M p → XV K (W.add p φ) te Δ (.d (.tuple xs)))
    (Inv : Nat → Env → List PyData → Prop) (h0 : Inv 0 Δ ds)
    (hs : ∀ (p : Addr) (Hb : Hp) (m : Nat) (x : PyData) (v : V) (σ1 : L2.St) (H1 : Hp) (Δ1 : Env) (ds1 : List PyData), xs[m]? = some x → Inv m Δ1 ds1 → OwnP K W k p Hb H0 H1 (σ1.set i (some v)) (Δ1.set i (some (.d x))) ds1 →
      ∀ N : L2.St → Hp → Prop, (∀ σ2 H2 Δ2 ds2, OwnP K W k p Hb H0 H2 σ2 Δ2 ds2 → Inv (m + 1) Δ2 ds2 → N σ2 H2) → tb { D with nx := N, ct := N, bk := D.nx } (σ1.set i (some v)) H1)
    (hd : ∀ (σ1 : L2.St) (H1 : Hp) (Δ1 : Env) (ds1 : List PyData), Own K W k H0 H1 σ1 Δ1 ds1 → Inv xs.length Δ1 ds1 → D.nx σ1 H1) : tFor (iTup K te) (gName i) tb D σ H := by
  obtain ⟨p, vs0, n0, m0, hp, dd, hk, s⟩ := o.it
  refine he p (· = .lst vs0) m0 σ H ⟨o.fr.j, _, hp, rfl⟩ s _ fun v H1 a f1 e i1 => ?_
  subst e
  obtain ⟨u, hp1, e⟩ := f1.j.2
  subst e
  have o1 : Own K W k H0 H1 σ Δ ds := ⟨⟨fun a o' nm e => f1.keep a o' (fun z => z.elim nm (ne_of_none e n0)) (o.fr.keep a o' nm e), f1.j.1⟩, p, vs0, n0, m0, hp1, DtAll.ext f1.same _ _ dd, hk, s.fr f1⟩
  cases i1 with
  | tup h1 d1 =>
    rename_i a vs
    have sm : ∀ H2, (∀ a o, ¬ W.M a → a ≠ p → H1 a = some o → H2 a = some o) → Same (hid (fun a => W.M a ∨ a = p) H1) (hid (fun a => W.M a ∨ a = p) H2) := fun H2 kp b o' e => by
      by_cases z : W.M b ∨ b = p
      · rw [hid_in z] at e; cases e
      · rw [hid_out z] at e ⊢
        exact kp b o' (fun q => z (.inl q)) (fun q => z (.inr q)) e
    have ga : ∀ H2, (∀ a o, ¬ W.M a → a ≠ p → H1 a = some o → H2 a = some o) → SqT K H2 a vs := fun H2 kp => sqT_same hid_le (sqT_same (sm H2 kp) h1)
    refine ⟨a, rfl, ⟨vs, ga H1 fun _ _ _ _ e => e⟩, for_tup (xs := vs) (fun m σ2 H2 => ∃ Δ2 ds2, OwnP K W k p H1 H0 H2 σ2 Δ2 ds2 ∧ Inv m Δ2 ds2) ⟨Δ, ds, ⟨o1, hk, fun _ _ _ _ e => e⟩, h0⟩ (fun m σ2 H2 _ ⟨Δ2, ds2, o2, _⟩ => ga H2 o2.keep) ?_ ?_⟩
    · rintro m v σ2 H2 hv ⟨Δ2, ds2, o2, v2⟩
      have l : m < xs.length := by
        rw [← d1.length]
        exact (List.getElem?_eq_some_iff.mp hv).1
      obtain ⟨v', hv', dv⟩ := d1.get (List.getElem?_eq_getElem l)
      rw [hv] at hv'
      cases hv'
      obtain ⟨p', us, n0', mp, hp', dd', hk', s'⟩ := o2.own.it
      have ep : p' = p := by
        have := o2.at_
        rw [hk'] at this
        injection this with this
        injection this with this
        injection this
      subst ep
      have iv : Is K (fun a => W.M a ∨ a = p') H2 v (.d xs[m]) := Dt.ext (sm H2 o2.keep) _ _ dv
      refine hs p' H1 m xs[m] v σ2 H2 Δ2 ds2 (List.getElem?_eq_getElem l) v2 ⟨⟨o2.own.fr, p', us, n0', mp, hp', dd', by rw [List.getElem?_set_ne ne]; exact hk', s'.set i iv⟩, by rw [List.getElem?_set_ne ne]; exact hk', o2.keep⟩ _ fun σ3 H3 Δ3 ds3 o3 v3 => ⟨Δ3, ds3, o3, v3⟩
    · rintro σ2 H2 ⟨Δ2, ds2, o2, v2⟩
      rw [d1.length] at v2
      exact hd σ2 H2 Δ2 ds2 o2.own v2
theorem own_appendP {P : PyData → Prop} (h : OwnP K W k p Hb H0 H σ Δ ds) (small : ds.length ≤ 100000) (he : XE K W te (Δ.set k (some (.d (.list ds)))) fun a => ∃ d, a = .d d ∧ flat d = true ∧ P d)
    (q : ∀ H' d, P d → OwnP K W k p Hb H0 H' σ Δ (ds ++ [d]) → D.nx σ H') : tDrop (tBM K "list" rAppend (tVar k) (tCons te tNil)) D σ H := by
  have st := h.own.st
  obtain ⟨p', vs, n0, m, hp, dd, hk, s⟩ := h.own.it
  have ep : p' = p := by
    have := h.at_
    rw [hk] at this
    injection this with this
    injection this with this
    injection this
  subst ep
  refine ⟨_, hk, .inl ⟨rfl, _, .inl (.inl hp)⟩, he σ H h.own.fr.j st _ fun v H1 a f1 r i1 => ?_⟩
  obtain ⟨d, e, fl, pd⟩ := r
  subst e
  have hp1 := f1.keep p' _ m hp
  have fA : Same (hid (fun a => W.M a ∨ a = p') H) (hid (fun a => W.M a ∨ a = p') (upd H1 p' (.lst (vs ++ [v])))) := fun a o e => by
    by_cases z : W.M a ∨ a = p'
    · rw [hid_in z] at e; cases e
    · rw [hid_out z] at e ⊢
      rw [upd_ne fun q => z (.inr q)]
      exact f1.keep a o (fun q => z (.inl q)) e
  obtain rfl := Dt.flat i1 fl
  refine ⟨p', vs, _, rfl, rfl, hp1, Nat.lt_of_le_of_lt (by rw [dd.length]; exact small) (by decide), q _ d pd ⟨⟨?_, p', vs ++ [vOf d], n0, m, upd_same, DtAll.append (DtAll.ext fA _ _ dd) (.cons (Dt.ofFlat fl) .nil), hk, s.ext fA⟩, hk, fun a o nm np e => ?_⟩⟩
  · refine ⟨fun a o nm e => ?_, W.loc H1 _ (fun a ma => upd_ne fun z : a = p' => m (by rw [← z]; exact ma)) f1.j⟩
    have ne : a ≠ p' := ne_of_none e n0
    rw [upd_ne ne]
    exact f1.keep a o nm (h.own.fr.keep a o nm e)
  · rw [upd_ne np]
    exact f1.keep a o nm (h.keep a o nm np e)
end
end V2

set_option Elab.async false
set_option linter.all false
set_option maxRecDepth 100000
set_option maxHeartbeats 2000000
/-! ### classes over a built-in error that need not have a __new__ of its own (KeyError) -/
namespace V2
open PySem PySem.Spec
/-- what the making of an error wants of the built-in class above it, which need not have a __new__ of its own -/
structure LowF (B mk ini : String) (up : List Value) : Prop where
  mkr : ∃ Bn inin un, ExcBaseFacts Bn mk inin un ∧ up.contains (.type Bn) = true
  hasB : up.contains (.type B) = true
  noA : up.contains (.type "AttributeError") = false
  noN : up.contains (.type "NameError") = false
  plain : plainId ini = true
  entry : entryFor table ini = some Builtin.«BaseException.__init__»
  split : splitId ini = some (B, "__init__")
  kind : builtinKind ini = some .slot
  row : Manifest.signature? ini = some ⟨.positional, "*", B, .self, [⟨"args", .varPos, false⟩]⟩
  star : (B != "*") = true
theorem LowF.of {B mk ini : String} {up : List Value} (F : ExcBaseFacts B mk ini up) : LowF B mk ini up :=
  ⟨⟨B, ini, up, F, F.hasB⟩, F.hasB, F.noAttr, F.noName, F.init.plain, F.initEntry, F.initSplit, F.initKind, F.initRow, F.noStar⟩
section
variable {prog : Program} {w : World} {Ar : Around} {E : Value → Shared → Prop} {R : Result → Shared → Prop} {h : Heap} {g : Array GenState} {d : Drawn} {t : Nat} {os : OsState}
variable {nm q : Str} {C N : Addr} {bs bm up : List Value} {hdct : Bool} {sn : List Str} {sub : List Value} {ab : Bool} {col : Option Bool} {dd : Option Addr} {k0 k1 k2 k3 k5 : Option Value} {B mk ini : String}
/-- the class C of the heap stands over what is named -/
theorem over_has {Y : String} {b : Bool} (hT : ∀ Y : String, bm.contains (.type Y) = up.contains (.type Y)) (hb : up.contains (.type Y) = b) : (Value.ref C :: bm).contains (.type Y) = b := by
  rw [List.contains_cons, hT, hb]; rfl
theorem over_new {Bn inin : String} {un : List Value} (F : ExcBaseFacts Bn mk inin un) (hB : (Value.ref C :: bm).contains (.type Bn) = true) (hA : (Value.ref C :: bm).contains (.type "AttributeError") = false) (hN : (Value.ref C :: bm).contains (.type "NameError") = false)
    {us : List Value} (hC : h.get? C = some (excClassObj nm q C N bs bm hdct sn sub ab col dd k0 k1 k2 k3 k5 mk)) (few : us.length ≤ sizeLine)
    (k : R (.ok (.ret (.ref (h.objs.size + 1)))) ⟨(h.push (PySem.W.kdv_tup us)).push (PySem.HandSPX.excO C h.objs.size), g, d, t, os⟩) : codeAny (model prog w) Ar (.builtin mk ⟨.ref C :: us, []⟩) R ⟨h, g, d, t, os⟩ := by
  have e1 := F.ends
  refine codeAny_builtinAt F.entry ?_
  unfold Builtin.«BaseException.__new__»
  refine wpAt_bind ?_
  show wpAt _ _ _ (stack >>= _) _ _ _
  refine wpAt_bind (wpAt_stack fun p below => wpAt_of_wpAny ?_)
  wp_walk
  refine wpAt_of_wpAny ?_
  rw [F.owner]
  repeat (first | with_reducible refine wpAny_madeHere_exc F.canon hC ?_ | with_reducible refine wpAny_loadPart_at hC ?_ | (with_reducible refine wpAny_isSubtype_exc hC ?_; first | rw [hB] | rw [hA] | rw [hN]) | wp_step)
  show R _ _
  rw [Heap.size_push]
  exact k
theorem over_type {Bn inin : String} {un : List Value} {fI : Addr} {Q : Fin → Shared → Prop} (F : ExcBaseFacts Bn mk inin un) (hB : (Value.ref C :: bm).contains (.type Bn) = true) (hA : (Value.ref C :: bm).contains (.type "AttributeError") = false) (hN : (Value.ref C :: bm).contains (.type "NameError") = false)
    {us : List Value} (hC : h.get? C = some (excClassObj nm q C N bs bm hdct sn sub ab col dd k0 k1 k2 k3 k5 mk)) (few : us.length ≤ sizeLine)
    (hi : PySem.W.Looks (model prog w) h (typeLookup (.ref C) "__init__") (some (.ref fI))) (hb : ∀ self, PySem.W.Looks (model prog w) h (bindSpecial (.ref fI) self) (.ref fI, [self]))
    (k : codeAny (model prog w) Ar (.call (.ref fI) ⟨.ref (h.objs.size + 1) :: us, []⟩)
      (fun r s' => match r with | .ok (.ret v) => v = .none ∧ Q (.done (.ret (.ref (h.objs.size + 1)))) s' | .ok _ => False | .error e => E e s')
      ⟨(h.push (PySem.W.kdv_tup us)).push (PySem.HandSPX.excO C h.objs.size), g, d, t, os⟩) : wpAny (model prog w) Ar (Builtin.«type.__call__» ⟨.ref C :: us, []⟩) Q E ⟨h, g, d, t, os⟩ := by
  have chk : ∀ {M : Model} {A2 : Around} {E2 : Value → Shared → Prop} {Q2 : Unit → Shared → Prop}, Q2 () ⟨h, g, d, t, os⟩ → wpAny M A2 (checkBuiltinCall mk ⟨.ref C :: us, []⟩) Q2 E2 ⟨h, g, d, t, os⟩ := fun z => by
    have e2 := F.noStar
    simp only [checkBuiltinCall, F.newKind, F.newSplit, F.newRow]
    repeat (first | refine wpAny_loadPart_at hC ?_ | (refine wpAny_isSubtype_exc hC ?_; rw [hB]) | refine wpAny_staticBase_exc hC ?_ | refine wpAny_madeBy_exc hC ?_ | simp only [bne_self_eq_false, Bool.false_eq_true, if_false] | wp_step)
    exact z
  repeat (first | with_reducible refine wpAny_loadPart_at hC ?_ | with_reducible refine wpAny_madeBy_exc hC ?_ | wp_step)
  refine codeAny_call_builtin_code (Code.quiet_builtin _ F.quiet) (chk (over_new F hB hA hN hC few ?_))
  show wpAny _ _ _ _ _ _
  have kk : ∀ b o, h.get? b = some o → ((h.push (PySem.W.kdv_tup us)).push (PySem.HandSPX.excO C h.objs.size)).get? b = some o := fun b o e => Heap.get?_push_of_some _ (Heap.get?_push_of_some _ e)
  have cC := kk _ _ hC
  have eC : ((h.push (PySem.W.kdv_tup us)).push (PySem.HandSPX.excO C h.objs.size)).get? (h.objs.size + 1) = some (PySem.HandSPX.excO C h.objs.size) := by heap_get
  have self : (Value.ref C :: bm).contains (.ref C) = true := by simp
  have i1 := hi.keeps kk
  have b1 := (hb (.ref (h.objs.size + 1))).keeps kk
  unfold isInstance
  repeat (first | with_reducible refine wpAny_loadPart_at eC ?_ | (with_reducible refine wpAny_isSubtype_exc cC ?_; rw [self]) | wp_step)
  show wpAny _ _ (typeLookup (.ref C) _) _ _ _
  refine i1.at (wpAny_holding (wpAny_bind (b1.at (wpAny_bind (wpAny_call (codeAny_mono k fun r s' z => ?_))))))
  rcases r with e | (v | _ | _ | _) <;> first | exact z | exact z.elim | skip
  obtain ⟨rfl, z⟩ := z
  first
    | exact wpAny_pure (wpAny_pure z)
    | (wp_walk; exact z)
/-- C(..), whose __init__ is one's own -/
theorem over_call (T : LowF B mk ini up) (hT : ∀ Y : String, bm.contains (.type Y) = up.contains (.type Y)) {us : List Value} {fI : Addr} (hC : h.get? C = some (excClassObj nm q C N bs bm hdct sn sub ab col dd k0 k1 k2 k3 k5 mk))
    (hi : PySem.W.Looks (model prog w) h (typeLookup (.ref C) "__init__") (some (.ref fI))) (hb : ∀ self, PySem.W.Looks (model prog w) h (bindSpecial (.ref fI) self) (.ref fI, [self])) (few : us.length ≤ sizeLine)
    (k : codeAny (model prog w) (Ar.under (.builtin "type.__call__" ⟨.ref C :: us, []⟩)) (.call (.ref fI) ⟨.ref (h.objs.size + 1) :: us, []⟩) (PySem.W.InitBack (h.objs.size + 1) R) ⟨(h.push (PySem.W.kdv_tup us)).push (PySem.HandSPX.excO C h.objs.size), g, d, t, os⟩) :
    codeAny (model prog w) Ar (.call (.ref C) ⟨us, []⟩) R ⟨h, g, d, t, os⟩ := by
  obtain ⟨Bn, inin, un, F, hu⟩ := T.mkr
  have f1 := tc_lookup
  have f2 := tc_bind (.ref C)
  have ty : (⟨h, g, d, t, os⟩ : Shared).TypeIs (.ref C) "type" := ⟨_, hC, rfl⟩
  refine codeAny_of_tree ?_
  show wpAny _ _ (callAny (.ref C) _) _ _ _
  repeat (any_goals (first | assumption | with_reducible refine wpAny_loadPart_at hC ?_ | wp_step))
  refine ⟨rfl, codeAny_call_builtin_at (Code.quiet_builtin _ (by decide +kernel)) entry_typeCall (wpAny_check_type_call_sub hC (over_type F (over_has hT hu) (over_has hT T.noA) (over_has hT T.noN) hC few hi hb (codeAny_mono k fun r s' z => ?_)))⟩
  rcases r with e | (v | _ | _ | _) <;> exact z
/-- B.__init__(e, ..): the args are laid anew -/
theorem over_init (T : LowF B mk ini up) (hT : ∀ Y : String, bm.contains (.type Y) = up.contains (.type Y)) {e t0 : Addr} {us : List Value} (hC : h.get? C = some (excClassObj nm q C N bs bm hdct sn sub ab col dd k0 k1 k2 k3 k5 mk)) (he : h.get? e = some (PySem.HandSPX.excO C t0)) (few : us.length ≤ sizeLine)
    (k : ∀ h' t1, (∀ b o, b ≠ e → h.get? b = some o → h'.get? b = some o) → h'.get? e = some (PySem.HandSPX.excO C t1) → R (.ok (.ret .none)) ⟨h', g, d, t, os⟩) : codeAny (model prog w) Ar (.call (.builtin ini) ⟨.ref e :: us, []⟩) R ⟨h, g, d, t, os⟩ := by
  have hB := over_has (C := C) hT T.hasB
  refine codeAny_call_builtin T.plain T.entry ?_
  have e1 := T.star
  simp only [checkBuiltinCall, T.kind, T.split, T.row]
  repeat (first | with_reducible refine wpAny_loadPart_at he ?_ | with_reducible refine wpAny_loadPart_at hC ?_ | (with_reducible refine wpAny_isSubtype_exc hC ?_; rw [hB]) | wp_step)
  refine wpAny_onRaise ?_
  rw [show ∀ (a b : String) (n : Nat), Bind.check ⟨.positional, "*", B, .self, [⟨"args", .varPos, false⟩]⟩ a b n (List.map (fun x => x.fst) ({ pos := Value.ref e :: us } : Args).kw) = pure () from fun a b n => check_star_args _ _ _ _ _ _]
  refine wpAny_pure ?_
  wp_walk
  refine k _ h.objs.size (fun b o hb ho => ?_) ?_
  · rw [Heap.get?_update_other _ _ (Ne.symm hb)]
    exact Heap.get?_push_of_some _ ho
  · rw [Heap.get?_update_self _ (Heap.get?_push_of_some _ he) rfl]
    rfl
end
end V2
namespace V2
open PySem PySem.Spec PyProof.Rows L2
/-! ### own errors over any built-in one, whose making walks an __init__ that lays one field -/
section
open Builtin Builtin.ObjectAttr
variable {prog : Program} {w : World} {Ar : Around} {R : Result → Shared → Prop} {hp : Heap} {gs : Array GenState} {dr : Drawn} {n : Nat} {os : OsState}
/-- the first field of an error, whatever stands above its class: all that is asked of that is that no __setattr__ of it refuses, and that object is among it -/
theorem err_lay {K : PySem.W.Frag} {f : Str} {tk : Tok} {u : Value} {x C : Addr} {vs : Array Value} {cd : ClassData} (kin : K.In hp) (hx : hp.get? x = some { cls := .ref C, data := .fields vs })
    (ec : PySem.W.clsIn K C = some cd) (top : cd.mro.contains (.type "object") = true) (ps : ∀ v, refuseLoop v "__setattr__" cd.mro = pure ()) (has : cd.hasDict = true) (no : PySem.W.findIn K (.ref C) f = some none)
    (k : ∀ h2 t2 dx, (∀ b o, b ≠ x → hp.get? b = some o → h2.get? b = some o) → hp.objs.size ≤ dx → dx ≠ x → h2.get? x = some { cls := .ref C, dict := some dx, data := .fields vs } → h2.Ns1 dx (fun y => if y = f then some u else none) → R (.ok (.ret .none)) ⟨h2, gs, dr, t2, os⟩) :
    codeAny (model prog w) Ar (.call (.builtin "object.__setattr__") ⟨[.ref x, .str f tk, u], []⟩) R ⟨hp, gs, dr, n, os⟩ := by
  have inst : PySem.W.InstAt hp x { cls := .ref C, data := .fields vs } C none := ⟨hx, rfl, rfl, trivial⟩
  have so := PySem.F.store_object
  have full : cd.mro.isEmpty = false := by
    cases z : cd.mro with
    | nil => rw [z] at top; exact absurd top (by decide)
    | cons => rfl
  have nx : x ≠ hp.objs.size := Nat.ne_of_lt (Heap.lt_size hx)
  have isO : PySem.W.Looks (model prog w) hp (isInstance (.ref x) (.type "object")) true := inst.type.andThen (PySem.W.looks_mroIn kin (by unfold PySem.W.mroIn; rw [ec, Option.bind_some, if_neg (by rw [full]; decide), top]))
  refine codeAny_call_builtin so.slot.plain so.entry (@PySem.W.check_slot (model prog w) _ _ ⟨hp, gs, dr, n, os⟩ "object.__setattr__" "object" "__setattr__" (.ref x) [.str f tk, u] [] _ so.kind so.split isO (so.args (.ref x) (.str f tk) u) ?_)
  have lm : PySem.W.Looks (model prog w) hp (mroOf (.ref C)) cd.mro := (PySem.W.looks_clsIn kin ec).andThen .now
  have lt : PySem.W.Looks (model prog w) hp (storeTaker? none) none := .now
  have lc : PySem.W.Looks (model prog w) hp (classData C) cd := PySem.W.looks_clsIn kin ec
  rw [PySem.W.osa_eq, refuse_eq]
  refine wpAny_bind (wpAny_bind (inst.type.at (wpAny_bind (lm.at ?_))))
  rw [ps]
  refine wpAny_pure (wpAny_bind (inst.type.at (wpAny_bind ((PySem.W.looks_findIn kin no).at (wpAny_bind (lt.at ?_))))))
  show wpAny _ _ (storeInOwnDict (.ref x) (.ref C) (.str f tk) f u false) _ _ _
  obtain ⟨c1, c2, c3, c4, c5, c6, c7, c8, c9, c10, c11⟩ := cd
  dsimp only at has
  subst has
  unfold storeInOwnDict ownDictForStores
  repeat (first | with_reducible refine PySem.HandSPX.store_in_new ?_ ?_ | with_reducible refine wpAny_loadPart_at hx ?_ | with_reducible refine lc.at ?_ | wp_step)
  · exact ⟨_, #[], _, (Heap.get?_update_ne _ _ _ _ nx.symm).trans (Heap.get?_push_at rfl rfl), rfl, fun e he => absurd he (by simp), fun _ => rfl⟩
  · intro h2 t2 hn sb
    have hx' : (hp.push { cls := .type "dict", data := .dict #[] }).get? x = some { cls := .ref C, data := .fields vs } := Heap.get?_push_of_some _ hx
    refine k h2 t2 hp.objs.size (fun b o ne ho => ?_) (Nat.le_refl _) nx.symm ((sb.2 x nx).trans (Heap.get?_update_self _ hx' rfl)) hn
    exact (sb.2 b (Nat.ne_of_lt (Heap.lt_size ho))).trans ((Heap.get?_update_ne _ _ _ _ ne).trans (Heap.get?_push_of_some _ ho))
end
/-- what is written of such a class: it stands over B, whose making and __init__ are mk and ini, and above which up stands -/
structure ErrC (K : PySem.W.Frag) (C : Addr) (B mk ini : String) (up : List Value) : Prop where
  low : LowF B mk ini up
  cls : ∃ nm q N bs bm sn sub ab col dd k0 k1 k2 k3 k5, K.lookup C = some (excClassObj nm q C N bs bm true sn sub ab col dd k0 k1 k2 k3 k5 mk) ∧ (∀ Y : String, bm.contains (.type Y) = up.contains (.type Y)) ∧ ∀ v, refuseLoop v "__setattr__" bm = pure ()
  obj : up.contains (.type "object") = true
  sa : PySem.W.findIn K (.ref C) "__setattr__" = some (some (.builtin "object.__setattr__"))
  exC : PySem.W.subIn K (.ref C) (.type "BaseException") = some true
  tyC : PySem.W.typeIn K (.ref C) = some (.type "type")
  kC : PySem.W.keepIn K (.ref C) = true
section
variable {X : Cx} {pins : List (Addr × Obj)} {σ : L2.St} {H : Hp} {s : Shared} {a C : Addr} {f : Str} {y : V} {u : Value} {Q : Unit → Shared → Prop} {E : Value → Shared → Prop} {Ar : Around} {B mk ini : String} {up : List Value}
theorem err_store (T : ErrC X.K C B mk ini up) (I : Inv X pins σ H s) (e : H a = some (exo a C none)) (no : PySem.W.findIn X.K (.ref C) f = some none) (ry : RelV y u)
    (h : ∀ dx s', H dx = none → dx ≠ a → Inv X pins σ (upd (upd H dx (exd dx [(f, y)])) a (exo a C (some dx))) s' → Q () s') : wpAny (model X.prog X.w) Ar (setAttr (.ref a) f u) Q E s := by
  obtain ⟨nm, q, N, bs, bm, sn, sub, ab, col, dd, k0, k1, k2, k3, k5, hC, hT, hps⟩ := T.cls
  have ec : PySem.W.clsIn X.K C = some { name := nm, bases := bs, mro := .ref C :: bm, ns := N, qualname := q, hasDict := true, slotNames := sn, subclasses := sub, abstract := ab, collection := col, hasDel := false } := by unfold PySem.W.clsIn; rw [hC] <;> rfl
  obtain ⟨t1, ho⟩ := exo_at I.hok e
  obtain ⟨hp, gs, dr, n, os⟩ := s
  refine PySem.W.set_plain I.kIn (ox := { cls := .ref C, dict := none, data := .fields #[.ref t1, .none, .none, .none, .bool false, .none] }) (od := none) ⟨ho, rfl, rfl, trivial⟩ T.sa ?_
  refine err_lay I.kIn ho ec (by rw [List.contains_cons, hT, T.obj, Bool.or_true]) (fun v => by rw [refuseLoop_ref]; exact hps v) rfl no fun h2 t2 dx k dn ne hx hn => ?_
  have free : H dx = none := I.hok.fresh dn
  have notA : ∀ {b : Addr}, H b = none → b ≠ a := fun z c => by rw [c, e] at z; cases z
  have notD : ∀ {b : Addr} {o : Obj}, hp.get? b = some o → b ≠ dx := fun z => Nat.ne_of_lt (Nat.lt_of_lt_of_le (Heap.lt_size z) dn)
  have step : Un X.fs [] H (upd (upd H dx (exd dx [(f, y)])) a (exo a C (some dx))) hp h2 := {
    keep := fun b o z m _ _ => k b o (notA m) z
    slot := fun b o z m _ _ => ⟨o.slots, k b o (notA m) z⟩
    free := fun b o z m _ => (upd_ne (notA m)).trans ((upd_ne (notD z)).trans m)
    there := fun b o z _ => (Classical.em (b = a)).elim (fun c => ⟨_, c ▸ hx⟩) fun c => ⟨o, k b o c z⟩
    tups := fun b xs z => (upd_ne (at_ne e z exo_tup)).trans ((upd_ne (ne_of_none z free)).trans z)
    frzs := fun b o v z => (upd_ne (at_ne e z exo_frz)).trans ((upd_ne (ne_of_none z free)).trans z)
    tbls := fun b ps z => ⟨#[], by rw [upd_ne (at_ne e z exo_tbl), upd_ne (ne_of_none z free), z]; simp⟩ }
  refine h dx _ free ne (I.un (t' := t2) step fun b o z => ?_)
  by_cases ba : b = a
  · subst ba
    rw [upd_same] at z
    cases z
    exact exo_ok hx
  by_cases bd : b = dx
  · subst bd
    rw [upd_ne ba, upd_same] at z
    cases z
    exact exd_ok hn (relO_put (fs := []) ry fun _ => trivial)
  · rw [upd_ne ba, upd_ne bd] at z
    refine (I.hok b o z).stay (fun c v hc zz => k c v ?_ zz) (fun c hc => (upd_ne (at_ne e hc exo_own)).trans ((upd_ne (ne_of_none hc free)).trans hc)) fun c xs hc => (upd_ne (at_ne e hc exo_tup)).trans ((upd_ne (ne_of_none hc free)).trans hc)
    exact hc.elim (fun z => z ▸ ba) fun z => at_ne e z exo_own
/-- B.__init__(self, ..): nothing of it is told -/
theorem err_base {us : List Value} {Q : Value → Shared → Prop} (T : ErrC X.K C B mk ini up) (I : Inv X pins σ H s) (e : H a = some (exo a C none)) (few : us.length ≤ sizeLine) (h : ∀ s', Inv X pins σ H s' → Q .none s') :
    wpAny (model X.prog X.w) Ar (call (.builtin ini) (.ref a :: us)) Q E s := by
  obtain ⟨nm, q, N, bs, bm, sn, sub, ab, col, dd, k0, k1, k2, k3, k5, hC, hT, _⟩ := T.cls
  obtain ⟨t1, ho⟩ := exo_at I.hok e
  obtain ⟨hp, gs, dr, n, os⟩ := s
  refine wpAny_call (over_init T.low hT (I.kIn _ _ hC) ho few fun h2 t2 k hx => ?_)
  have same : upd H a (exo a C none) = H := funext fun b => by
    by_cases c : b = a
    · rw [c, upd_same, e]
    · exact upd_ne c
  exact h _ (same ▸ I.write (t' := n) (x := a) (e := a) (o := exo a C none) (by rw [e]; trivial) (.inl rfl) k ⟨_, hx⟩ (exo_ok hx))
end
end V2

namespace V2
open PySem PySem.Spec PyProof.Rows L2
/-- B.__init__(self, ..) over an error of the class at C that has no field yet -/
def tIni (C : Addr) (ta : TA) : TE := fun σ H Q => ta σ H fun vs H1 => ∃ a ws, vs = .ref a :: ws ∧ ws.length ≤ 1000 ∧ H1 a = some (exo a C none) ∧ Q .non H1
/-- self.f = e, its first field -/
def tLay (C : Addr) (f : Str) (to te : TE) : TS := fun D σ H => te σ H fun y H1 => to σ H1 fun x H2 => ∃ a, x = .ref a ∧ H2 a = some (exo a C none) ∧ ∀ dx, H2 dx = none → dx ≠ a → D.nx σ (upd (upd H2 dx (exd dx [(f, y)])) a (exo a C (some dx)))
/-- what such an __init__ does -/
def spLay (C : Addr) (f : Str) : Sp := fun vs H Q _ => ∃ a y, vs = [.ref a, y] ∧ H a = some (exo a C none) ∧ ∀ dx, H dx = none → dx ≠ a → Q .non (upd (upd H dx (exd dx [(f, y)])) a (exo a C (some dx)))
/-- C(e), of such an error: what is raised -/
def tErr (C : Addr) (f : Str) (te : TE) : L2.St → Hp → XK → Prop := fun σ H Q => te σ H fun y H1 => ∀ d, H1 d = none → Q (.ref C) (some d) (upd H1 d (.xd [(f, y)]))
section
variable {X : Cx} {o e : Expr} {es : List Expr} {to te : TE} {ta : TA} {f b : Str} {p p' p1 p2 pos : Pos} {C : Addr} {B mk ini : String} {up : List Value} {M : Str}
theorem ini_run {pins : List (Addr × Obj)} {s : Shared} {σ : L2.St} {H : Hp} {Q : VK} {E : Value → Shared → Prop} (T : ErrC X.K C B mk ini up) (ha : PA X (e :: es) ta) (I : Inv X pins σ H s) (h : tIni C ta σ H Q)
    (he : starEach (e :: es) X.env = (false, eval e X.env) :: starEach es X.env) (hpl : (backTo pos (starEach es X.env)).any (·.1) = false) (hE : E = X.xe) :
    wpAny (model X.prog X.w) X.A (callWith pos (Value.builtin ini) [] (backTo pos (starEach (e :: es) X.env)) []) (fun u s' => ∃ v H', Inv X pins σ H' s' ∧ RelV v u ∧ Q v H') E s := by
  subst hE
  refine PyProof.Rows.callWith_method1 (thn (ha.run pos pins _ σ H _ I h) fun us s1 ⟨vs, H1, I1, r1, a, ws, ev, hl, ea, q⟩ => ?_) he hpl
  subst ev
  cases r1 with
  | @cons _ u0 _ ur ra rw' =>
    obtain rfl : u0 = Value.ref a := ra
    have few : ur.length ≤ sizeLine := by
      rw [← Paired.length rw', sizeLine_eq]
      omega
    exact err_base T I1 ea few fun s' J => ⟨.non, H1, J, rfl, q⟩
/-- B a built-in class of errors -/
theorem pe_iniB {pl : Sem Bool} (T : ErrC X.K C B mk ini up) (hg : Gl X b) (hm : X.mg b = none) (bt : bootBuiltins b = some (.type B)) (n1 : b ≠ "__name__") (n2 : (b == ("__debug__" : Str)) = false) (ty : typeOf (.type B) = pure (.type "type")) (st : Manifest.isStub B = false)
    (fc : PySem.W.findCls X.K (.type B) (.type "type") "__init__" = some (.val (.builtin ini))) (hh : PySem.W.handedIn (.builtin ini) = true) (ha : PA X (e :: es) ta)
    (hc : eval (.Call (.Attribute (.Name b p1) "__init__" p2) (e :: es) [] pos) X.env = (eval (.Name b p1) X.env >>= fun u => standAt p2.atName >>= fun _ => holding [u] (getMethod u "__init__" pl) >>= fun q => callWith pos q.1 q.2 (backTo pos (starEach (e :: es) X.env)) (backToKw pos (keywordEach [] X.env))) := by rfl)
    (he : starEach (e :: es) X.env = (false, eval e X.env) :: starEach es X.env := by rfl) (hpl : (backTo pos (starEach es X.env)).any (·.1) = false := by rfl) :
    PE X (.Call (.Attribute (.Name b p1) "__init__" p2) (e :: es) [] pos) (tIni C ta) := ⟨fun pins s σ H Q I h => by
  refine PySem.W.methodCall_KW (ld_blt I hg hm bt ?_ n1 n2) hc
  obtain ⟨m, fr⟩ := I.fr
  exact PySem.W.method_type fr I.ok.mod.kin ty st fc hh (ini_run T ha (I.tok _) h he hpl rfl)⟩
/-- M an own class above, which has the __init__ of B -/
theorem pe_iniM {pl : Sem Bool} {CM : Addr} (T : ErrC X.K C B mk ini up) (hg : Gl X M) (hm : X.mg M = some (.ref CM)) (n2 : (M == ("__debug__" : Str)) = false) (hs : PySem.W.specialIn X.K (.ref CM) "__getattribute__" = some (some (.builtin "type.__getattribute__"))) (hr : PySem.W.readsIn X.K CM (.type "type") = true)
    (fc : PySem.W.findCls X.K (.ref CM) (.type "type") "__init__" = some (.val (.builtin ini))) (hh : PySem.W.handedIn (.builtin ini) = true) (ha : PA X (e :: es) ta)
    (hc : eval (.Call (.Attribute (.Name M p1) "__init__" p2) (e :: es) [] pos) X.env = (eval (.Name M p1) X.env >>= fun u => standAt p2.atName >>= fun _ => holding [u] (getMethod u "__init__" pl) >>= fun q => callWith pos q.1 q.2 (backTo pos (starEach (e :: es) X.env)) (backToKw pos (keywordEach [] X.env))) := by rfl)
    (he : starEach (e :: es) X.env = (false, eval e X.env) :: starEach es X.env := by rfl) (hpl : (backTo pos (starEach es X.env)).any (·.1) = false := by rfl) :
    PE X (.Call (.Attribute (.Name M p1) "__init__" p2) (e :: es) [] pos) (tIni C ta) := ⟨fun pins s σ H Q I h => by
  refine PySem.W.methodCall_KW (ld_glob I hg hm ?_ n2) hc
  exact PySem.W.method_cls I.kIn hs (PySem.W.cls_value I.kIn hr fc hh (ini_run T ha (I.tok _) h he hpl rfl))⟩
theorem ps_lay (T : ErrC X.K C B mk ini up) (no : PySem.W.findIn X.K (.ref C) f = some none) (ho : PE X o to) (he : PE X e te) (hs : swapsWith e (some (.Attribute o f p')) pos.line X.env = pure false := by rfl) : PS X (.Assign [.Attribute o f p'] e pos) (tLay C f to te) :=
  ⟨fun pins s σ H D I h => plainObj_wpAny_Assign_Attribute (thn (he.run pins s σ H _ I h) fun v s1 ⟨y, H1, I1, r1, q1⟩ => thn (ho.run pins s1 σ H1 _ I1 q1) fun u s2 ⟨x, H2, I2, r2, a, ex, ea, q⟩ => by
    subst ex
    obtain rfl : u = Value.ref a := r2
    exact err_store T I2 ea no r1 fun dx s' n ne J => ⟨σ, _, J, q dx n ne⟩) hs⟩
/-- .. and the whole of it -/
theorem lay_body {σ : L2.St} {N : List Str} {a : Addr} {y : V} {s : V} {H : Hp} {Q : VK} (e : H a = some (exo a C none)) (h : ∀ dx, H dx = none → dx ≠ a → Q .non (upd (upd H dx (exd dx [(f, y)])) a (exo a C (some dx)))) (h0 : σ[0]? = some (some (.ref a))) (h1 : σ[1]? = some (some y)) :
    tSeq (tDrop (tIni C (tCons (tVar 0) (tCons (tC s) tNil)))) (tLay C f (tVar 0) (tVar 1)) ⟨fun _ H' => Q .non H', Q, fun _ _ => False, fun _ _ => False⟩ σ H :=
  ⟨_, h0, a, [s], rfl, by show 1 ≤ 1000; decide, e, _, h1, _, h0, a, rfl, e, h⟩
end
end V2
namespace V2
open PySem PySem.Spec PyProof.Rows L2
section
variable {X : Cx} {e : Expr} {te : TE} {f : Str} {p pos : Pos} {C : Addr} {B mk ini : String} {up : List Value}
theorem laid_eq {H1 : Hp} {a d : Addr} {u : V} (n : H1 a = none) (nd : H1 d = none) (ne : d ≠ a) : upd (del (upd (upd (upd H1 a (exo a C none)) d (exd d [(f, u)])) a (exo a C (some d))) a) d (.xd [(f, u)]) = upd H1 d (.xd [(f, u)]) := funext fun b => by
  by_cases bd : b = d
  · rw [bd, upd_same, upd_same]
  · rw [upd_ne bd, upd_ne bd]
    by_cases ba : b = a
    · rw [ba, del_same, n]
    · rw [del_ne ba, upd_ne ba, upd_ne bd, upd_ne ba]
/-- C(e) in raise, C's __init__ laying its field -/
theorem pmk_err {CX : CXT} {x : Str} {fI : Addr} {k : Nat} {fd : FuncData} {ps : List Str} (T : ErrC X.K C B mk ini up) (iC : PySem.W.findIn X.K (.ref C) "__init__" = some (some (.ref fI))) (tI : PySem.W.typeIn X.K (.ref fI) = some (.type "function"))
    (F : FnOk X.prog X.w X.K X.mg X.base CX k fI fd ps (spLay C f)) (hr : Room (k + 1) X.A) (hb : Binds X.K fd ps []) (hx : Passes CX X (fun _ _ _ => False)) (hg : Gl X x) (hm : X.mg x = some (.ref C)) (pa : PA X [e] (tCons te tNil)) (n2 : (x == ("__debug__" : Str)) = false := by decide)
    (he : starEach [e] X.env = (false, eval e X.env) :: starEach [] X.env := by rfl) (hpl : (backTo pos (starEach [] X.env)).any (·.1) = false := by rfl) : PMk X (.Call (.Name x p) [e] [] pos) (tErr C f te) := by
  intro pins s σ H Q I h
  obtain ⟨nm, q, N, bs, bm, sn, sub, ab, col, dd, k0, k1, k2, k3, k5, hC, hT, _⟩ := T.cls
  refine wpAny_Call_Name_kw (ld_glob I hg hm ?_ n2)
  refine PySem.W.callWith_K (h₀ := X.base) I.ok.mod.kin T.kC (thn (pa.run pos pins s σ H (fun vs H1 => ∃ y, vs = [y] ∧ ∀ d, H1 d = none → Q (.ref C) (some d) (upd H1 d (.xd [(f, y)]))) I (show te σ H _ from ?_)) fun us s1 ⟨vs, H1, I1, r1, y, ev, q1⟩ => ⟨I1.kIn, ?_⟩) he hpl
  · exact (show (fun y H1 => ∀ d, H1 d = none → Q (.ref C) (some d) (upd H1 d (.xd [(f, y)]))) = (fun y H1 => ∃ z, [y] = [z] ∧ ∀ d, H1 d = none → Q (.ref C) (some d) (upd H1 d (.xd [(f, z)]))) from by
      funext y H1
      exact propext ⟨fun h => ⟨y, rfl, h⟩, fun ⟨z, e, h⟩ => by cases e; exact h⟩) ▸ h
  subst ev
  show wpAny _ _ (call (.ref C) us) _ _ _
  obtain ⟨hp, g, dr, tk, os⟩ := s1
  let m := hp.objs.size + 1
  have free : H1 m = none := I1.hok.fresh (Nat.le_succ _)
  have kk : ∀ b o, hp.get? b = some o → ((hp.push (PySem.W.kdv_tup us)).push (PySem.HandSPX.excO C hp.objs.size)).get? b = some o := fun b o e => Heap.get?_push_of_some _ (Heap.get?_push_of_some _ e)
  have got : ((hp.push (PySem.W.kdv_tup us)).push (PySem.HandSPX.excO C hp.objs.size)).get? (hp.objs.size + 1) = some (PySem.HandSPX.excO C hp.objs.size) := by heap_get
  have I2 : Inv X pins σ (upd H1 m (exo m C none)) ⟨(hp.push (PySem.W.kdv_tup us)).push (PySem.HandSPX.excO C hp.objs.size), g, dr, tk, os⟩ := I1.laid (t' := tk) (a := m) (o := exo m C none) kk (Nat.le_succ _) (exo_ok got)
  have r2 : Vals [V.ref m, y] (Value.ref m :: us ++ []) := by rw [List.append_nil]; exact Paired.cons (show RelV (.ref m) (.ref m) from rfl) r1
  have few : us.length ≤ sizeLine := by
    rw [← Paired.length r1]
    show 1 ≤ sizeLine
    decide
  have sp0 : spLay C f [V.ref m, y] (upd H1 m (exo m C none)) (fun v H2 => v = .non ∧ ∃ d, H1 d = none ∧ d ≠ m ∧ H2 = upd (upd (upd H1 m (exo m C none)) d (exd d [(f, y)])) m (exo m C (some d))) (fun _ _ _ => False) :=
    ⟨m, y, rfl, upd_same, fun dx nd ne => ⟨rfl, dx, by rw [upd_ne ne] at nd; exact nd, ne, rfl⟩⟩
  have len : (Value.ref m :: us ++ []).length = ps.length := r2.length.symm.trans (F.len _ _ _ _ sp0)
  refine wpAny_call (over_call T.low hT (I1.kIn _ _ hC) (PySem.W.looks_findIn I1.kIn iC) (fun self => PySem.W.bind_fn I1.kIn self tI) few
    (codeAny_mono (F.run _ X.stack _ _ ⟨Value.ref m :: us, []⟩ (Value.ref m :: us ++ []) _ _ (fun _ _ _ => False) (hr.make C us []) (I2.env0.make C us []) (hb _ (Value.ref m :: us) I2.kIn len) r2 sp0) fun r s' hq => ?_))
  cases r with
  | error er => exact hx pins σ _ _ er s' I2 hq
  | ok fl =>
    cases fl with
    | ret u =>
      obtain ⟨v, H2, os2, bare2, un2, hok2, rv, ev, d, nd, ne, e2⟩ := hq
      subst ev e2
      obtain ⟨h2, g2, d2, t2, os'⟩ := s'
      refine ⟨rv, mk_end (raises_own T.exC T.tyC) I1 (Nat.le_succ _) kk un2 hok2 os2 bare2 upd_same (by rw [upd_ne ne, upd_same]) nd ?_⟩
      rw [laid_eq free nd ne]
      exact q1 d nd
    | next => exact False.elim hq
    | brk => exact False.elim hq
    | cont => exact False.elim hq
end
end V2

set_option Elab.async false
set_option linter.all false
set_option maxRecDepth 100000
set_option maxHeartbeats 1000000
namespace V2
open PySem PySem.Spec PyProof.Rows L2
/-! ### promises about data that may raise an error of the class at Ce, with a field f -/
def WpF (K : PySem.W.Frag) (M : Addr → Prop) (E : XK) (C : Addr) (f : Str) (PX : PyData → Prop) : Hp → Prop := fun H => ∀ d v y, H d = none → Dt K (hid M H) v y → PX y → E (.ref C) (some d) (upd H d (.xd [(f, v)]))
def spE {γ : Type} (K : PySem.W.Frag) (Ce : Addr) (f : Str) (pre : γ → Wd → List A → Prop) (post : γ → A → Prop) (postX : γ → PyData → Prop) : Sp := fun us H Q E =>
  ∃ (g : γ) (W : Wd) (as : List A), W.J H ∧ pre g W as ∧ IsAll K W.M H us as ∧ (∀ v H' a, Fr W H H' → post g a → Is K W.M H' v a → Q v H') ∧ ∀ H', Fr W H H' → WpF K W.M E Ce f (postX g) H'
def BodyE {γ : Type} (K : PySem.W.Frag) (Ce : Addr) (f : Str) (N : List Str) (E : XK) (pre : γ → Wd → List A → Prop) (post : γ → A → Prop) (postX : γ → PyData → Prop) (t : TS) : Prop :=
  ∀ (g : γ) (W : Wd) (as : List A), pre g W as → YS K (SW.of W) () (WpF K W.M E Ce f (postX g)) (fun _ => True) t (startE N as) (fun _ _ => post g (.d .none)) (fun _ a => post g a) NoS NoS
section
variable {γ S : Type} {K : PySem.W.Frag} {Ce C : Addr} {f n : Str} {pre : γ → Wd → List A → Prop} {post : γ → A → Prop} {postX : γ → PyData → Prop} {Z : SW S} {s : S} {W : Wd} {Δ : Env} {ta : TA} {te : TE} {E : XK}
variable {Wp : Hp → Prop} {X : S → Prop} {N : S → Env → Prop} {Rt : S → A → Prop} {Bk Ct : S → Env → Prop}
theorem bodyE_run {L : List Str} {t : TS} (h : BodyE K Ce f L E pre post postX t) {us : List V} {H : Hp} {Q : VK} (p : spE K Ce f pre post postX us H Q E) : t ⟨fun _ H' => Q .non H', Q, fun _ _ => False, fun _ _ => False⟩ (L2.start L us) H := by
  obtain ⟨g, W, as, j, pr, i, q, qx⟩ := p
  exact h g W as pr _ H j (stOk_start i) (fun H' u f _ => qx H' f) _ (fun σ' H' u Δ' f _ ps => q _ H' _ f ps .non) (fun v H' u a f ps i' => q v H' a f ps i') (fun _ _ _ _ _ _ z => z.elim) fun _ _ _ _ _ _ z => z.elim
theorem spE_len {ps : List Str} (ar : ∀ g W as, pre g W as → as.length = ps.length) {us : List V} {H : Hp} {Q : VK} (p : spE K Ce f pre post postX us H Q E) : us.length = ps.length := by
  obtain ⟨g, W, as, j, pr, i, _⟩ := p
  rw [i.length]
  exact ar g W as pr
theorem okE {P : Program} {w : World} {mg : Str → Option Value} {base : Heap} {k : Nat} {fa : Addr} {fd : FuncData} {ps L : List Str} {x qual : Str} {st : Stmt} (F : Fun K x qual st fa fd) (S : FnScope L ps (defScope st)) (ar : ∀ g W as, pre g W as → as.length = ps.length)
    (body : ∀ (cdv : Value) (Ar : Around) (outer : List PySem.Env) (s : Shared) (H : Hp) (E : XK), Room k (Ar.deeper (envOfC qual (defScope st) s.heap.objs.size fa cdv)) →
      ∃ t, PSs (cxOf (CX P w) P w K mg base L qual (defScope st) fa cdv Ar outer s H E) (defBody st) t ∧ BodyE K Ce f L E pre post postX t) : FnOk P w K mg base (CX P w) (k + 1) fa fd ps (spE K Ce f pre post postX) :=
  F.okX S (fun us H Q E p => spE_len ar p) fun cdv Ar outer s H us Q E hr h => by
    obtain ⟨t, ht, hb⟩ := body cdv Ar outer s H E hr
    exact ⟨t, ht, bodyE_run hb h⟩
/-- raising such an error in a world that has grown out of one with M -/
theorem ys_raiseF {M : Addr → Prop} {PX : PyData → Prop} {kx : L2.St → Value → Option Addr → Hp → Prop} (hw : ∀ H, Wp H → WpF K M E C f PX H) (hX : X s) (le : ∀ a, M a → Z.M a) (hk : ∀ σ c d H, E c d H → kx σ c d H) (he : XE K (Z.at s) te Δ fun a => ∃ y, a = .d y ∧ PX y) :
    YS K Z s Wp X (fun _ σ H => tErr C f te σ H (kx σ)) Δ N Rt Bk Ct := fun σ H j st wx D _ _ _ _ =>
  he σ H j st _ fun v H1 a f1 ⟨y, e, px⟩ i d nd => by
    subst e
    refine hk _ _ _ _ (hw H1 (wx H1 s f1 hX) d v y nd ?_ px)
    refine Dt.ext (fun b o e => ?_) y v i
    by_cases m : Z.M b
    · have e' : hid Z.M H1 b = some o := e
      rw [hid_in m] at e'
      cases e'
    · have e' : hid Z.M H1 b = some o := e
      rw [hid_out m] at e'
      rw [hid_out fun z => m (le b z)]
      exact e'
/-- a call that does not raise here -/
theorem xe_callE (g : γ) {as : List A} (h : XAs K W ta Δ as) (p : pre g W as) (nx : ∀ y, ¬ postX g y) : XE K W (tCall (spE K Ce f pre post postX) [] E ta) Δ (post g) := fun σ H j st Q q =>
  h σ H j st _ fun us H1 as' f1 e i1 => by
    subst e
    rw [List.append_nil]
    exact ⟨g, W, as', f1.j, p, i1, fun v H' a f r i => q v H' a (f1.trans f) r i, fun H' f d v y _ _ px => absurd px (nx y)⟩
end
/-! ### try: return f(..) except C as e: suite -/
section
variable {γ : Type} {K : PySem.W.Frag} {Ce : Addr} {f n : Str} {pre : γ → Wd → List A → Prop} {post : γ → A → Prop} {postX : γ → PyData → Prop} {W : Wd} {Δ : Env} {ta : TA} {te : TE} {N : Env → Prop} {Rt : A → Prop} {Bk Ct : Env → Prop} {ts : Addr → Value → Option Addr → TS} {Wout : WX}
/-- what holds where an error's field stands at d -/
abbrev Wd.err (W : Wd) (d : Addr) (f : Str) (v : V) : Wd := W.add d (· = .xd [(f, v)])
theorem err_back {H H' : Hp} {d : Addr} {v : V} (n : H d = none) (g : Fr (W.err d f v) (upd H d (.xd [(f, v)])) H') : Fr W H H' :=
  ⟨fun a o nm e => g.keep a o (fun z => z.elim nm (ne_of_none e n)) (by rw [upd_ne (ne_of_none e n)]; exact e), g.j.1⟩
theorem xs_tryretE {i : Nat} (g : γ) {as : List A} (ha : XAs K W ta Δ as) (p : pre g W as) (ex : PySem.W.exmOne K (.ref Ce) (.ref Ce) = some true) (hn : ∀ a, post g a → Rt a)
    (hx : ∀ q d v y, postX g y → ¬ W.M d → XS K (W.err d f v) (ts q (.ref Ce) (some d)) (Δ.set i (some (.w (.ref q) [v] [y]))) (fun Δ' => N (Δ'.set i none)) Rt (fun Δ' => Bk (Δ'.set i none)) (fun Δ' => Ct (Δ'.set i none))) :
    XS K W (fun D σ H => tRet (tCall (spE K Ce f pre post postX) [] (WE (wAs K (.ref Ce) i ts Wout D) σ) ta) D σ H) Δ N Rt Bk Ct := fun σ H j st D nx rt bk ct =>
  ha σ H j st _ fun us H1 as' f1 e i1 => by
    subst e
    rw [List.append_nil]
    refine ⟨g, W, as', f1.j, p, i1, fun v H' a f r i => rt v H' a (f1.trans f) (hn a r) i, fun H2 f2 d v y nd dv px => ?_⟩
    refine ⟨true, ex, fun _ q hq => ?_, fun z => nomatch z⟩
    have f12 := f1.trans f2
    have md : ¬ W.M d := W.fresh f2.j nd
    have jj : (W.err d f v).J (upd H2 d (.xd [(f, v)])) := ⟨W.loc H2 _ (fun a m => upd_ne fun z => md (z ▸ m)) f2.j, _, upd_same, rfl⟩
    have st2 : StOk K (W.err d f v).M (upd H2 d (.xd [(f, v)])) σ Δ := StOk.add f2.j (st.fr f12) nd
    have iv : Is K (W.err d f v).M (upd H2 d (.xd [(f, v)])) (.ref q) (.w (.ref q) [v] [y]) := ⟨rfl, .cons (Is.add (a := .d y) (φ := (· = .xd [(f, v)])) dv nd) .nil⟩
    exact hx q d v y px md _ _ jj (st2.set i iv) _ (fun σ' H' Δ' g s' z => nx _ H' _ (f12.trans (err_back nd g)) ((s'.ext hid_add_le).unset i none) z) (fun v' H' a g r i => rt v' H' a (f12.trans (err_back nd g)) r (i.ext hid_add_le))
      (fun σ' H' Δ' g s' z => bk _ H' _ (f12.trans (err_back nd g)) ((s'.ext hid_add_le).unset i none) z) fun σ' H' Δ' g s' z => ct _ H' _ (f12.trans (err_back nd g)) ((s'.ext hid_add_le).unset i none) z
/-- e.f -/
theorem xe_xf {q d : Addr} {v : V} {y : PyData} (hv : XV K (W.err d f v) te Δ (.w (.ref q) [v] [y])) : XV K (W.err d f v) (tXf q (.ref Ce) (some d) Ce f te) Δ (.d y) := fun σ H j st Q k =>
  hv σ H j st _ fun u H1 a f1 e i1 => by
    subst e
    obtain ⟨e, dd⟩ := i1
    subst e
    obtain ⟨u, hu, eu⟩ := f1.j.2
    subst eu
    cases dd with
    | cons d1 d2 => exact ⟨rfl, rfl, d, _, v, rfl, hu, by simp [List.lookup], k v H1 _ f1 rfl d1⟩
/-- isinstance(e, c) -/
theorem cx_isEw {D q : Addr} {vs : List V} {ds : List PyData} {c : V} {cv : Value} {b : Bool} (hc : ∀ u, RelV c u → u = cv) (hk : PySem.W.kitOne K (.ref D) cv = some b) : CX1 K W (rIsE K D q) [.w (.ref q) vs ds, .v c] (· = .d (.bool b)) := fun us H j i Q k => by
  cases i with
  | cons i1 i2 =>
    cases i2 with
    | cons i2 i3 =>
      cases i3
      obtain ⟨e1, _⟩ := i1
      have e2 : _ = c := i2
      subst e1 e2
      exact ⟨_, cv, b, rfl, hc, hk, k _ H _ (.refl j) rfl (.bl b)⟩
end
end V2

set_option Elab.async false
set_option linter.all false
set_option maxRecDepth 100000
set_option maxHeartbeats 2000000
namespace V2
open PySem PySem.Spec PyProof.Rows L2
/-! ### a list of one's own, and one of lists of one's own, that a loop grows -/
inductive NestD (K : PySem.W.Frag) (M : Addr → Prop) (H : Hp) : List (Addr × List V) → List (List PyData) → Prop
  | nil : NestD K M H [] []
  | cons {x rs e es} : DtAll K (hid M H) x.2 e → NestD K M H rs es → NestD K M H (x :: rs) (e :: es)
section
variable {K : PySem.W.Frag} {M M' : Addr → Prop} {H H' : Hp}
theorem NestD.ext (s : Same (hid M H) (hid M' H')) : ∀ {rs es}, NestD K M H rs es → NestD K M' H' rs es
  | _, _, .nil => .nil
  | _, _, .cons h t => .cons (DtAll.ext s _ _ h) (t.ext s)
theorem NestD.snoc {x : Addr × List V} {e : List PyData} (h : DtAll K (hid M H) x.2 e) : ∀ {rs es}, NestD K M H rs es → NestD K M H (rs ++ [x]) (es ++ [e])
  | _, _, .nil => .cons h .nil
  | _, _, .cons a t => .cons a (t.snoc h)
theorem NestD.last {e : List PyData} : ∀ {es rs}, NestD K M H rs (es ++ [e]) → ∃ rs' x, rs = rs' ++ [x] ∧ NestD K M H rs' es ∧ DtAll K (hid M H) x.2 e
  | [], _, .cons h .nil => ⟨[], _, rfl, .nil, h⟩
  | _ :: es, _, .cons h t => by
    obtain ⟨rs', x, e, n, d⟩ := NestD.last (es := es) t
    exact ⟨_ :: rs', x, by rw [e]; rfl, .cons h n, d⟩
theorem NestD.length : ∀ {rs es}, NestD K M H rs es → rs.length = es.length
  | _, _, .nil => rfl
  | _, _, .cons _ t => congrArg (· + 1) t.length
theorem NestD.lists {H2 : Hp} (s : Same (hid M H) H2) : ∀ {rs es}, (∀ x ∈ rs, H2 x.1 = some (.lst x.2)) → NestD K M H rs es → DtAll K H2 (rs.map fun x => V.ref x.1) (es.map PyData.list)
  | _, _, _, .nil => .nil
  | _, _, h, .cons d t => .cons (.lst (h _ List.mem_cons_self) (DtAll.ext s _ _ d)) (t.lists s fun x m => h x (List.mem_cons_of_mem _ m))
end
/-- what may not change but by the loop's own deeds -/
def nestM (W : Wd) (p q : Addr) (rs : List (Addr × List V)) : Addr → Prop := fun a => W.M a ∨ a = p ∨ a = q ∨ a ∈ rs.map (·.1)
def nestW (W : Wd) (p q : Addr) (vs : List V) (rs : List (Addr × List V)) : Wd where
  M := nestM W p q rs
  J H := W.J H ∧ H p = some (.lst vs) ∧ H q = some (.lst (rs.map fun x => V.ref x.1)) ∧ ∀ x ∈ rs, H x.1 = some (.lst x.2)
  live H a j m := by
    rcases m with m | rfl | rfl | m
    · exact W.live H a j.1 m
    · rw [j.2.1]; nofun
    · rw [j.2.2.1]; nofun
    · obtain ⟨x, hx, rfl⟩ := List.mem_map.mp m
      rw [j.2.2.2 x hx]; nofun
  loc H H' e j := ⟨W.loc H H' (fun a m => e a (.inl m)) j.1, (e p (.inr (.inl rfl))).trans j.2.1, (e q (.inr (.inr (.inl rfl)))).trans j.2.2.1, fun x hx => (e x.1 (.inr (.inr (.inr (List.mem_map.mpr ⟨x, hx, rfl⟩))))).trans (j.2.2.2 x hx)⟩
structure Nest (K : PySem.W.Frag) (W : Wd) (kp kq : Nat) (H0 H : Hp) (σ : L2.St) (Δ : Env) (ds : List PyData) (es : List (List PyData)) : Prop where
  fr : Fr W H0 H
  it : ∃ p q vs rs, H0 p = none ∧ H0 q = none ∧ (∀ x ∈ rs, H0 x.1 = none) ∧ (p :: q :: rs.map (·.1)).Nodup ∧ (nestW W p q vs rs).J H ∧ ¬ W.M p ∧ ¬ W.M q ∧ (∀ x ∈ rs, ¬ W.M x.1) ∧
    DtAll K (hid (nestM W p q rs) H) vs ds ∧ NestD K (nestM W p q rs) H rs es ∧ σ[kp]? = some (some (.ref p)) ∧ σ[kq]? = some (some (.ref q)) ∧ StOk K (nestM W p q rs) H σ Δ
section
variable {K : PySem.W.Frag} {W : Wd} {kp kq : Nat} {H0 H H' : Hp} {σ : L2.St} {Δ : Env} {ds : List PyData} {es : List (List PyData)} {D : Ends} {te : TE} {tt : TT} {ts tu tb : TS}
theorem nest_later {p q : Addr} {vs : List V} {rs : List (Addr × List V)} (fr : Fr W H0 H) (n0 : H0 p = none) (n1 : H0 q = none) (n2 : ∀ x ∈ rs, H0 x.1 = none) (f : Fr (nestW W p q vs rs) H H') : Fr W H0 H' :=
  ⟨fun a o nm e => f.keep a o (fun z => by
    rcases z with z | z | z | z
    · exact nm z
    · rw [z, n0] at e; cases e
    · rw [z, n1] at e; cases e
    · obtain ⟨x, hx, rfl⟩ := List.mem_map.mp z
      rw [n2 x hx] at e; cases e) (fr.keep a o nm e), f.j.1⟩
/-- lead, ends = [], [] -/
theorem nest_start (ne : kp ≠ kq) (f0 : Fr W H0 H) (s : StOk K W.M H σ Δ) (lp : kp < σ.length) (lq : kq < σ.length)
    (q : ∀ u v H', Nest K W kp kq H0 H' ((σ.set kp (some u)).set kq (some v)) ((Δ.set kp none).set kq none) [] [] → D.nx ((σ.set kp (some u)).set kq (some v)) H') : tPar kp kq (tCons (tLst tNil) (tCons (tLst tNil) tNil)) D σ H := by
  refine ⟨by decide, fun p np => ⟨by decide, fun b nb => ⟨_, _, rfl, ?_⟩⟩⟩
  have back : ∀ {a : Addr}, H a = none → H0 a = none := fun {a} n => by
    cases z : H0 a with
    | none => rfl
    | some o =>
      rw [f0.keep a o (W.fresh f0.j n) z] at n
      cases n
  have nbp : b ≠ p := fun z => by rw [z, upd_same] at nb; cases nb
  have nb' : H b = none := by rw [upd_ne nbp] at nb; exact nb
  have fa : Fr W H (upd H p (.lst [])) := .new f0.j np
  have fb : Fr W (upd H p (.lst [])) (upd (upd H p (.lst [])) b (.lst [])) := .new fa.j nb
  have e1 : (upd (upd H p (.lst [])) b (.lst [])) p = some (.lst []) := by rw [upd_ne nbp.symm, upd_same]
  refine q _ _ _ ⟨f0.trans (fa.trans fb), p, b, [], [], back np, back nb', (fun x h => nomatch h), by simp [nbp.symm], ⟨fb.j, e1, upd_same, fun x h => nomatch h⟩, W.fresh f0.j np, W.fresh f0.j nb', (fun x h => nomatch h), .nil, .nil, ?_, ?_, ?_⟩
  · rw [List.getElem?_set_ne ne.symm, List.getElem?_set_self lp]
  · rw [List.getElem?_set_self (by rw [List.length_set]; exact lq)]
  · refine StOk.unset (StOk.unset (s.ext fun a o e => ?_) kp _) kq _
    by_cases m : W.M a
    · rw [hid_in m] at e; cases e
    · rw [hid_out m] at e
      have n1 : a ≠ p := ne_of_none e np
      have n2 : a ≠ b := ne_of_none e nb'
      rw [hid_out (show ¬ nestM W p b [] a from fun z => by rcases z with z | z | z | z <;> first | exact m z | exact n1 z | exact n2 z | exact nomatch z), upd_ne n2, upd_ne n1]
      exact e
/-- a test -/
theorem nest_if {B : Bool → Prop} (h : Nest K W kp kq H0 H σ Δ ds es) (ht : ∀ p q vs rs, XT K (nestW W p q vs rs) tt Δ B) (h1 : ∀ H', B true → Nest K W kp kq H0 H' σ Δ ds es → ts D σ H') (h2 : ∀ H', B false → Nest K W kp kq H0 H' σ Δ ds es → tu D σ H') : tIfS tt ts tu D σ H := by
  obtain ⟨p, q, vs, rs, n0, n1, n2, nd, j, mp, mq, mr, dd, de, sp, sq, st⟩ := h.it
  refine ht p q vs rs σ H j st _ fun b H1 f hb => ?_
  have o : Nest K W kp kq H0 H1 σ Δ ds es := ⟨nest_later h.fr n0 n1 n2 f, p, q, vs, rs, n0, n1, n2, nd, f.j, mp, mq, mr, DtAll.ext f.same _ _ dd, de.ext (M := nestM W p q rs) (M' := nestM W p q rs) f.same, sp, sq, st.ext (M := nestM W p q rs) (M' := nestM W p q rs) f.same⟩
  cases b with
  | true => exact iteT (h1 H1 hb o)
  | false => exact iteF (h2 H1 hb o)
/-- if ends -/
theorem nest_any (h : Nest K W kp kq H0 H σ Δ ds es) (h1 : es ≠ [] → ts D σ H) (h2 : es = [] → tu D σ H) : tIfS (fun σ H Q => tVar kq σ H fun x H' => ∃ k, TruV K x H' k ∧ Q k H') ts tu D σ H := by
  obtain ⟨p, q, vs, rs, n0, n1, n2, nd, j, mp, mq, mr, dd, de, sp, sq, st⟩ := h.it
  refine ⟨_, sq, _, .inl ⟨_, .inl (.inl j.2.2.1), rfl⟩, ?_⟩
  cases de with
  | nil => exact iteF (h2 rfl)
  | cons a b => exact iteT (h1 (by nofun))
/-- lead.append(e) -/
theorem nest_lead {d : PyData} (h : Nest K W kp kq H0 H σ Δ ds es) (small : ds.length ≤ 100000) (he : ∀ p q vs rs, XV K (nestW W p q vs rs) te Δ (.d d)) (q : ∀ H', Nest K W kp kq H0 H' σ Δ (ds ++ [d]) es → D.nx σ H') :
    tDrop (tBM K "list" rAppend (tVar kp) (tCons te tNil)) D σ H := by
  obtain ⟨p, b, vs, rs, n0, n1, n2, nd, j, mp, mq, mr, dd, de, sp, sq, st⟩ := h.it
  refine ⟨_, sp, .inl ⟨rfl, _, .inl (.inl j.2.1)⟩, he p b vs rs σ H j st _ fun v H1 a f e i => ?_⟩
  subst e
  have fr1 := nest_later h.fr n0 n1 n2 f
  have np : p ≠ b ∧ p ∉ rs.map (·.1) := by
    have := List.nodup_cons.mp nd
    exact ⟨fun z => this.1 (by rw [z]; exact List.mem_cons_self), fun z => this.1 (List.mem_cons_of_mem _ z)⟩
  have sm : Same (hid (nestM W p b rs) H1) (hid (nestM W p b rs) (upd H1 p (.lst (vs ++ [v])))) := fun a o e => by
    by_cases m : nestM W p b rs a
    · rw [hid_in m] at e; cases e
    · rw [hid_out m] at e ⊢
      rw [upd_ne fun z => m (.inr (.inl z))]
      exact e
  refine ⟨p, vs, v, rfl, rfl, f.j.2.1, Nat.lt_of_le_of_lt (by rw [dd.length]; exact small) (by decide), q _ ⟨⟨fun a o nm e => ?_, W.loc H1 _ (fun a ma => upd_ne fun z : a = p => mp (z ▸ ma)) f.j.1⟩, p, b, vs ++ [v], rs, n0, n1, n2, nd, ⟨W.loc H1 _ (fun a ma => upd_ne fun z : a = p => mp (z ▸ ma)) f.j.1, upd_same, by rw [upd_ne np.1.symm]; exact f.j.2.2.1, fun x hx => by rw [upd_ne fun z : x.1 = p => np.2 (z ▸ List.mem_map.mpr ⟨x, hx, rfl⟩)]; exact f.j.2.2.2 x hx⟩, mp, mq, mr, ?_, ?_, sp, sq, ?_⟩⟩
  · rw [upd_ne (ne_of_none e n0)]
    exact fr1.keep a o nm e
  · exact DtAll.append (DtAll.ext sm _ _ (DtAll.ext f.same _ _ dd)) (.cons (Dt.ext sm _ _ i) .nil)
  · exact (de.ext (M := nestM W p b rs) (M' := nestM W p b rs) f.same).ext sm
  · exact (st.ext (M := nestM W p b rs) (M' := nestM W p b rs) f.same).ext sm
/-- ends.append([]) -/
theorem nest_new (h : Nest K W kp kq H0 H σ Δ ds es) (small : es.length ≤ 100000) (q : ∀ H', Nest K W kp kq H0 H' σ Δ ds (es ++ [[]]) → D.nx σ H') :
    tDrop (tBM K "list" rAppend (tVar kq) (tCons (tLst tNil) tNil)) D σ H := by
  obtain ⟨p, b, vs, rs, n0, n1, n2, nd, j, mp, mq, mr, dd, de, sp, sq, st⟩ := h.it
  refine ⟨_, sq, .inl ⟨rfl, _, .inl (.inl j.2.2.1)⟩, by decide, fun r nr => ?_⟩
  have nW : ¬ W.M r := W.fresh h.fr.j nr
  have n0r : H0 r = none := by
    cases z : H0 r with
    | none => rfl
    | some o =>
      rw [h.fr.keep r o nW z] at nr
      cases nr
  have rp : p ≠ r := ne_of_none j.2.1 nr
  have rb : b ≠ r := ne_of_none j.2.2.1 nr
  have rr : ∀ x ∈ rs, x.1 ≠ r := fun x hx => ne_of_none (j.2.2.2 x hx) nr
  have nd1 := List.nodup_cons.mp nd
  have nd2 := List.nodup_cons.mp nd1.2
  have pb : p ≠ b := fun z => nd1.1 (by rw [z]; exact List.mem_cons_self)
  have bx : ∀ x ∈ rs, x.1 ≠ b := fun x hx z => nd2.1 (z ▸ List.mem_map.mpr ⟨x, hx, rfl⟩)
  let H2 := upd (upd H r (.lst [])) b (.lst (rs.map (fun x => V.ref x.1) ++ [.ref r]))
  have jW : W.J H2 := W.loc H _ (fun a ma => (upd_ne fun z : a = b => mq (z ▸ ma)).trans (upd_ne fun z : a = r => nW (z ▸ ma))) h.fr.j
  have sm : Same (hid (nestM W p b rs) H) (hid (nestM W p b (rs ++ [(r, [])])) H2) := fun a o e => by
    by_cases m : nestM W p b rs a
    · rw [hid_in m] at e; cases e
    · rw [hid_out m] at e
      have ar : a ≠ r := ne_of_none e nr
      rw [hid_out (show ¬ nestM W p b (rs ++ [(r, [])]) a from fun z => by
        rcases z with z | z | z | z
        · exact m (.inl z)
        · exact m (.inr (.inl z))
        · exact m (.inr (.inr (.inl z)))
        · rw [List.map_append, List.mem_append] at z
          rcases z with z | z
          · exact m (.inr (.inr (.inr z)))
          · exact ar (by simpa using z))]
      show upd (upd H r _) b _ a = _
      rw [upd_ne fun z => m (.inr (.inr (.inl z))), upd_ne ar]
      exact e
  refine ⟨b, _, .ref r, rfl, rfl, (by rw [upd_ne rb]; exact j.2.2.1), Nat.lt_of_le_of_lt (by rw [List.length_map, de.length]; exact small) (by decide), q _ ⟨⟨fun a o nm e => ?_, jW⟩, p, b, vs, rs ++ [(r, [])], n0, n1, ?_, ?_, ⟨jW, ?_, ?_, ?_⟩, mp, mq, ?_, DtAll.ext sm _ _ dd, (de.ext sm).snoc .nil, sp, sq, st.ext sm⟩⟩
  · rw [upd_ne (ne_of_none e n1), upd_ne (ne_of_none e n0r)]
    exact h.fr.keep a o nm e
  · intro x hx
    rcases List.mem_append.mp hx with hx | hx
    · exact n2 x hx
    · obtain rfl : x = (r, []) := by simpa using hx
      exact n0r
  · rw [List.map_append]
    refine List.nodup_cons.mpr ⟨?_, List.nodup_cons.mpr ⟨?_, ?_⟩⟩
    · intro z
      rcases List.mem_cons.mp z with z | z
      · exact pb z
      · rcases List.mem_append.mp z with z | z
        · exact nd1.1 (List.mem_cons_of_mem _ z)
        · exact rp (by simpa using z)
    · intro z
      rcases List.mem_append.mp z with z | z
      · exact nd2.1 z
      · exact rb (by simpa using z)
    · refine List.nodup_append.mpr ⟨nd2.2, by simp, fun a ha c hc => ?_⟩
      obtain ⟨x, hx, rfl⟩ := List.mem_map.mp ha
      have : c = r := by simpa using hc
      rw [this]
      exact rr x hx
  · show upd (upd H r _) b _ p = _
    rw [upd_ne pb, upd_ne rp]
    exact j.2.1
  · show upd (upd H r _) b _ b = _
    rw [upd_same, List.map_append]
    rfl
  · intro x hx
    show upd (upd H r _) b _ x.1 = _
    rcases List.mem_append.mp hx with hx | hx
    · rw [upd_ne (bx x hx), upd_ne (rr x hx)]
      exact j.2.2.2 x hx
    · obtain rfl : x = (r, []) := by simpa using hx
      rw [upd_ne rb.symm, upd_same]
  · intro x hx
    rcases List.mem_append.mp hx with hx | hx
    · exact mr x hx
    · obtain rfl : x = (r, []) := by simpa using hx
      exact nW
/-- ends[-1].append(e) -/
theorem nest_in {e0 : List PyData} {d : PyData} (h : Nest K W kp kq H0 H σ Δ ds (es ++ [e0])) (small : e0.length ≤ 100000) (he : ∀ p q vs rs, XV K (nestW W p q vs rs) te Δ (.d d)) (q : ∀ H', Nest K W kp kq H0 H' σ Δ ds (es ++ [e0 ++ [d]]) → D.nx σ H') :
    tDrop (tBM K "list" rAppend (tOp (rIxL K) (tVar kq) (tUn rNegI (tC (.int 1)))) (tCons te tNil)) D σ H := by
  obtain ⟨p, b, vs, rs0, n0, n1, n2, nd, j, mp, mq, mr, dd, de, sp, sq, st⟩ := h.it
  obtain ⟨rs, x, rfl, de, dx⟩ := de.last
  have hx : x ∈ rs ++ [x] := List.mem_append.mpr (.inr List.mem_cons_self)
  refine ⟨_, sq, 1, rfl, _, _, _, .ref x.1, rfl, rfl, .inl (.inl j.2.2.1), by rw [List.map_append]; exact atI_last _ _, .inl ⟨rfl, _, .inl (.inl (j.2.2.2 x hx))⟩, he p b vs _ σ H j st _ fun v H1 a f e i => ?_⟩
  subst e
  have fr1 := nest_later h.fr n0 n1 n2 f
  have nd1 := List.nodup_cons.mp nd
  have nd2 := List.nodup_cons.mp nd1.2
  have xin : x.1 ∈ (rs ++ [x]).map (·.1) := List.mem_map.mpr ⟨x, hx, rfl⟩
  have xp : p ≠ x.1 := fun z => nd1.1 (List.mem_cons_of_mem _ (z ▸ xin))
  have xb : b ≠ x.1 := fun z => nd2.1 (z ▸ xin)
  have xr : ∀ y ∈ rs, y.1 ≠ x.1 := fun y hy z => by
    have := nd2.2
    rw [List.map_append] at this
    exact (List.nodup_append.mp this).2.2 y.1 (List.mem_map.mpr ⟨y, hy, rfl⟩) x.1 (by simp) z
  have names : (rs ++ [(x.1, x.2 ++ [v])]).map (·.1) = (rs ++ [x]).map (·.1) := by simp
  have refs : (rs ++ [(x.1, x.2 ++ [v])]).map (fun y => V.ref y.1) = (rs ++ [x]).map (fun y => V.ref y.1) := by simp
  have mm : nestM W p b (rs ++ [(x.1, x.2 ++ [v])]) = nestM W p b (rs ++ [x]) := by unfold nestM; rw [names]
  have jW : W.J (upd H1 x.1 (.lst (x.2 ++ [v]))) := W.loc H1 _ (fun a ma => upd_ne fun z : a = x.1 => mr x hx (z ▸ ma)) f.j.1
  have sm : Same (hid (nestM W p b (rs ++ [x])) H1) (hid (nestM W p b (rs ++ [x])) (upd H1 x.1 (.lst (x.2 ++ [v])))) := fun a o e => by
    by_cases m : nestM W p b (rs ++ [x]) a
    · rw [hid_in m] at e; cases e
    · rw [hid_out m] at e ⊢
      rw [upd_ne fun z : a = x.1 => m (.inr (.inr (.inr (by rw [z]; exact xin))))]
      exact e
  have smf : Same (hid (nestM W p b (rs ++ [x])) H) (hid (nestM W p b (rs ++ [x])) H1) := f.same
  refine ⟨x.1, x.2, v, rfl, rfl, f.j.2.2.2 x hx, Nat.lt_of_le_of_lt (by rw [dx.length]; exact small) (by decide), q _ ⟨⟨fun a o nm e => ?_, jW⟩, p, b, vs, rs ++ [(x.1, x.2 ++ [v])], n0, n1, ?_, by rw [names]; exact nd, ⟨jW, ?_, ?_, ?_⟩, mp, mq, ?_, ?_, ?_, sp, sq, ?_⟩⟩
  · rw [upd_ne (ne_of_none e (n2 x hx))]
    exact fr1.keep a o nm e
  · intro y hy
    rcases List.mem_append.mp hy with hy | hy
    · exact n2 y (List.mem_append.mpr (.inl hy))
    · obtain rfl : y = (x.1, x.2 ++ [v]) := by simpa using hy
      exact n2 x hx
  · rw [upd_ne xp]
    exact f.j.2.1
  · rw [upd_ne xb, refs]
    exact f.j.2.2.1
  · intro y hy
    rcases List.mem_append.mp hy with hy | hy
    · rw [upd_ne (xr y hy)]
      exact f.j.2.2.2 y (List.mem_append.mpr (.inl hy))
    · obtain rfl : y = (x.1, x.2 ++ [v]) := by simpa using hy
      exact upd_same
  · intro y hy
    rcases List.mem_append.mp hy with hy | hy
    · exact mr y (List.mem_append.mpr (.inl hy))
    · obtain rfl : y = (x.1, x.2 ++ [v]) := by simpa using hy
      exact mr x hx
  · rw [mm]
    exact DtAll.ext sm _ _ (DtAll.ext smf _ _ dd)
  · rw [mm]
    exact ((de.ext smf).ext sm).snoc (DtAll.append (DtAll.ext sm _ _ (DtAll.ext smf _ _ dx)) (.cons (Dt.ext sm _ _ i) .nil))
  · rw [mm]
    exact (st.ext smf).ext sm
/-- for x in a tuple that stood ahead of them -/
theorem nest_tup {i j : Nat} {xs : List PyData} {a : Addr} {vs : List V} (o : Nest K W kp kq H0 H σ Δ ds es) (ip : i ≠ kp) (iq : i ≠ kq) (hj : σ[j]? = some (some (.ref a))) (ha : SqT K (hid W.M H0) a vs) (da : DtAll K (hid W.M H0) vs xs)
    (Inv : Nat → Env → List PyData → List (List PyData) → Prop) (h0 : Inv 0 Δ ds es)
    (hs : ∀ (m : Nat) (x : PyData) (v : V) (σ1 : L2.St) (H1 : Hp) (Δ1 : Env) (ds1 : List PyData) (es1 : List (List PyData)), xs[m]? = some x → Inv m Δ1 ds1 es1 → Nest K W kp kq H0 H1 (σ1.set i (some v)) (Δ1.set i (some (.d x))) ds1 es1 →
      ∀ N : L2.St → Hp → Prop, (∀ σ2 H2 Δ2 ds2 es2, Nest K W kp kq H0 H2 σ2 Δ2 ds2 es2 → Inv (m + 1) Δ2 ds2 es2 → N σ2 H2) → tb { D with nx := N, ct := N, bk := D.nx } (σ1.set i (some v)) H1)
    (hd : ∀ (σ1 : L2.St) (H1 : Hp) (Δ1 : Env) (ds1 : List PyData) (es1 : List (List PyData)), Nest K W kp kq H0 H1 σ1 Δ1 ds1 es1 → Inv xs.length Δ1 ds1 es1 → D.nx σ1 H1) : tFor (iTup K (tVar j)) (gName i) tb D σ H := by
  have ga : ∀ H2, Fr W H0 H2 → SqT K H2 a vs := fun H2 f => sqT_same hid_le (sqT_same f.same ha)
  refine ⟨.ref a, hj, a, rfl, ⟨vs, ga H o.fr⟩, for_tup (xs := vs) (fun m σ2 H2 => ∃ Δ2 ds2 es2, Nest K W kp kq H0 H2 σ2 Δ2 ds2 es2 ∧ Inv m Δ2 ds2 es2) ⟨Δ, ds, es, o, h0⟩ (fun m σ2 H2 _ ⟨Δ2, ds2, es2, o2, _⟩ => ga H2 o2.fr) ?_ ?_⟩
  · rintro m v σ2 H2 hv ⟨Δ2, ds2, es2, o2, v2⟩
    have l : m < xs.length := by
      rw [← da.length]
      exact (List.getElem?_eq_some_iff.mp hv).1
    obtain ⟨v', hv', dv⟩ := da.get (List.getElem?_eq_getElem l)
    rw [hv] at hv'
    cases hv'
    obtain ⟨p, q, us, rs, n0, n1, n2, nd, jj, mp, mq, mr, dd, de, sp, sq, st⟩ := o2.it
    have sm : Same (hid W.M H0) (hid (nestM W p q rs) H2) := fun b o e => by
      by_cases m : W.M b
      · rw [hid_in m] at e; cases e
      · rw [hid_out m] at e
        rw [hid_out (show ¬ nestM W p q rs b from fun z => by
          rcases z with z | z | z | z
          · exact m z
          · rw [z, n0] at e; cases e
          · rw [z, n1] at e; cases e
          · obtain ⟨x, hx, rfl⟩ := List.mem_map.mp z
            rw [n2 x hx] at e; cases e)]
        exact o2.fr.keep b o m e
    have iv : Is K (nestM W p q rs) H2 v (.d xs[m]) := Dt.ext sm _ _ dv
    exact hs m xs[m] v σ2 H2 Δ2 ds2 es2 (List.getElem?_eq_getElem l) v2 ⟨o2.fr, p, q, us, rs, n0, n1, n2, nd, jj, mp, mq, mr, dd, de, by rw [List.getElem?_set_ne ip]; exact sp, by rw [List.getElem?_set_ne iq]; exact sq, st.set i iv⟩ _ fun σ3 H3 Δ3 ds3 es3 o3 v3 => ⟨Δ3, ds3, es3, o3, v3⟩
  · rintro σ2 H2 ⟨Δ2, ds2, es2, o2, v2⟩
    rw [da.length] at v2
    exact hd σ2 H2 Δ2 ds2 es2 o2 v2
/-- behind the loop both are data -/
theorem Nest.out (ne : kp ≠ kq) (h : Nest K W kp kq H0 H σ Δ ds es) : StOk K W.M H σ ((Δ.set kp (some (.d (.list ds)))).set kq (some (.d (.list (es.map PyData.list))))) := by
  obtain ⟨p, q, us, rs, n0, n1, n2, nd, jj, mp, mq, mr, dd, de, sp, sq, st⟩ := h.it
  have sm : Same (hid (nestM W p q rs) H) (hid W.M H) := fun b o e => by
    by_cases m : nestM W p q rs b
    · rw [hid_in m] at e; cases e
    · rw [hid_out m] at e
      rw [hid_out fun z => m (.inl z)]
      exact e
  have i1 : Is K W.M H (.ref p) (.d (.list ds)) := Dt.lst (by rw [hid_out mp]; exact jj.2.1) (DtAll.ext sm _ _ dd)
  have i2 : Is K W.M H (.ref q) (.d (.list (es.map PyData.list))) := Dt.lst (by rw [hid_out mq]; exact jj.2.2.1) (de.lists sm fun x hx => by rw [hid_out (mr x hx)]; exact jj.2.2.2 x hx)
  have z := ((st.ext sm).set kp i1).set kq i2
  have e1 : σ.set kp (some (.ref p)) = σ := by
    obtain ⟨l, e⟩ := List.getElem?_eq_some_iff.mp sp
    rw [← e]
    exact List.set_getElem_self l
  have e2 : σ.set kq (some (.ref q)) = σ := by
    obtain ⟨l, e⟩ := List.getElem?_eq_some_iff.mp sq
    rw [← e]
    exact List.set_getElem_self l
  rw [e1, e2] at z
  exact z
end
end V2

set_option Elab.async false
set_option linter.all false
set_option maxRecDepth 100000
set_option maxHeartbeats 2000000
namespace V2
open PySem PySem.Spec PyProof.Rows L2
section
variable {K : PySem.W.Frag} {W : Wd} {Δ : Env} {te ta tb : TE} {t : TA} {k : Nat} {H0 H : Hp} {σ : L2.St} {ds xs : List PyData} {D : Ends} {ts tu : TS}
/-- a statement beside one's own list -/
theorem own_xs1 (o : Own K W k H0 H σ Δ ds) (N : Addr → Env → Prop) (h : ∀ p φ, ¬ W.M p → XS K (W.add p φ) ts (Δ.set k (some (.v (.ref p)))) (N p) (fun _ => False) No No) (hk : ∀ p Δ', N p Δ' → Δ'[k]? = some (some (.v (.ref p))))
    (q : ∀ p σ' H' Δ', N p Δ' → Own K W k H0 H' σ' (Δ'.set k none) ds → D.nx σ' H') : ts D σ H := by
  obtain ⟨p, vs, n0, m, hp, dd, hs, s⟩ := o.it
  have es : σ.set k (some (.ref p)) = σ := by
    obtain ⟨l, e⟩ := List.getElem?_eq_some_iff.mp hs
    rw [← e]
    exact List.set_getElem_self l
  have s1 : StOk K (fun a => W.M a ∨ a = p) H σ (Δ.set k (some (.v (.ref p)))) := by
    have z := s.set (a := .v (.ref p)) (v := .ref p) k rfl
    rwa [es] at z
  refine h p (· = .lst vs) m σ H ⟨o.fr.j, _, hp, rfl⟩ s1 _ (fun σ' H' Δ' f s' n => ?_) (fun _ _ _ _ z => z.elim) (fun _ _ _ _ _ z => z.elim) fun _ _ _ _ _ z => z.elim
  obtain ⟨u, hp', e⟩ := f.j.2
  subst e
  obtain ⟨v, hv, iv⟩ := s'.get k _ (hk p Δ' n)
  have iv : v = .ref p := iv
  subst iv
  have es' : σ'.set k (some (.ref p)) = σ' := by
    obtain ⟨l, e⟩ := List.getElem?_eq_some_iff.mp hv
    rw [← e]
    exact List.set_getElem_self l
  have s2 := s'.unset k (some (.ref p))
  rw [es'] at s2
  exact q p σ' H' Δ' n ⟨⟨fun a o' nm e => f.keep a o' (fun z => z.elim nm (ne_of_none e n0)) (o.fr.keep a o' nm e), f.j.1⟩, p, vs, n0, m, hp', DtAll.ext f.same _ _ dd, hv, s2⟩
theorem own_xs (o : Own K W k H0 H σ Δ ds) (N : Addr → Env → Prop) (h : ∀ p φ, ¬ W.M p → XS K (W.add p φ) ts (Δ.set k (some (.v (.ref p)))) (N p) (fun _ => False) No No) (hk : ∀ p Δ', N p Δ' → Δ'[k]? = some (some (.v (.ref p))))
    (q : ∀ p σ' H' Δ', N p Δ' → Own K W k H0 H' σ' (Δ'.set k none) ds → tu D σ' H') : tSeq ts tu D σ H := seq_in (own_xs1 o N h hk q)
theorem cx_maxL {ns : List Int} (h0 : 0 < ns.length) : CX1 K W (rMax K) [.d (.list (ns.map PyData.int))] (IntR fun m => m ∈ ns ∧ ∀ y ∈ ns, y ≤ m) := fun vs H j i Q q => by
  cases i with
  | cons h t =>
    cases t
    cases h with
    | lst h1 d1 =>
      have e : ∀ {vs : List V} {ns : List Int}, DtAll K (hid W.M H) vs (ns.map PyData.int) → vs = ns.map V.int := by
        intro vs ns
        induction ns generalizing vs with
        | nil => intro h; cases h; rfl
        | cons n r ih =>
          intro h
          cases h with
          | cons h t => cases h; rw [ih t]; rfl
      obtain rfl := e d1
      exact ⟨_, ns, rfl, .inl (.inl (hid_le _ _ h1)), h0, fun m hm hy => q _ H _ (.refl j) ⟨m, rfl, hm, hy⟩ (.int _)⟩
theorem xe_slT2 {a b : Int} (h : XV K W te Δ (.d (.tuple xs))) (ha : XV K W ta Δ (.d (.int a))) (hb : XV K W tb Δ (.d (.int b))) (ne : ¬ (HT.sIx xs.length 0 (some a) = 0 ∧ HT.sIx xs.length xs.length (some b) = xs.length)) : XV K W (tSl (rSlT K) te (tPart ta) (tPart tb)) Δ (.d (.tuple (cutD xs (some a) (some b)))) := fun σ H j s Q q =>
  h σ H j s _ fun v H1 c f1 e i1 => by
    subst e
    refine ha σ H1 f1.j (s.fr f1) _ fun w H2 c2 f2 e i2 => ?_
    subst e
    cases i2
    refine ⟨a, rfl, hb σ H2 f2.j (s.fr (f1.trans f2)) _ fun u H3 c3 f3 e i3 => ?_⟩
    subst e
    cases i3
    have f := (f1.trans f2).trans f3
    cases i1.fr (f2.trans f3) with
    | tup h1 d1 =>
      exact ⟨b, rfl, _, _, rfl, sqT_same hid_le h1, by rw [d1.length]; exact ne, fun p np => q _ _ _ (f.trans (.new f.j np)) rfl (Dt.tup (.inl (.inl (hid_new f.j np))) (cut_dts (DtAll.ext (Fr.same (.new f.j np)) _ _ d1)))⟩
/-- one's own list is cleared -/
theorem own_clear (h : Own K W k H0 H σ Δ ds) (q : ∀ H', Own K W k H0 H' σ Δ [] → D.nx σ H') : tDrop (tBM0 K "list" rClear (tVar k)) D σ H := by
  obtain ⟨p, vs, n0, m, hp, dd, hk, s⟩ := h.it
  refine ⟨_, hk, .inl ⟨rfl, _, .inl (.inl hp)⟩, p, vs, rfl, rfl, hp, q _ ⟨⟨fun a o nm e => ?_, W.loc H _ (fun a ma => upd_ne fun z : a = p => m (z ▸ ma)) h.fr.j⟩, p, [], n0, m, upd_same, .nil, hk, s.ext fun a o e => ?_⟩⟩
  · rw [upd_ne (ne_of_none e n0)]
    exact h.fr.keep a o nm e
  · rw [hid_upd (.inr rfl)]
    exact e
theorem OX.mono {r : R2} {a b : A} {T T' : A → Prop} (h : OX K W r a b T) (m : ∀ c, T c → T' c) : OX K W r a b T' := fun v w H j i1 i2 Q q => h v w H j i1 i2 Q fun u H' c f e ic => q u H' c f (m c e) ic
/-- range(n), its numbers as a list's -/
theorem xi_rngL {n : Nat} {te : TE} (h : XV K W te Δ (.d (.int (n : Int)))) (small : n ≤ 100000) : XI K W (iRng1 (tCons te tNil)) Δ (· = ((List.range n).map fun (i : Nat) => PyData.int (i : Int)).length) fun i a => ∃ d, ((List.range n).map fun (i : Nat) => PyData.int (i : Int))[i]? = some d ∧ a = .d d := fun σ H j s R q =>
  xi_rng (Nn := (· = n)) (xa_rng (Nn := (· = n)) h (by omega) (by omega) (by omega)) σ H j s R fun J H1 m f hm w => q J H1 m f (by rw [hm]; simp) fun H2 f2 i => ⟨fun l => ⟨((w H2 f2 i).1 l).1, fun y H3 yl => by
    obtain ⟨e, a, ea, ia⟩ := ((w H2 f2 i).1 l).2 y H3 yl
    refine ⟨e, a, ⟨_, ?_, ea⟩, ia⟩
    rw [List.getElem?_map, List.getElem?_range (by omega)]
    rfl⟩, (w H2 f2 i).2⟩
end
end V2

set_option Elab.async false
set_option linter.all false
set_option maxRecDepth 100000
set_option maxHeartbeats 2000000
namespace V2
open PySem PySem.Spec PyProof.Rows L2
/-! ### several lists of one's own -/
structure OLst where
  slot : Nat
  addr : Addr
  vs : List V
  ds : List PyData
def ownsM (W : Wd) (L : List OLst) : Addr → Prop := fun a => W.M a ∨ ∃ o ∈ L, o.addr = a
def ownsW (W : Wd) (L : List OLst) : Wd where
  M := ownsM W L
  J H := W.J H ∧ ∀ o ∈ L, H o.addr = some (.lst o.vs)
  live H a j m := by
    rcases m with m | ⟨o, ho, rfl⟩
    · exact W.live H a j.1 m
    · rw [j.2 o ho]; nofun
  loc H H' e j := ⟨W.loc H H' (fun a m => e a (.inl m)) j.1, fun o ho => (e o.addr (.inr ⟨o, ho, rfl⟩)).trans (j.2 o ho)⟩
structure OwnsI (K : PySem.W.Frag) (W : Wd) (H0 H : Hp) (σ : L2.St) (Δ : Env) (L : List OLst) : Prop where
  n0 : ∀ o ∈ L, H0 o.addr = none
  nm : ∀ o ∈ L, ¬ W.M o.addr
  nd : (L.map (·.addr)).Nodup
  j : (ownsW W L).J H
  dd : ∀ o ∈ L, DtAll K (hid (ownsM W L) H) o.vs o.ds
  sl : ∀ o ∈ L, σ[o.slot]? = some (some (.ref o.addr))
  st : StOk K (ownsM W L) H σ Δ
abbrev OS := List (Nat × List PyData)
structure Owns (K : PySem.W.Frag) (W : Wd) (H0 H : Hp) (σ : L2.St) (Δ : Env) (S : OS) : Prop where
  fr : Fr W H0 H
  it : ∃ L : List OLst, L.map (fun o => (o.slot, o.ds)) = S ∧ OwnsI K W H0 H σ Δ L
/-- all of them read as data -/
def froz (Δ : Env) (S : OS) : Env := S.foldl (fun Δ p => Δ.set p.1 (some (.d (.list p.2)))) Δ
section
variable {K : PySem.W.Frag} {W : Wd} {H0 H H' : Hp} {σ : L2.St} {Δ : Env} {S : OS} {L : List OLst} {D : Ends} {te tv : TE} {tt : TT} {ts tu : TS} {k i : Nat} {ds : List PyData}
theorem owns_start (f : Fr W H0 H) (s : StOk K W.M H σ Δ) : Owns K W H0 H σ Δ [] :=
  ⟨f, [], rfl, (fun o h => nomatch h), (fun o h => nomatch h), List.nodup_nil, ⟨f.j, fun o h => nomatch h⟩, (fun o h => nomatch h), (fun o h => nomatch h), s.ext fun a o e => by
    by_cases m : W.M a
    · rw [hid_in m] at e; cases e
    · rw [hid_out m] at e
      rw [hid_out fun z => z.elim m fun ⟨o, h, _⟩ => nomatch h]
      exact e⟩
theorem owns_sameM (kp : ∀ a o, ¬ ownsM W L a → H a = some o → H' a = some o) : Same (hid (ownsM W L) H) (hid (ownsM W L) H') := fun a o e => by
  by_cases m : ownsM W L a
  · rw [hid_in m] at e; cases e
  · rw [hid_out m] at e ⊢
    exact kp a o m e
theorem OwnsI.go (h : OwnsI K W H0 H σ Δ L) (f : Fr (ownsW W L) H H') : OwnsI K W H0 H' σ Δ L :=
  ⟨h.n0, h.nm, h.nd, f.j, fun o ho => DtAll.ext f.same _ _ (h.dd o ho), h.sl, h.st.ext (M := ownsM W L) (M' := ownsM W L) f.same⟩
theorem OwnsI.fr (h : OwnsI K W H0 H σ Δ L) (f0 : Fr W H0 H) (f : Fr (ownsW W L) H H') : Fr W H0 H' :=
  ⟨fun a o nm e => f.keep a o (fun z => z.elim nm fun ⟨o', ho, e'⟩ => by rw [← e', h.n0 o' ho] at e; cases e) (f0.keep a o nm e), f.j.1⟩
theorem Owns.later (h : Owns K W H0 H σ Δ S) (f : Fr W H H') : Owns K W H0 H' σ Δ S := by
  obtain ⟨L, e, i⟩ := h.it
  refine ⟨h.fr.trans f, L, e, i.go ⟨fun a o nm e => f.keep a o (fun z => nm (.inl z)) e, f.j, fun o ho => f.keep _ _ (i.nm o ho) (i.j.2 o ho)⟩⟩
theorem ownsM_le : Same (hid (ownsM W L) H) (hid W.M H) := fun a o e => by
  by_cases m : ownsM W L a
  · rw [hid_in m] at e; cases e
  · rw [hid_out m] at e
    rw [hid_out fun z => m (.inl z)]
    exact e
theorem st_again {M : Addr → Prop} {v : V} {a : A} (s : StOk K M H σ Δ) (hk : σ[k]? = some (some v)) (h : Is K M H v a) : StOk K M H σ (Δ.set k (some a)) := by
  have z := s.set k h
  have e : σ.set k (some v) = σ := by
    obtain ⟨l, e⟩ := List.getElem?_eq_some_iff.mp hk
    rw [← e]
    exact List.set_getElem_self l
  rwa [e] at z
theorem Owns.st (h : Owns K W H0 H σ Δ S) : StOk K W.M H σ (froz Δ S) := by
  obtain ⟨L, rfl, i⟩ := h.it
  have go : ∀ (l : List OLst) (Δ : Env), (∀ o ∈ l, o ∈ L) → StOk K W.M H σ Δ → StOk K W.M H σ (froz Δ (l.map fun o => (o.slot, o.ds))) := by
    intro l
    induction l with
    | nil => exact fun Δ _ s => s
    | cons o l ih =>
      intro Δ hm s
      have ho := hm o (.head _)
      exact ih _ (fun x m => hm x (.tail _ m)) (st_again s (i.sl o ho) (Dt.lst (by rw [hid_out (i.nm o ho)]; exact i.j.2 o ho) (DtAll.ext ownsM_le _ _ (i.dd o ho))))
  exact go L Δ (fun o h => h) (i.st.ext ownsM_le)
/-- a test that reads them as data -/
theorem owns_if {B : Bool → Prop} (o : Owns K W H0 H σ Δ S) (ht : XT K W tt (froz Δ S) B) (h1 : ∀ H', B true → Owns K W H0 H' σ Δ S → ts D σ H') (h2 : ∀ H', B false → Owns K W H0 H' σ Δ S → tu D σ H') : tIfS tt ts tu D σ H :=
  ht σ H o.fr.j o.st _ fun b H1 f hb => by
    cases b with
    | true => exact iteT (h1 H1 hb (o.later f))
    | false => exact iteF (h2 H1 hb (o.later f))
/-- the first one set aside as data -/
theorem owns_freeze (o : Owns K W H0 H σ Δ ((k, ds) :: S)) : Owns K W H0 H σ (Δ.set k (some (.d (.list ds)))) S := by
  obtain ⟨L, e, i⟩ := o.it
  cases L with
  | nil => cases e
  | cons x L =>
    obtain ⟨e1, e2⟩ := List.cons.inj e
    have ek : x.slot = k := congrArg Prod.fst e1
    have ed : x.ds = ds := congrArg Prod.snd e1
    subst ek ed
    have nd := List.nodup_cons.mp i.nd
    have nx : ∀ o ∈ L, o.addr ≠ x.addr := fun o ho z => nd.1 (by show x.addr ∈ _; rw [← z]; exact List.mem_map.mpr ⟨o, ho, rfl⟩)
    have sm : Same (hid (ownsM W (x :: L)) H) (hid (ownsM W L) H) := fun a o e => by
      by_cases m : ownsM W (x :: L) a
      · rw [hid_in m] at e; cases e
      · rw [hid_out m] at e
        rw [hid_out fun z => m (z.imp id fun ⟨o, h, q⟩ => ⟨o, .tail _ h, q⟩)]
        exact e
    refine ⟨o.fr, L, e2, fun o h => i.n0 o (.tail _ h), fun o h => i.nm o (.tail _ h), nd.2, ⟨i.j.1, fun o h => i.j.2 o (.tail _ h)⟩, fun o h => DtAll.ext sm _ _ (i.dd o (.tail _ h)), fun o h => i.sl o (.tail _ h), ?_⟩
    refine st_again (i.st.ext sm) (i.sl x (.head _)) (Dt.lst ?_ (DtAll.ext sm _ _ (i.dd x (.head _))))
    rw [hid_out fun z => z.elim (i.nm x (.head _)) fun ⟨o, h, q⟩ => nx o h q]
    exact i.j.2 x (.head _)
theorem owns_swap {a b : Nat × List PyData} (o : Owns K W H0 H σ Δ (a :: b :: S)) : Owns K W H0 H σ Δ (b :: a :: S) := by
  obtain ⟨L, e, i⟩ := o.it
  match L, e with
  | x :: y :: L, e =>
    obtain ⟨e1, e2⟩ := List.cons.inj e
    obtain ⟨e2, e3⟩ := List.cons.inj e2
    have mm : ∀ o, o ∈ y :: x :: L ↔ o ∈ x :: y :: L := fun o => by simp only [List.mem_cons]; exact ⟨fun h => by rcases h with h | h | h <;> simp [h], fun h => by rcases h with h | h | h <;> simp [h]⟩
    have me : ownsM W (y :: x :: L) = ownsM W (x :: y :: L) := by
      funext a
      refine propext ⟨fun h => h.imp id fun ⟨o, ho, q⟩ => ⟨o, (mm o).mp ho, q⟩, fun h => h.imp id fun ⟨o, ho, q⟩ => ⟨o, (mm o).mpr ho, q⟩⟩
    refine ⟨o.fr, y :: x :: L, by show _ :: _ :: _ = _; rw [← e1, ← e2, ← e3], fun o h => i.n0 o ((mm o).mp h), fun o h => i.nm o ((mm o).mp h), ?_, ⟨i.j.1, fun o h => i.j.2 o ((mm o).mp h)⟩, fun o h => by rw [me]; exact i.dd o ((mm o).mp h), fun o h => i.sl o ((mm o).mp h), by rw [me]; exact i.st⟩
    have nd := i.nd
    simp only [List.map_cons, List.nodup_cons, List.mem_cons, not_or] at nd ⊢
    exact ⟨⟨fun z => nd.1.1 z.symm, nd.2.1⟩, nd.1.2, nd.2.2⟩
/-- name = a new list -/
theorem owns_set {R : List PyData → Prop} (o : Owns K W H0 H σ Δ S) (hk : k < σ.length) (nk : ∀ p ∈ S, p.1 ≠ k) (h : ∀ L, XN K (ownsW W L) te Δ R)
    (q : ∀ v H' ds, R ds → Owns K W H0 H' (σ.set k (some v)) (Δ.set k none) ((k, ds) :: S) → D.nx (σ.set k (some v)) H') : tAsg te (gName k) D σ H := by
  obtain ⟨L, rfl, i⟩ := o.it
  refine h L σ H i.j i.st _ fun p H1 vs ds f np r hp dd => ?_
  have f1 := i.fr o.fr f
  have i1 := i.go f
  have nW : ¬ W.M p := fun m => (ownsW W L).live H p i.j (.inl m) np
  have n0 : H0 p = none := by
    cases z : H0 p with
    | none => rfl
    | some u =>
      rw [o.fr.keep p u nW z] at np
      cases np
  have nL : ∀ o ∈ L, o.addr ≠ p := fun o ho z => by
    have := i.j.2 o ho
    rw [z, np] at this
    cases this
  let x : OLst := ⟨k, p, vs, ds⟩
  have me : ownsM W (x :: L) = fun a => ownsM W L a ∨ a = p := by
    funext a
    refine propext ⟨fun h => ?_, fun h => ?_⟩
    · rcases h with h | ⟨o, ho, q⟩
      · exact .inl (.inl h)
      · rcases List.mem_cons.mp ho with e | ho
        · rw [e] at q
          exact .inr q.symm
        · exact .inl (.inr ⟨o, ho, q⟩)
    · rcases h with h | h
      · exact h.imp id fun ⟨o, ho, q⟩ => ⟨o, .tail _ ho, q⟩
      · exact .inr ⟨x, .head _, h.symm⟩
  have sm : Same (hid (ownsM W L) H) (hid (ownsM W (x :: L)) H1) := fun a u e => by
    by_cases m : ownsM W L a
    · rw [hid_in m] at e; cases e
    · rw [hid_out m] at e
      rw [hid_out (show ¬ ownsM W (x :: L) a by rw [me]; exact fun z => z.elim m (ne_of_none e np))]
      exact f.keep a u m e
  refine q _ H1 ds r ⟨f1, x :: L, rfl, ?_, ?_, ?_, ⟨f.j.1, ?_⟩, ?_, ?_, ?_⟩
  · exact fun o h => (List.mem_cons.mp h).elim (fun e => by rw [e]; exact n0) fun h => i.n0 o h
  · exact fun o h => (List.mem_cons.mp h).elim (fun e => by rw [e]; exact nW) fun h => i.nm o h
  · exact List.nodup_cons.mpr ⟨fun z => by obtain ⟨o, ho, e⟩ := List.mem_map.mp z; exact nL o ho e, i.nd⟩
  · exact fun o h => (List.mem_cons.mp h).elim (fun e => by rw [e]; exact hp) fun h => f.j.2 o h
  · intro o h
    rcases List.mem_cons.mp h with e | h
    · rw [e, me]
      exact dd
    · exact DtAll.ext sm _ _ (i.dd o h)
  · intro o h
    rcases List.mem_cons.mp h with e | h
    · rw [e]
      exact List.getElem?_set_self hk
    · rw [List.getElem?_set_ne fun z => nk (o.slot, o.ds) (List.mem_map.mpr ⟨o, h, rfl⟩) z.symm]
      exact i.sl o h
  · exact StOk.unset (i.st.ext sm) k _
/-- another name is set -/
theorem owns_asg {R : A → Prop} (o : Owns K W H0 H σ Δ S) (nk : ∀ p ∈ S, p.1 ≠ i) (h : ∀ L, XE K (ownsW W L) te Δ R) (q : ∀ v H' a, R a → Owns K W H0 H' (σ.set i (some v)) (Δ.set i (some a)) S → D.nx (σ.set i (some v)) H') : tAsg te (gName i) D σ H := by
  obtain ⟨L, rfl, ii⟩ := o.it
  refine h L σ H ii.j ii.st _ fun v H1 a f r iv => ?_
  have i1 := ii.go f
  exact q v H1 a r ⟨ii.fr o.fr f, L, rfl, i1.n0, i1.nm, i1.nd, i1.j, i1.dd, fun o h => by rw [List.getElem?_set_ne fun z => nk (o.slot, o.ds) (List.mem_map.mpr ⟨o, h, rfl⟩) z.symm]; exact i1.sl o h, i1.st.set i iv⟩
/-- the first one changes -/
theorem owns_put {x : OLst} {vs : List V} (i : OwnsI K W H0 H σ Δ (x :: L)) (f0 : Fr W H0 H) (d : DtAll K (hid (ownsM W (x :: L)) H) vs ds) : Fr W H0 (upd H x.addr (.lst vs)) ∧ OwnsI K W H0 (upd H x.addr (.lst vs)) σ Δ (⟨x.slot, x.addr, vs, ds⟩ :: L) ∧ Same (hid (ownsM W (x :: L)) H) (hid (ownsM W (⟨x.slot, x.addr, vs, ds⟩ :: L)) (upd H x.addr (.lst vs))) := by
  let y : OLst := ⟨x.slot, x.addr, vs, ds⟩
  have me : ownsM W (y :: L) = ownsM W (x :: L) := by
    funext a
    refine propext ⟨fun h => h.imp id fun ⟨o, ho, q⟩ => ?_, fun h => h.imp id fun ⟨o, ho, q⟩ => ?_⟩
    · rcases List.mem_cons.mp ho with e | ho
      · rw [e] at q
        exact ⟨x, .head _, q⟩
      · exact ⟨o, .tail _ ho, q⟩
    · rcases List.mem_cons.mp ho with e | ho
      · rw [e] at q
        exact ⟨y, .head _, q⟩
      · exact ⟨o, .tail _ ho, q⟩
  have nd := List.nodup_cons.mp i.nd
  have nx : ∀ o ∈ L, o.addr ≠ x.addr := fun o ho z => nd.1 (by show x.addr ∈ _; rw [← z]; exact List.mem_map.mpr ⟨o, ho, rfl⟩)
  have xm : ¬ W.M x.addr := i.nm x (.head _)
  have jW : W.J (upd H x.addr (.lst vs)) := W.loc H _ (fun a ma => upd_ne fun z => xm (z ▸ ma)) i.j.1
  have sm : Same (hid (ownsM W (x :: L)) H) (hid (ownsM W (y :: L)) (upd H x.addr (.lst vs))) := fun a u e => by
    rw [me]
    by_cases m : ownsM W (x :: L) a
    · rw [hid_in m] at e; cases e
    · rw [hid_out m] at e ⊢
      rw [upd_ne fun z => m (.inr ⟨x, .head _, z.symm⟩)]
      exact e
  refine ⟨⟨fun a u nm e => by rw [upd_ne (ne_of_none e (i.n0 x (.head _)))]; exact f0.keep a u nm e, jW⟩, ⟨?_, ?_, i.nd, ⟨jW, ?_⟩, ?_, ?_, i.st.ext sm⟩, sm⟩
  · exact fun o h => (List.mem_cons.mp h).elim (fun e => by rw [e]; exact i.n0 x (.head _)) fun h => i.n0 o (.tail _ h)
  · exact fun o h => (List.mem_cons.mp h).elim (fun e => by rw [e]; exact xm) fun h => i.nm o (.tail _ h)
  · intro o h
    rcases List.mem_cons.mp h with e | h
    · rw [e]
      exact upd_same
    · rw [upd_ne (nx o h)]
      exact i.j.2 o (.tail _ h)
  · intro o h
    rcases List.mem_cons.mp h with e | h
    · rw [e]
      exact DtAll.ext sm _ _ d
    · exact DtAll.ext sm _ _ (i.dd o (.tail _ h))
  · intro o h
    rcases List.mem_cons.mp h with e | h
    · rw [e]
      exact i.sl x (.head _)
    · exact i.sl o (.tail _ h)
/-- name.append(e) -/
theorem owns_app {P : PyData → Prop} (o : Owns K W H0 H σ Δ ((k, ds) :: S)) (small : ds.length ≤ 100000) (he : ∀ L, XE K (ownsW W L) te Δ fun a => ∃ d, a = .d d ∧ P d) (q : ∀ H' d, P d → Owns K W H0 H' σ Δ ((k, ds ++ [d]) :: S) → D.nx σ H') :
    tDrop (tBM K "list" rAppend (tVar k) (tCons te tNil)) D σ H := by
  obtain ⟨L, e, i⟩ := o.it
  match L, e with
  | x :: L, e =>
    obtain ⟨e1, rfl⟩ := List.cons.inj e
    have ek : x.slot = k := congrArg Prod.fst e1
    have ed : x.ds = ds := congrArg Prod.snd e1
    subst ek ed
    have dx := i.dd x (.head _)
    refine ⟨_, i.sl x (.head _), .inl ⟨rfl, _, .inl (.inl (i.j.2 x (.head _)))⟩, he _ σ H i.j i.st _ fun v H1 a f r iv => ?_⟩
    obtain ⟨d, e, pd⟩ := r
    subst e
    have i1 := i.go f
    refine ⟨x.addr, x.vs, v, rfl, rfl, i1.j.2 x (.head _), Nat.lt_of_le_of_lt (by rw [dx.length]; exact small) (by decide), q _ d pd ?_⟩
    obtain ⟨f2, i2, _⟩ := owns_put i1 (i.fr o.fr f) (DtAll.append (i1.dd x (.head _)) (.cons iv .nil))
    exact ⟨f2, _, rfl, i2⟩
theorem seqIndex0 {n : Nat} (h : 0 < n) : seqIndex? 0 n = some 0 := by
  have e : L2.ixN n 0 = some 0 := by
    unfold L2.ixN
    rw [if_pos (by decide), if_pos (by omega)]
    rfl
  exact (L2.ixN_seq e).1
/-- other = name.pop(0) -/
theorem owns_pop {d : PyData} (o : Owns K W H0 H σ Δ ((k, d :: ds) :: S)) (ni : i ≠ k) (nk : ∀ p ∈ S, p.1 ≠ i) (small : ds.length ≤ 100000) (q : ∀ v H', Owns K W H0 H' (σ.set i (some v)) (Δ.set i (some (.d d))) ((k, ds) :: S) → D.nx (σ.set i (some v)) H') :
    tAsg (tBM K "list" rPopAt (tVar k) (tCons (tC (.int 0)) tNil)) (gName i) D σ H := by
  obtain ⟨L, e, ii⟩ := o.it
  match L, e with
  | x :: L, e =>
    obtain ⟨e1, rfl⟩ := List.cons.inj e
    have ek : x.slot = k := congrArg Prod.fst e1
    have ed : x.ds = d :: ds := congrArg Prod.snd e1
    subst ek
    have dx := ii.dd x (.head _)
    rw [ed] at dx
    cases hv : x.vs with
    | nil => rw [hv] at dx; cases dx
    | cons v vs =>
      rw [hv] at dx
      cases dx with
      | cons d1 d2 =>
        have hx := ii.j.2 x (.head _)
        rw [hv] at hx
        refine ⟨_, ii.sl x (.head _), .inl ⟨rfl, _, .inl (.inl (ii.j.2 x (.head _)))⟩, x.addr, v :: vs, 0, 0, v, rfl, rfl, hx, by decide, by decide, seqIndex0 (by simp), rfl, ?_⟩
        obtain ⟨f2, i2, sm⟩ := owns_put ii o.fr d2
        refine q v _ ⟨f2, _, rfl, i2.n0, i2.nm, i2.nd, i2.j, i2.dd, fun o' h => ?_, i2.st.set i (Dt.ext sm _ _ d1)⟩
        rw [List.getElem?_set_ne ?_]
        · exact i2.sl o' h
        · rcases List.mem_cons.mp h with e | h'
          · rw [e]
            exact ni
          · exact fun z => nk (o'.slot, o'.ds) (List.mem_map.mpr ⟨o', h', rfl⟩) z.symm
/-- name.append(other.pop(0)), other the second one -/
theorem owns_move {k2 : Nat} {d : PyData} {es : List PyData} (o : Owns K W H0 H σ Δ ((k2, d :: es) :: (k, ds) :: S)) (small : ds.length ≤ 100000) (q : ∀ H', Owns K W H0 H' σ Δ ((k, ds ++ [d]) :: (k2, es) :: S) → D.nx σ H') :
    tDrop (tBM K "list" rAppend (tVar k) (tCons (tBM K "list" rPopAt (tVar k2) (tCons (tC (.int 0)) tNil)) tNil)) D σ H := by
  obtain ⟨L0, e, ii⟩ := o.it
  obtain ⟨x, L1, rfl, e1, ee⟩ : ∃ x L1, L0 = x :: L1 ∧ (x.slot, x.ds) = (k2, d :: es) ∧ L1.map (fun o => (o.slot, o.ds)) = (k, ds) :: S := by
    cases L0 with
    | nil => cases e
    | cons x L1 => exact ⟨x, L1, rfl, (List.cons.inj e).1, (List.cons.inj e).2⟩
  obtain ⟨y, L, rfl, e2, e3⟩ : ∃ y L, L1 = y :: L ∧ (y.slot, y.ds) = (k, ds) ∧ L.map (fun o => (o.slot, o.ds)) = S := by
    cases L1 with
    | nil => cases ee
    | cons y L => exact ⟨y, L, rfl, (List.cons.inj ee).1, (List.cons.inj ee).2⟩
  subst e3
  · have ek : x.slot = k2 := congrArg Prod.fst e1
    have ed : x.ds = d :: es := congrArg Prod.snd e1
    have ey : y.slot = k := congrArg Prod.fst e2
    have ez : y.ds = ds := congrArg Prod.snd e2
    subst ek ey ez
    have dx := ii.dd x (.head _)
    rw [ed] at dx
    cases hv : x.vs with
    | nil => rw [hv] at dx; cases dx
    | cons v vs =>
      rw [hv] at dx
      cases dx with
      | cons d1 d2 =>
        have hx := ii.j.2 x (.head _)
        rw [hv] at hx
        have my : y ∈ x :: y :: L := .tail _ (.head _)
        have dy := ii.dd y my
        obtain ⟨f2, i2, sm⟩ := owns_put ii o.fr d2
        refine ⟨_, ii.sl y my, .inl ⟨rfl, _, .inl (.inl (ii.j.2 y my))⟩, _, ii.sl x (.head _), .inl ⟨rfl, _, .inl (.inl hx)⟩, x.addr, v :: vs, 0, 0, v, rfl, rfl, hx, by decide, by decide, seqIndex0 (by simp), rfl, ?_⟩
        have o3 : Owns K W H0 (upd H x.addr (.lst vs)) σ Δ ((y.slot, y.ds) :: (x.slot, es) :: L.map fun o => (o.slot, o.ds)) := owns_swap ⟨f2, _, rfl, i2⟩
        obtain ⟨L3, e3, i3⟩ := o3.it
        refine ⟨y.addr, y.vs, v, rfl, rfl, i2.j.2 y (.tail _ (.head _)), Nat.lt_of_le_of_lt (by rw [dy.length]; exact small) (by decide), q _ ?_⟩
        have mm : ∀ o, o ∈ y :: ⟨x.slot, x.addr, vs, es⟩ :: L ↔ o ∈ (⟨x.slot, x.addr, vs, es⟩ : OLst) :: y :: L := fun o => by simp only [List.mem_cons]; exact ⟨fun h => by rcases h with h | h | h <;> simp [h], fun h => by rcases h with h | h | h <;> simp [h]⟩
        have me : ownsM W (y :: ⟨x.slot, x.addr, vs, es⟩ :: L) = ownsM W (⟨x.slot, x.addr, vs, es⟩ :: y :: L) := funext fun a => propext ⟨fun h => h.imp id fun ⟨o, ho, q⟩ => ⟨o, (mm o).mp ho, q⟩, fun h => h.imp id fun ⟨o, ho, q⟩ => ⟨o, (mm o).mpr ho, q⟩⟩
        have nd := i2.nd
        have i4 : OwnsI K W H0 (upd H x.addr (.lst vs)) σ Δ (y :: ⟨x.slot, x.addr, vs, es⟩ :: L) := ⟨fun o h => i2.n0 o ((mm o).mp h), fun o h => i2.nm o ((mm o).mp h), by
          simp only [List.map_cons, List.nodup_cons, List.mem_cons, not_or] at nd ⊢
          exact ⟨⟨fun z => nd.1.1 z.symm, nd.2.1⟩, nd.1.2, nd.2.2⟩, ⟨i2.j.1, fun o h => i2.j.2 o ((mm o).mp h)⟩, fun o h => by rw [me]; exact i2.dd o ((mm o).mp h), fun o h => i2.sl o ((mm o).mp h), by rw [me]; exact i2.st⟩
        obtain ⟨f5, i5, _⟩ := owns_put i4 f2 (DtAll.append (i4.dd y (.head _)) (.cons (by rw [me]; exact Dt.ext sm _ _ d1) .nil))
        exact ⟨f5, _, rfl, i5⟩
/-- while -/
theorem owns_while (Inv : Nat → Env → OS → Prop) (o : Owns K W H0 H σ Δ S) (h0 : ∃ m, Inv m Δ S)
    (hs : ∀ m σ1 H1 Δ1 S1, Inv m Δ1 S1 → Owns K W H0 H1 σ1 Δ1 S1 → ∃ b, XB K W tt (froz Δ1 S1) b ∧
      (b = true → ∀ H2, Owns K W H0 H2 σ1 Δ1 S1 → ∀ N : L2.St → Hp → Prop, (∀ σ3 H3 Δ3 S3 m', m' < m → Inv m' Δ3 S3 → Owns K W H0 H3 σ3 Δ3 S3 → N σ3 H3) → ts { D with nx := N, ct := N, bk := D.nx } σ1 H2) ∧
      (b = false → ∀ H2, Owns K W H0 H2 σ1 Δ1 S1 → D.nx σ1 H2)) : tWhile tt ts D σ H := by
  obtain ⟨m0, i0⟩ := h0
  refine ⟨fun m σ2 H2 => ∃ Δ2 S2, Owns K W H0 H2 σ2 Δ2 S2 ∧ Inv m Δ2 S2, ⟨m0, Δ, S, o, i0⟩, ?_⟩
  rintro m σ2 H2 ⟨Δ2, S2, o2, v2⟩
  obtain ⟨b, hb, h1, h2⟩ := hs m σ2 H2 Δ2 S2 v2 o2
  refine hb σ2 H2 o2.fr.j o2.st _ fun b' H3 f e => ?_
  subst e
  cases b' with
  | true => exact iteT ⟨fun σ4 H4 => ∃ m', m' < m ∧ ∃ Δ4 S4, Owns K W H0 H4 σ4 Δ4 S4 ∧ Inv m' Δ4 S4, fun σ4 H4 h => h, h1 rfl H3 (o2.later f) _ fun σ3 H3 Δ3 S3 m' l v o3 => ⟨m', l, Δ3, S3, o3, v⟩⟩
  | false => exact iteF (h2 rfl H3 (o2.later f))
end
end V2

set_option Elab.async false
set_option linter.all false
set_option maxRecDepth 100000
set_option maxHeartbeats 2000000
namespace V2
open PySem PySem.Spec PyProof.Rows L2
section
variable {K : PySem.W.Frag} {W : Wd} {Δ : Env} {tl te ta tb : TE} {ts : TS} {N : Env → Prop} {Rt : A → Prop} {Bk Ct : Env → Prop} {xs : List PyData}
/-- for i, x in enumerate(xs) -/
theorem xs_forEn {i1 i2 : Nat} (hl : XV K W tl Δ (.d (.list xs))) (Inv : Nat → Env → Prop) (h0 : Inv 0 Δ)
    (hs : ∀ i x Δ1, xs[i]? = some x → Inv i Δ1 → XS K W ts ((Δ1.set i1 (some (.d (.int (i : Int))))).set i2 (some (.d x))) (Inv (i + 1)) Rt N (Inv (i + 1))) (hd : ∀ Δ1, Inv xs.length Δ1 → N Δ1) :
    XS K W (tFor (iEnum K (tCons tl tNil)) (gTup K 2 (gCons (gName i1) (gCons (gName i2) gNil))) ts) Δ N Rt Bk Ct := by
  intro σ H j s D nx rt bk ct
  unfold tFor iEnum
  refine (xa_cons hl xa_nil) σ H j s _ fun us H1 as f1 e ia => ?_
  subst e
  cases ia with
  | cons ia ib =>
    cases ib
    cases ia with
    | lst h1 d1 =>
      rename_i p vs
      have m : ¬ W.M p := fun m => by rw [hid_in m] at h1; cases h1
      have h1' := h1
      rw [hid_out m] at h1'
      have ga : ∀ H2, Fr W H1 H2 → SqL K H2 p vs := fun H2 f => .inl (.inl (f.keep p _ m h1'))
      refine ⟨p, vs, rfl, ga H1 (.refl f1.j), ?_⟩
      refine ⟨fun i k σ2 H2 => k = xs.length - i ∧ i ≤ xs.length ∧ ∃ Δ2, Fr W H1 H2 ∧ StOk K W.M H2 σ2 Δ2 ∧ Inv i Δ2, ⟨xs.length, (Nat.sub_zero _).symm, Nat.zero_le _, Δ, .refl f1.j, s.fr f1, h0⟩, ?_⟩
      rintro i k σ2 H2 ⟨rfl, hi, Δ2, f2, s2, v2⟩
      have len := d1.length
      by_cases l : i < xs.length
      · obtain ⟨v, hv, dv⟩ := d1.get (List.getElem?_eq_getElem l)
        refine .inr ⟨⟨vs, v, ga H2 f2, hv⟩, fun σ3 H3 => ∃ Δ3, Fr W H1 H3 ∧ StOk K W.M H3 σ3 Δ3 ∧ Inv (i + 1) Δ3, ?_, ?_⟩
        · rintro σ3 H3 ⟨Δ3, f3, s3, v3⟩
          exact ⟨xs.length - (i + 1), by omega, rfl, l, Δ3, f3, s3, v3⟩
        · rintro y H3 ⟨T, x, rfl, nT, rfl, hx⟩
          have ex := hx vs (ga H2 f2)
          rw [hv] at ex
          cases ex
          have f3 : Fr W H2 (upd H2 T (.tup [.int (i : Nat), v])) := .new f2.j nT
          have iT : Is K W.M (upd H2 T (.tup [.int (i : Nat), v])) (.ref T) (.d (.tuple [.int (i : Int), xs[i]])) := Dt.tup (.inl (.inl (hid_new f2.j nT))) (.cons (.int _) (.cons (Dt.ext (f2.trans f3).same _ _ dv) .nil))
          refine gx_tup2 (Δ := Δ2) (.ref T) σ2 _ f3.j (s2.fr f3) iT _ fun σ4 H4 f4 s4 => ?_
          have f := (f2.trans f3).trans f4
          exact hs i xs[i] Δ2 (List.getElem?_eq_getElem l) v2 σ4 H4 f4.j s4 _ (fun σ5 H5 Δ5 f5 s5 n5 => ⟨Δ5, f.trans f5, s5, n5⟩) (fun v H5 a f5 => rt v H5 a (f1.trans (f.trans f5)))
            (fun σ5 H5 Δ5 f5 s5 n5 => nx σ5 H5 Δ5 (f1.trans (f.trans f5)) s5 n5) (fun σ5 H5 Δ5 f5 s5 n5 => ⟨Δ5, f.trans f5, s5, n5⟩)
      · obtain rfl : i = xs.length := by omega
        exact .inl ⟨⟨vs, ga H2 f2, by omega⟩, nx σ2 H2 Δ2 (f1.trans f2) s2 (hd Δ2 v2)⟩
theorem xe_slL2 {a b : Int} (h : XV K W te Δ (.d (.list xs))) (ha : XV K W ta Δ (.d (.int a))) (hb : XV K W tb Δ (.d (.int b))) : XV K W (tSl (rSlL K) te (tPart ta) (tPart tb)) Δ (.d (.list (cutD xs (some a) (some b)))) := fun σ H j s Q q =>
  h σ H j s _ fun v H1 c f1 e i1 => by
    subst e
    refine ha σ H1 f1.j (s.fr f1) _ fun w H2 c2 f2 e i2 => ?_
    subst e
    cases i2
    refine ⟨a, rfl, hb σ H2 f2.j (s.fr (f1.trans f2)) _ fun u H3 c3 f3 e i3 => ?_⟩
    subst e
    cases i3
    have f := (f1.trans f2).trans f3
    cases i1.fr (f2.trans f3) with
    | lst h1 d1 => exact ⟨b, rfl, _, _, rfl, .inl (.inl (hid_le _ _ h1)), fun p np => q _ _ _ (f.trans (.new f.j np)) rfl (Dt.lst (hid_new f.j np) (cut_dts (DtAll.ext (Fr.same (.new f.j np)) _ _ d1)))⟩
end
end V2
namespace V2
open PySem PySem.Spec PyProof.Rows L2
theorem xn_lstT {K : PySem.W.Frag} {W : Wd} {Δ : Env} {te : TE} {xs : List PyData} (h : XV K W te Δ (.d (.tuple xs))) : XN K W (tCB (rLstOf K) (tCons te tNil)) Δ (· = xs) := fun σ H j s Q q =>
  (xa_cons h xa_nil) σ H j s _ fun us H1 as f1 e ia => by
    subst e
    cases ia with
    | cons ia ib =>
      cases ib
      cases ia with
      | tup h1 d1 =>
        refine ⟨_, _, rfl, .inr (sqT_same hid_le h1), fun p np => ?_⟩
        have n0 : H p = none := by
          cases z : H p with
          | none => rfl
          | some o =>
            rw [f1.keep p o (W.fresh f1.j np) z] at np
            cases np
        exact q p _ _ xs (f1.trans (.new f1.j np)) n0 rfl upd_same (DtAll.ext (same_new (H' := H1) f1.j np) _ _ d1)
/-- a constant of flat tuples -/
theorem xe_ktup2 {K : PySem.W.Frag} {W : Wd} {Δ : Env} {t a b : Addr} {x y u v : Str} (h : ∀ H, SqT K H t [.ref a, .ref b]) (ha : ∀ H, SqT K H a [.str x, .str y]) (hb : ∀ H, SqT K H b [.str u, .str v]) : XV K W (tC (.ref t)) Δ (.d (.tuple [.tuple [.str x, .str y], .tuple [.str u, .str v]])) := fun σ H j _ Q q =>
  q _ H _ (.refl j) rfl (Dt.tup (h _) (.cons (Dt.tup (ha _) (.cons (.str _) (.cons (.str _) .nil))) (.cons (Dt.tup (hb _) (.cons (.str _) (.cons (.str _) .nil))) .nil)))
theorem xa_starT {K : PySem.W.Frag} {W : Wd} {Δ : Env} {te : TE} {t : TA} {xs ys : List PyData} (h : XV K W te Δ (.d (.tuple xs))) (r : XAs K W t Δ (dAll ys)) : XAs K W (StX.tStar K te t) Δ (dAll (xs ++ ys)) := fun σ H j s Q q =>
  h σ H j s _ fun v H1 a f1 e i => by
    subst e
    cases i with
    | tup h1 d1 =>
      rename_i p vs
      refine ⟨p, vs, rfl, .inl (sqT_same hid_le h1), r σ H1 f1.j (s.fr f1) _ fun us H2 bs f2 e2 i2 => ?_⟩
      subst e2
      refine q _ H2 _ (f1.trans f2) rfl ?_
      have d2 := DtAll.ext f2.same _ _ d1
      have go : ∀ {vs : List V} {xs : List PyData}, DtAll K (hid W.M H2) vs xs → IsAll K W.M H2 (vs ++ us) (dAll (xs ++ ys)) := by
        intro vs xs
        induction xs generalizing vs with
        | nil => intro d; cases d; exact i2
        | cons x xs ih => intro d; cases d with | cons a b => exact .cons a (ih b)
      exact go d2

section
variable {K : PySem.W.Frag} {W : Wd} {Δ : Env} {te ta tb : TE} {xs : List PyData}
theorem slA_in {lo hi : Option Int} {v : V} {H : Hp} {Q : VK} (j : W.J H) (i : Is K W.M H v (.d (.tuple xs))) (q : ∀ u H' a, Fr W H H' → a = A.d (.tuple (cutD xs lo hi)) → Is K W.M H' u a → Q u H') : rSlA K v lo hi H Q := by
  cases i with
  | tup h1 d1 =>
    rename_i p vs
    refine ⟨p, vs, rfl, sqT_same hid_le h1, fun w => ?_, fun w p2 np => ?_⟩
    · refine q _ H _ (.refl j) rfl (Dt.tup h1 ?_)
      have e : cutD xs lo hi = xs := by
        rw [d1.length] at w
        unfold cutD
        rw [w.1, w.2, List.drop_zero, Nat.sub_zero, List.take_length]
      rw [e]
      exact d1
    · exact q _ _ _ (.new j np) rfl (Dt.tup (.inl (.inl (hid_new j np))) (cut_dts (DtAll.ext (Fr.same (.new j np)) _ _ d1)))
theorem xe_slAto {k : Int} (h : XV K W te Δ (.d (.tuple xs))) (hk : XV K W ta Δ (.d (.int k))) : XV K W (tSl (rSlA K) te tNoPart (tPart ta)) Δ (.d (.tuple (cutD xs none (some k)))) := fun σ H j s Q q =>
  h σ H j s _ fun v H1 a f1 e i1 => by
    subst e
    refine hk σ H1 f1.j (s.fr f1) _ fun w H2 b f2 e i2 => ?_
    subst e
    cases i2
    exact ⟨k, rfl, slA_in f2.j (i1.fr f2) fun u H' a f e i => q u H' a ((f1.trans f2).trans f) e i⟩
theorem xe_slAfrom {k : Int} (h : XV K W te Δ (.d (.tuple xs))) (hk : XV K W ta Δ (.d (.int k))) : XV K W (tSl (rSlA K) te (tPart ta) tNoPart) Δ (.d (.tuple (cutD xs (some k) none))) := fun σ H j s Q q =>
  h σ H j s _ fun v H1 a f1 e i1 => by
    subst e
    refine hk σ H1 f1.j (s.fr f1) _ fun w H2 b f2 e i2 => ?_
    subst e
    cases i2
    exact ⟨k, rfl, slA_in f2.j (i1.fr f2) fun u H' a f e i => q u H' a ((f1.trans f2).trans f) e i⟩
end
end V2

set_option Elab.async false
set_option linter.all false
set_option maxRecDepth 100000
set_option maxHeartbeats 2000000
namespace V2
open PySem PySem.Spec PyProof.Rows L2
/-! ### expressions that may raise, in a world with a state -/
def YX {S : Type} (K : PySem.W.Frag) (Z : SW S) (s : S) (Wp : Hp → Prop) (X : S → Prop) (te : TE) (Δ : Env) (R : S → A → Prop) : Prop := ∀ σ H, Z.J s H → StOk K Z.M H σ Δ → (∀ H' t, Fr (Z.at t) H H' → X t → Wp H') → ∀ Q : VK, (∀ v H' t a, Fr (Z.at t) H H' → R t a → Is K Z.M H' v a → Q v H') → te σ H Q
section
variable {S T γ : Type} {K : PySem.W.Frag} {Z : SW S} {s : S} {Δ : Env} {te ta tb to : TE} {t : TA} {tt : TT} {ts tu : TS} {Wp : Hp → Prop} {X : S → Prop} {N : S → Env → Prop} {Rt : S → A → Prop} {Bk Ct : S → Env → Prop} {R R' : S → A → Prop}
theorem yx_of (h : YE K Z s te Δ R) : YX K Z s Wp X te Δ R := fun σ H j st _ => h σ H j st
theorem yx_mono (h : YX K Z s Wp X te Δ R) (m : ∀ t a, R t a → R' t a) : YX K Z s Wp X te Δ R' := fun σ H j st wx Q q => h σ H j st wx Q fun v H' t a f r i => q v H' t a f (m t a r) i
theorem yx_op {r : R2} {Ra : S → A → Prop} {Rb : S → A → A → Prop} (ha : YX K Z s Wp X ta Δ Ra) (hb : ∀ t a, Ra t a → XE K (Z.at t) tb Δ (Rb t a)) (hr : ∀ t a b, Ra t a → Rb t a b → OX K (Z.at t) r a b (R t)) : YX K Z s Wp X (tOp r ta tb) Δ R := fun σ H j st wx Q q =>
  ha σ H j st wx _ fun v H1 t a f1 ra i1 => hb t a ra σ H1 f1.j (st.go f1) _ fun w H2 b f2 rb i2 => hr t a b ra rb v w H2 f2.j (Is.go f2 i1) i2 Q fun x H3 c f3 rc i3 => q x H3 t c ((f1.go f2).go f3) rc i3
theorem yx_if {b : Bool} (h : XB K (Z.at s) tt Δ b) (h1 : b = true → YX K Z s Wp X ta Δ R) (h2 : b = false → YX K Z s Wp X tb Δ R) : YX K Z s Wp X (tIf tt ta tb) Δ R := fun σ H j st wx Q q => h σ H j st _ fun v H1 f e => by
  subst e
  cases v with
  | true => exact iteT (h1 rfl σ H1 f.j (st.go f) (fun H' u f' => wx H' u (f.go f')) Q fun c H2 u z f2 r i => q c H2 u z (f.go f2) r i)
  | false => exact iteF (h2 rfl σ H1 f.j (st.go f) (fun H' u f' => wx H' u (f.go f')) Q fun c H2 u z f2 r i => q c H2 u z (f.go f2) r i)
theorem ys_setX {i : Nat} (h : YX K Z s Wp X te Δ R) (n : ∀ t a, R t a → N t (Δ.set i (some a))) : YS K Z s Wp X (tAsg te (gName i)) Δ N Rt Bk Ct := fun σ H j st wx D nx _ _ _ =>
  h σ H j st wx _ fun v H1 t a f r i1 => nx _ H1 t _ f ((st.go f).set i i1) (n t a r)
theorem ys_dropX (h : YX K Z s Wp X te Δ R) (n : ∀ t a, R t a → N t Δ) : YS K Z s Wp X (tDrop te) Δ N Rt Bk Ct := fun σ H j st wx D nx _ _ _ =>
  h σ H j st wx _ fun v H1 t a f r i1 => nx _ H1 t _ f (st.go f) (n t a r)
theorem ys_retX (h : YX K Z s Wp X te Δ R) (m : ∀ t a, R t a → Rt t a) : YS K Z s Wp X (tRet te) Δ N Rt Bk Ct := fun σ H j st wx D _ rt _ _ => h σ H j st wx _ fun v H1 t a f r i1 => rt v H1 t a f (m t a r) i1
theorem ys_ifX {B : S → Bool → Prop} (h : YX K Z s Wp X te Δ fun t a => ∃ b, a = .d (.bool b) ∧ B t b) (h1 : ∀ t, B t true → YS K Z t Wp X ts Δ N Rt Bk Ct) (h2 : ∀ t, B t false → YS K Z t Wp X tu Δ N Rt Bk Ct) : YS K Z s Wp X (tIfS (tTest te) ts tu) Δ N Rt Bk Ct := fun σ H j st wx D nx rt bk ct =>
  h σ H j st wx _ fun v H1 t a f ⟨b, e, hb⟩ i => by
    subst e
    cases i
    refine ⟨_, rfl, ?_⟩
    cases b with
    | true => exact iteT (h1 t hb σ H1 f.j (st.go f) (fun H' u f' => wx H' u (f.go f')) D (fun σ2 H2 u Δ2 f2 => nx σ2 H2 u Δ2 (f.go f2)) (fun v H2 u a f2 => rt v H2 u a (f.go f2)) (fun σ2 H2 u Δ2 f2 => bk σ2 H2 u Δ2 (f.go f2)) fun σ2 H2 u Δ2 f2 => ct σ2 H2 u Δ2 (f.go f2))
    | false => exact iteF (h2 t hb σ H1 f.j (st.go f) (fun H' u f' => wx H' u (f.go f')) D (fun σ2 H2 u Δ2 f2 => nx σ2 H2 u Δ2 (f.go f2)) (fun v H2 u a f2 => rt v H2 u a (f.go f2)) (fun σ2 H2 u Δ2 f2 => bk σ2 H2 u Δ2 (f.go f2)) fun σ2 H2 u Δ2 f2 => ct σ2 H2 u Δ2 (f.go f2))
theorem ys_noR (h : YS K Z s Wp X ts Δ N Rt Bk Ct) {N' : S → Env → Prop} (n : ∀ t Δ', N t Δ' → N' t Δ') : YS K Z s Wp X ts Δ N' Rt Bk Ct := fun σ H j st wx D nx rt bk ct => h σ H j st wx D (fun σ' H' t Δ' f s' z => nx σ' H' t Δ' f s' (n t Δ' z)) rt bk ct
theorem yi_tup {tl : TE} {xs : List PyData} (h : XV K (Z.at s) tl Δ (.d (.tuple xs))) : YI K Z s (iTup K tl) Δ (· = xs.length) fun i a => ∃ d, xs[i]? = some d ∧ a = .d d := fun σ H j st R q =>
  h σ H j st _ fun v H1 a f e i => by
    subst e
    cases i with
    | tup h1 d1 =>
      rename_i p vs
      have g : ∀ {t : S} {H2 : Hp}, Fr (Z.at t) H1 H2 → SqT K H2 p vs := fun {t H2} f2 => sqT_same hid_le (sqT_same (f2.same : Same (hid Z.M H1) (hid Z.M H2)) h1)
      refine ⟨p, rfl, ⟨vs, sqT_same hid_le h1⟩, q _ H1 _ f rfl fun t H2 f2 i => ?_⟩
      refine ⟨fun l => ?_, fun l => ⟨vs, g f2, by rw [d1.length]; exact l⟩⟩
      obtain ⟨v, hv, dv⟩ := d1.get (List.getElem?_eq_getElem l)
      refine ⟨⟨vs, v, g f2, hv⟩, fun x H3 y => ⟨y.1, .d xs[i], ⟨_, List.getElem?_eq_getElem l, rfl⟩, ?_⟩⟩
      have e := y.2 vs (g f2)
      rw [hv] at e
      cases e
      exact dv
/-! ### promises about an object that holds values; an error with a field may be raised -/
theorem wpF_le {M M' : Addr → Prop} {PX PX' : PyData → Prop} {C : Addr} {f : Str} {E : XK} {H : Hp} (h : WpF K M E C f PX H) (le : ∀ a, M a → M' a) (px : ∀ y, PX' y → PX y) : WpF K M' E C f PX' H := fun d v y nd dv p =>
  h d v y nd (Dt.ext (fun b o e => by
    by_cases m : M' b
    · rw [hid_in m] at e; cases e
    · rw [hid_out m] at e
      rw [hid_out fun z => m (le b z)]
      exact e) y v dv) (px y p)
def spX (K : PySem.W.Frag) (Ce : Addr) (f : Str) (o : Addr → T → HO) (hv : γ → List V) (hd : γ → List PyData) (pre : γ → T → A → List A → Prop) (post : γ → T → T → A → Prop) (postX : γ → T → PyData → Prop) : Sp := fun us H Q E =>
  ∃ (g : γ) (S : Type) (Z : SW S) (s : S) (x dx : Addr) (get : S → T) (set : S → T → S) (as : List A), Z.J s H ∧ HasObj Z x (o dx) get set ∧ pre g (get s) (.w (.ref x) (hv g) (hd g)) as ∧ IsAll K Z.M H us as ∧
    (∀ v H' t a, Fr (Z.at (set s t)) H H' → post g (get s) t a → Is K Z.M H' v a → Q v H') ∧ ∀ H' t, Fr (Z.at (set s t)) H H' → WpF K Z.M E Ce f (postX g (get s)) H'
def BodyX (K : PySem.W.Frag) (Ce : Addr) (f : Str) (C : Addr) (fl : T → List (Str × V)) (hv : γ → List V) (hd : γ → List PyData) (N : List Str) (E : XK) (pre : γ → T → A → List A → Prop) (post : γ → T → T → A → Prop) (postX : γ → T → PyData → Prop) (t : TS) : Prop :=
  ∀ (g : γ) (S : Type) (Z : SW S) (s : S) (x dx : Addr) (get : S → T) (set : S → T → S) (as : List A), HasObj Z x (oM C fl dx) get set → pre g (get s) (.w (.ref x) (hv g) (hd g)) as →
    YS K Z s (WpF K Z.M E Ce f (postX g (get s))) (fun u => ∃ t, u = set s t) t (startE N as) (fun u _ => ∃ t, u = set s t ∧ post g (get s) t (.d .none)) (fun u a => ∃ t, u = set s t ∧ post g (get s) t a) NoS NoS
end
section
variable {S T γ : Type} {K : PySem.W.Frag} {Ce C : Addr} {f m : Str} {fl : T → List (Str × V)} {o : Addr → T → HO} {hv : γ → List V} {hd : γ → List PyData} {pre : γ → T → A → List A → Prop} {post : γ → T → T → A → Prop} {postX : γ → T → PyData → Prop} {E : XK} {Z : SW S} {s : S} {x dx : Addr} {get : S → T} {set : S → T → S} {Δ : Env} {te : TE} {ta : TA} {Wp : Hp → Prop} {X : S → Prop}
theorem bodyX_run {L : List Str} {t : TS} (h : BodyX K Ce f C fl hv hd L E pre post postX t) {us : List V} {H : Hp} {Q : VK} (p : spX K Ce f (oM C fl) hv hd pre post postX us H Q E) : t ⟨fun _ H' => Q .non H', Q, fun _ _ => False, fun _ _ => False⟩ (L2.start L us) H := by
  obtain ⟨g, S, Z, s, x, dx, get, set, as, j, ho, pr, i, q, qx⟩ := p
  refine h g S Z s x dx get set as ho pr _ H j (stOk_start i) (fun H' u f ⟨t, e⟩ => ?_) _ (fun σ' H' u Δ' f _ ⟨t, e, ps⟩ => ?_) (fun v H' u a f ⟨t, e, ps⟩ i' => ?_) (fun _ _ _ _ _ _ z => z.elim) fun _ _ _ _ _ _ z => z.elim
  · subst e
    exact qx H' t f
  · subst e
    exact q _ H' t _ f ps .non
  · subst e
    exact q v H' t a f ps i'
theorem spX_len {ps : List Str} (ar : ∀ g t ob as, pre g t ob as → as.length = ps.length) {us : List V} {H : Hp} {Q : VK} (p : spX K Ce f o hv hd pre post postX us H Q E) : us.length = ps.length := by
  obtain ⟨g, S, Z, s, x, dx, get, set, as, j, ho, pr, i, q⟩ := p
  rw [i.length]
  exact ar g _ _ as pr
theorem okX' {P : Program} {w : World} {mg : Str → Option Value} {base : Heap} {k : Nat} {fa : Addr} {fd : FuncData} {ps L : List Str} {x qual : Str} {st : Stmt} (F : Fun K x qual st fa fd) (S : FnScope L ps (defScope st)) (ar : ∀ g t ob as, pre g t ob as → as.length = ps.length)
    (body : ∀ (cdv : Value) (Ar : Around) (outer : List PySem.Env) (s : Shared) (H : Hp) (E : XK), Room k (Ar.deeper (envOfC qual (defScope st) s.heap.objs.size fa cdv)) →
      ∃ t, PSs (cxOf (CX P w) P w K mg base L qual (defScope st) fa cdv Ar outer s H E) (defBody st) t ∧ BodyX K Ce f C fl hv hd L E pre post postX t) : FnOk P w K mg base (CX P w) (k + 1) fa fd ps (spX K Ce f (oM C fl) hv hd pre post postX) :=
  F.okX S (fun us H Q E p => spX_len ar p) fun cdv Ar outer s H us Q E hr h => by
    obtain ⟨t, ht, hb⟩ := body cdv Ar outer s H E hr
    exact ⟨t, ht, bodyX_run hb h⟩
/-- o.m() -/
theorem yx_methX (g : γ) {D : Addr} {M : Addr → Prop} {PX : PyData → Prop} (h : HasObj Z x (o dx) get set) (hx : XV K (Z.at s) te Δ (.w (.ref x) (hv g) (hd g))) (ho : ∀ t, ∃ fs, o dx t = .ins D dx fs ∧ fs.lookup m = none) (p : pre g (get s) (.w (.ref x) (hv g) (hd g)) [.w (.ref x) (hv g) (hd g)])
    (hw : ∀ H, Wp H → WpF K M E Ce f PX H) (hX : ∀ t, X (set s t)) (le : ∀ a, M a → Z.M a) (px : ∀ y, postX g (get s) y → PX y) :
    YX K Z s Wp X (tMeth D m (spX K Ce f o hv hd pre post postX) [] E te tNil) Δ fun u a => ∃ t, u = set s t ∧ post g (get s) t a := fun σ H j st wx Q q =>
  hx σ H j st _ fun v H1 a f1 e i1 => by
    subst e
    have i0 := i1
    obtain ⟨e, dd⟩ := i1
    subst e
    obtain ⟨fs, eo, el⟩ := ho (get s)
    exact ⟨x, dx, fs, rfl, by rw [h.here s H1 f1.j, eo], el, g, S, Z, s, x, dx, get, set, _, f1.j, h, p, .cons (a := .w (.ref x) (hv g) (hd g)) i0 .nil, fun v H' t a f r i => q v H' (set s t) a (f1.go f) ⟨t, rfl, r⟩ i, fun H' t f => wpF_le (hw H' (wx H' (set s t) (f1.go f) (hX t))) le px⟩
/-- f(.., o) -/
theorem yx_callX (g : γ) {as : List A} {M : Addr → Prop} {PX : PyData → Prop} (h : HasObj Z x (o dx) get set) (ha : XAs K (Z.at s) ta Δ as) (p : pre g (get s) (.w (.ref x) (hv g) (hd g)) as)
    (hw : ∀ H, Wp H → WpF K M E Ce f PX H) (hX : ∀ t, X (set s t)) (le : ∀ a, M a → Z.M a) (px : ∀ y, postX g (get s) y → PX y) :
    YX K Z s Wp X (tCall (spX K Ce f o hv hd pre post postX) [] E ta) Δ fun u a => ∃ t, u = set s t ∧ post g (get s) t a := fun σ H j st wx Q q =>
  ha σ H j st _ fun us H1 as' f1 e i1 => by
    subst e
    rw [List.append_nil]
    exact ⟨g, S, Z, s, x, dx, get, set, as', f1.j, h, p, i1, fun v H' t a f r i => q v H' (set s t) a (f1.go f) ⟨t, rfl, r⟩ i, fun H' t f => wpF_le (hw H' (wx H' (set s t) (f1.go f) (hX t))) le px⟩
end
/-! ### a list of one's own in a world with a state -/
section
variable {S T γ : Type} {K : PySem.W.Frag} {Z : SW S} {s : S} {Δ : Env} {te ta tb to : TE} {t : TA} {tt : TT} {ts tu : TS} {Wp : Hp → Prop} {X : S → Prop} {N : S → Env → Prop} {Rt : S → A → Prop} {k : Nat} {H0 H : Hp} {σ : L2.St} {ds : List PyData} {D : Ends}
theorem own_ys1 (o : Own K (Z.at s) k H0 H σ Δ ds) (wx : ∀ H' u, Fr (Z.at u) H0 H' → X u → Wp H') (N : Addr → S → Env → Prop) (h : ∀ p φ, ¬ Z.M p → YS K (Z.add p φ) s Wp X ts (Δ.set k (some (.v (.ref p)))) (N p) (fun _ _ => False) NoS NoS) (hk : ∀ p u Δ', N p u Δ' → Δ'[k]? = some (some (.v (.ref p))))
    (q : ∀ p u σ' H' Δ', N p u Δ' → Own K (Z.at u) k H0 H' σ' (Δ'.set k none) ds → D.nx σ' H') : ts D σ H := by
  obtain ⟨p, vs, n0, m, hp, dd, hs, st⟩ := o.it
  have m : ¬ Z.M p := m
  have es : σ.set k (some (.ref p)) = σ := by
    obtain ⟨l, e⟩ := List.getElem?_eq_some_iff.mp hs
    rw [← e]
    exact List.set_getElem_self l
  have s1 : StOk K (fun a => Z.M a ∨ a = p) H σ (Δ.set k (some (.v (.ref p)))) := by
    have z := st.set (a := .v (.ref p)) (v := .ref p) k rfl
    rwa [es] at z
  have back : ∀ {u : S} {H' : Hp}, Fr ((Z.add p (· = .lst vs)).at u) H H' → Fr (Z.at u) H0 H' := fun {u H'} f => ⟨fun a o' nm e => f.keep a o' (fun z => z.elim nm (ne_of_none e n0)) (o.fr.keep a o' nm e), f.j.1⟩
  refine h p (· = .lst vs) m σ H ⟨o.fr.j, _, hp, rfl⟩ s1 (fun H' u f => wx H' u (back f)) _ (fun σ' H' u Δ' f s' n => ?_) (fun _ _ _ _ _ z => z.elim) (fun _ _ _ _ _ _ z => z.elim) fun _ _ _ _ _ _ z => z.elim
  obtain ⟨w, hp', e⟩ := f.j.2
  subst e
  obtain ⟨v, hv, iv⟩ := s'.get k _ (hk p u Δ' n)
  have iv : v = .ref p := iv
  subst iv
  have es' : σ'.set k (some (.ref p)) = σ' := by
    obtain ⟨l, e⟩ := List.getElem?_eq_some_iff.mp hv
    rw [← e]
    exact List.set_getElem_self l
  have s2 := s'.unset k (some (.ref p))
  rw [es'] at s2
  exact q p u σ' H' Δ' n ⟨back f, p, vs, n0, m, hp', DtAll.ext (f.same : Same (hid (fun a => Z.M a ∨ a = p) H) (hid (fun a => Z.M a ∨ a = p) H')) _ _ dd, hv, s2⟩
/-- what ends the call -/
theorem own_end (o : Own K (Z.at s) k H0 H σ Δ ds) (wx : ∀ H' u, Fr (Z.at u) H0 H' → X u → Wp H') (h : YS K Z s Wp X ts (Δ.set k (some (.d (.list ds)))) (fun _ _ => False) Rt NoS NoS) (rt : ∀ v H' u a, Fr (Z.at u) H0 H' → Rt u a → Is K Z.M H' v a → D.rt v H') : ts D σ H :=
  h σ H o.fr.j o.st (fun H' u f => wx H' u (o.fr.go f)) D (fun _ _ _ _ _ _ z => z.elim) (fun v H' u a f => rt v H' u a (o.fr.go f)) (fun _ _ _ _ _ _ z => z.elim) fun _ _ _ _ _ _ z => z.elim
theorem own_whileS (Inv : Nat → S → Env → List PyData → Prop) (o : Own K (Z.at s) k H0 H σ Δ ds) (h0 : ∃ m, Inv m s Δ ds)
    (hs : ∀ m u σ1 H1 Δ1 ds1, Inv m u Δ1 ds1 → Own K (Z.at u) k H0 H1 σ1 Δ1 ds1 → ∃ b, XB K (Z.at u) tt (Δ1.set k (some (.d (.list ds1)))) b ∧
      (b = true → ∀ H2, Own K (Z.at u) k H0 H2 σ1 Δ1 ds1 → ∀ N : L2.St → Hp → Prop, (∀ u' σ3 H3 Δ3 ds3 m', m' < m → Inv m' u' Δ3 ds3 → Own K (Z.at u') k H0 H3 σ3 Δ3 ds3 → N σ3 H3) → ts { D with nx := N, ct := N, bk := D.nx } σ1 H2) ∧
      (b = false → ∀ H2, Own K (Z.at u) k H0 H2 σ1 Δ1 ds1 → D.nx σ1 H2)) : tWhile tt ts D σ H := by
  obtain ⟨m0, i0⟩ := h0
  refine ⟨fun m σ2 H2 => ∃ u Δ2 ds2, Own K (Z.at u) k H0 H2 σ2 Δ2 ds2 ∧ Inv m u Δ2 ds2, ⟨m0, s, Δ, ds, o, i0⟩, ?_⟩
  rintro m σ2 H2 ⟨u, Δ2, ds2, o2, v2⟩
  obtain ⟨b, hb, h1, h2⟩ := hs m u σ2 H2 Δ2 ds2 v2 o2
  refine hb σ2 H2 o2.fr.j o2.st _ fun b' H3 f e => ?_
  subst e
  cases b' with
  | true => exact iteT ⟨fun σ4 H4 => ∃ m', m' < m ∧ ∃ u' Δ4 ds4, Own K (Z.at u') k H0 H4 σ4 Δ4 ds4 ∧ Inv m' u' Δ4 ds4, fun σ4 H4 h => h, h1 rfl H3 (o2.later f) _ fun u' σ3 H3 Δ3 ds3 m' l v o3 => ⟨m', l, u', Δ3, ds3, o3, v⟩⟩
  | false => exact iteF (h2 rfl H3 (o2.later f))
/-- for x in xs, a list that stood ahead of one's own -/
theorem own_lstS {i j : Nat} {xs : List PyData} {a : Addr} {vs : List V} (o : Own K (Z.at s) k H0 H σ Δ ds) (ne : i ≠ k) (hj : σ[j]? = some (some (.ref a))) (ha : hid Z.M H0 a = some (.lst vs)) (da : DtAll K (hid Z.M H0) vs xs)
    (Inv : Nat → S → Env → List PyData → Prop) (h0 : Inv 0 s Δ ds)
    (hs : ∀ (m : Nat) (x : PyData) (v : V) (u : S) (σ1 : L2.St) (H1 : Hp) (Δ1 : Env) (ds1 : List PyData), xs[m]? = some x → Inv m u Δ1 ds1 → Own K (Z.at u) k H0 H1 (σ1.set i (some v)) (Δ1.set i (some (.d x))) ds1 →
      ∀ N : L2.St → Hp → Prop, (∀ u' σ2 H2 Δ2 ds2, Own K (Z.at u') k H0 H2 σ2 Δ2 ds2 → Inv (m + 1) u' Δ2 ds2 → N σ2 H2) → ts { D with nx := N, ct := N, bk := D.nx } (σ1.set i (some v)) H1)
    (hd : ∀ (u : S) (σ1 : L2.St) (H1 : Hp) (Δ1 : Env) (ds1 : List PyData), Own K (Z.at u) k H0 H1 σ1 Δ1 ds1 → Inv xs.length u Δ1 ds1 → D.nx σ1 H1) : tFor (iList K (tVar j)) (gName i) ts D σ H := by
  have ma : ¬ Z.M a := fun m => by rw [hid_in m] at ha; cases ha
  have ga : ∀ u H2, Fr (Z.at u) H0 H2 → SqL K H2 a vs := fun u H2 f => .inl (.inl (f.keep a _ ma (by rw [hid_out ma] at ha; exact ha)))
  refine ⟨.ref a, hj, a, rfl, ⟨vs, ga s H o.fr⟩, for_list (xs := vs) (fun m σ2 H2 => ∃ u Δ2 ds2, Own K (Z.at u) k H0 H2 σ2 Δ2 ds2 ∧ Inv m u Δ2 ds2) ⟨s, Δ, ds, o, h0⟩ (fun m σ2 H2 _ ⟨u, Δ2, ds2, o2, _⟩ => ga u H2 o2.fr) ?_ ?_⟩
  · rintro m v σ2 H2 hv ⟨u, Δ2, ds2, o2, v2⟩
    have l : m < xs.length := by
      rw [← da.length]
      exact (List.getElem?_eq_some_iff.mp hv).1
    obtain ⟨v', hv', dv⟩ := da.get (List.getElem?_eq_getElem l)
    rw [hv] at hv'
    cases hv'
    obtain ⟨p, us, n0, mp, hp, dd, hk, st⟩ := o2.it
    have iv : Is K (fun a => Z.M a ∨ a = p) H2 v (.d xs[m]) := Dt.ext (same_in (W := Z.at u) (φ := fun _ => True) o2.fr n0) _ _ dv
    refine hs m xs[m] v u σ2 H2 Δ2 ds2 (List.getElem?_eq_getElem l) v2 ⟨o2.fr, p, us, n0, mp, hp, dd, by rw [List.getElem?_set_ne ne]; exact hk, st.set i iv⟩ _ fun u' σ3 H3 Δ3 ds3 o3 v3 => ⟨u', Δ3, ds3, o3, v3⟩
  · rintro σ2 H2 ⟨u, Δ2, ds2, o2, v2⟩
    rw [da.length] at v2
    exact hd u σ2 H2 Δ2 ds2 o2 v2
/-- name, other = [], e -/
theorem own_par {W : Wd} {i : Nat} {b : A} (ne : k ≠ i) (f0 : Fr W H0 H) (st : StOk K W.M H σ Δ) (hk : k < σ.length) (he : ∀ W', XV K W' te Δ b)
    (q : ∀ v w H', Own K W k H0 H' ((σ.set k (some v)).set i (some w)) ((Δ.set k none).set i (some b)) [] → D.nx ((σ.set k (some v)).set i (some w)) H') : tPar k i (tCons (tLst tNil) (tCons te tNil)) D σ H := by
  refine ⟨by decide, fun p np => ?_⟩
  have m : ¬ W.M p := W.fresh f0.j np
  have n0 : H0 p = none := by
    cases z : H0 p with
    | none => rfl
    | some o => rw [f0.keep p o m z] at np; cases np
  have fp : Fr W H (upd H p (.lst [])) := .new f0.j np
  have s1 : StOk K (fun a => W.M a ∨ a = p) (upd H p (.lst [])) σ Δ := st.ext (same_in (φ := fun _ => True) fp np)
  refine he (W.add p (· = .lst [])) σ _ ⟨fp.j, _, upd_same, rfl⟩ s1 _ fun y H2 b' f e ib => ?_
  subst e
  obtain ⟨u, hp2, e⟩ := f.j.2
  subst e
  refine ⟨_, _, rfl, q _ _ H2 ⟨⟨fun a o' nm e => f.keep a o' (fun z => z.elim nm (ne_of_none e n0)) (fp.keep a o' nm (f0.keep a o' nm e)), f.j.1⟩, p, [], n0, m, hp2, .nil, ?_, ?_⟩⟩
  · rw [List.getElem?_set_ne ne.symm, List.getElem?_set_self hk]
  · exact ((s1.fr f).unset k (some (.ref p))).set i ib
/-- one's own grows by what an expression that may raise tells -/
theorem own_appX {P : S → PyData → Prop} (h : Own K (Z.at s) k H0 H σ Δ ds) (wx : ∀ H' u, Fr (Z.at u) H0 H' → X u → Wp H') (small : ds.length ≤ 100000) (he : ∀ p φ, ¬ Z.M p → YX K (Z.add p φ) s Wp X te Δ fun u a => ∃ d, a = .d d ∧ P u d)
    (q : ∀ u H' d, P u d → Own K (Z.at u) k H0 H' σ Δ (ds ++ [d]) → D.nx σ H') : tDrop (tBM K "list" rAppend (tVar k) (tCons te tNil)) D σ H := by
  obtain ⟨p, vs, n0, m, hp, dd, hk, st⟩ := h.it
  have m : ¬ Z.M p := m
  refine ⟨_, hk, .inl ⟨rfl, _, .inl (.inl hp)⟩, ?_⟩
  have back : ∀ {u : S} {H' : Hp}, Fr ((Z.add p (· = .lst vs)).at u) H H' → Fr (Z.at u) H0 H' := fun {u H'} f => ⟨fun a o' nm e => f.keep a o' (fun z => z.elim nm (ne_of_none e n0)) (h.fr.keep a o' nm e), f.j.1⟩
  refine he p (· = .lst vs) m σ H ⟨h.fr.j, _, hp, rfl⟩ st (fun H' u f => wx H' u (back f)) _ fun v H1 u a f1 r i1 => ?_
  obtain ⟨d, e, pd⟩ := r
  subst e
  obtain ⟨u', hp1, e⟩ := f1.j.2
  subst e
  have fb := back f1
  refine ⟨p, vs, v, rfl, rfl, hp1, Nat.lt_of_le_of_lt (by rw [dd.length]; exact small) (by decide), q u _ d pd ⟨?_, p, vs ++ [v], n0, m, upd_same, ?_, hk, ?_⟩⟩
  · refine ⟨fun a o nm e => ?_, Z.loc u H1 _ (fun a ma => upd_ne fun z => m (z ▸ ma)) f1.j.1⟩
    rw [upd_ne (ne_of_none e n0)]
    exact fb.keep a o nm e
  · have : DtAll K (hid (fun a => Z.M a ∨ a = p) H1) (vs ++ [v]) (ds ++ [d]) := DtAll.append (DtAll.ext (f1.same : Same (hid (fun a => Z.M a ∨ a = p) H) (hid (fun a => Z.M a ∨ a = p) H1)) _ _ dd) (.cons i1 .nil)
    have e : hid (fun a => Z.M a ∨ a = p) (upd H1 p (.lst (vs ++ [v]))) = hid (fun a => Z.M a ∨ a = p) H1 := hid_upd (.inr rfl)
    exact e ▸ this
  · have s2 : StOk K (fun a => Z.M a ∨ a = p) H1 σ Δ := st.ext (f1.same : Same (hid (fun a => Z.M a ∨ a = p) H) (hid (fun a => Z.M a ∨ a = p) H1))
    refine s2.ext fun a o e => ?_
    rw [show hid (fun a => (Z.at u).M a ∨ a = p) (upd H1 p (.lst (vs ++ [v]))) = hid (fun a => Z.M a ∨ a = p) H1 from hid_upd (.inr rfl)]
    exact e
end
end V2

set_option Elab.async false
set_option linter.all false
set_option maxRecDepth 100000
set_option maxHeartbeats 2000000
namespace V2
open PySem PySem.Spec PyProof.Rows L2
/-! ### a list that is not to be reached: where it stands and its things alone are known -/
def HasRow (W : Wd) (p : Addr × List V) : Prop := W.M p.1 ∧ ∀ H, W.J H → H p.1 = some (.lst p.2)
def HasRowS {S : Type} (Z : SW S) (p : Addr × List V) : Prop := ∀ s, HasRow (Z.at s) p
theorem HasRow.add {W : Wd} {D : Addr} {φ : HO → Prop} {p : Addr × List V} (h : HasRow W p) : HasRow (W.add D φ) p := ⟨.inl h.1, fun H j => h.2 H j.1⟩
theorem HasRowS.add {S : Type} {Z : SW S} {D : Addr} {φ : HO → Prop} {p : Addr × List V} (h : HasRowS Z p) : HasRowS (Z.add D φ) p := fun s => ⟨.inl (h s).1, fun H j => (h s).2 H j.1⟩
theorem HasRowS.obj {S T : Type} {Z : SW S} {x : Addr} {o : T → HO} {p : Addr × List V} (h : HasRowS Z p) : HasRowS (Z.obj x o) p := fun s => ⟨.inl (h s.1).1, fun H j => (h s.1).2 H j.1⟩
theorem HasRow.of {W : Wd} {p : Addr × List V} (h : HasRow W p) : HasRowS (SW.of W) p := fun _ => h
section
variable {S T γ : Type} {K : PySem.W.Frag} {Ce C : Addr} {f m : Str} {fl : T → List (Str × V)} {o : Addr → T → HO} {hr : γ → Addr × List V} {hd : γ → List PyData} {pre : γ → T → A → List A → Prop} {post : γ → T → T → A → Prop} {postX : γ → T → PyData → Prop} {E : XK} {Z : SW S} {s : S} {W : Wd} {x dx ad : Addr} {rv : List V} {xs : List PyData} {get : S → T} {set : S → T → S} {Δ : Env} {te to : TE} {ta : TA} {ts : TS} {Wp : Hp → Prop} {X : S → Prop}
theorem ox_ixH {i : Int} {z : PyData} (hz : HasRow W (ad, rv)) (h0 : 0 ≤ i) (h : xs[i.toNat]? = some z) : OX K W (rIxL K) (.w (.ref ad) rv xs) (.d (.int i)) (· = .d z) := fun v w H j i1 i2 Q q => by
  cases i2
  obtain ⟨e, dd⟩ := i1
  subst e
  obtain ⟨u, hu, du⟩ := dd.get h
  exact ⟨_, _, _, u, rfl, rfl, .inl (.inl (hz.2 H j)), at_of (j := i.toNat) (by omega) hu, q _ H _ (.refl j) rfl du⟩
theorem cx_lenH (hz : HasRow W (ad, rv)) : CX1 K W (rLen K) [.w (.ref ad) rv xs] (· = .d (.int xs.length)) := fun vs H j i Q q => by
  cases i with
  | cons h t =>
    cases t
    obtain ⟨e, dd⟩ := h
    subst e
    exact ⟨_, _, rfl, .inl (.inl (.inl (hz.2 H j))), by rw [dd.length]; exact q _ H _ (.refl j) rfl (.int _)⟩
theorem xe_fldH (h : HasObj Z x (oM C fl dx) get set) (c : Cls K C) (n : NoAttr K C f) (hv : XV K (Z.at s) to Δ (.w (.ref x) rv xs)) (l : (fl (get s)).lookup f = some (.ref ad)) : XV K (Z.at s) (tFld K to f) Δ (.w (.ref ad) rv xs) := fun σ H j st Q q =>
  hv σ H j st _ fun v H1 a f1 e i1 => by
    subst e
    obtain ⟨e, dd⟩ := i1
    subst e
    exact ⟨x, C, dx, _, _, rfl, h.here s H1 f1.j, c, n, l, q _ H1 _ f1 rfl ⟨rfl, dd⟩⟩
def spR (K : PySem.W.Frag) (Ce : Addr) (f : Str) (o : Addr → T → HO) (hr : γ → Addr × List V) (hd : γ → List PyData) (pre : γ → T → A → List A → Prop) (post : γ → T → T → A → Prop) (postX : γ → T → PyData → Prop) : Sp := fun us H Q E =>
  ∃ (g : γ) (S : Type) (Z : SW S) (s : S) (x dx : Addr) (get : S → T) (set : S → T → S) (as : List A), Z.J s H ∧ HasObj Z x (o dx) get set ∧ HasRowS Z (hr g) ∧ pre g (get s) (.w (.ref x) (hr g).2 (hd g)) as ∧ IsAll K Z.M H us as ∧
    (∀ v H' t a, Fr (Z.at (set s t)) H H' → post g (get s) t a → Is K Z.M H' v a → Q v H') ∧ ∀ H' t, Fr (Z.at (set s t)) H H' → WpF K Z.M E Ce f (postX g (get s)) H'
def BodyR (K : PySem.W.Frag) (Ce : Addr) (f : Str) (C : Addr) (fl : T → List (Str × V)) (hr : γ → Addr × List V) (hd : γ → List PyData) (N : List Str) (E : XK) (pre : γ → T → A → List A → Prop) (post : γ → T → T → A → Prop) (postX : γ → T → PyData → Prop) (t : TS) : Prop :=
  ∀ (g : γ) (S : Type) (Z : SW S) (s : S) (x dx : Addr) (get : S → T) (set : S → T → S) (as : List A), HasObj Z x (oM C fl dx) get set → HasRowS Z (hr g) → pre g (get s) (.w (.ref x) (hr g).2 (hd g)) as →
    YS K Z s (WpF K Z.M E Ce f (postX g (get s))) (fun u => ∃ t, u = set s t) t (startE N as) (fun u _ => ∃ t, u = set s t ∧ post g (get s) t (.d .none)) (fun u a => ∃ t, u = set s t ∧ post g (get s) t a) NoS NoS
theorem bodyR_run {L : List Str} {t : TS} (h : BodyR K Ce f C fl hr hd L E pre post postX t) {us : List V} {H : Hp} {Q : VK} (p : spR K Ce f (oM C fl) hr hd pre post postX us H Q E) : t ⟨fun _ H' => Q .non H', Q, fun _ _ => False, fun _ _ => False⟩ (L2.start L us) H := by
  obtain ⟨g, S, Z, s, x, dx, get, set, as, j, ho, hz, pr, i, q, qx⟩ := p
  refine h g S Z s x dx get set as ho hz pr _ H j (stOk_start i) (fun H' u f ⟨t, e⟩ => ?_) _ (fun σ' H' u Δ' f _ ⟨t, e, ps⟩ => ?_) (fun v H' u a f ⟨t, e, ps⟩ i' => ?_) (fun _ _ _ _ _ _ z => z.elim) fun _ _ _ _ _ _ z => z.elim
  · subst e
    exact qx H' t f
  · subst e
    exact q _ H' t _ f ps .non
  · subst e
    exact q v H' t a f ps i'
theorem spR_len {ps : List Str} (ar : ∀ g t ob as, pre g t ob as → as.length = ps.length) {us : List V} {H : Hp} {Q : VK} (p : spR K Ce f o hr hd pre post postX us H Q E) : us.length = ps.length := by
  obtain ⟨g, S, Z, s, x, dx, get, set, as, j, ho, hz, pr, i, q⟩ := p
  rw [i.length]
  exact ar g _ _ as pr
theorem okR {P : Program} {w : World} {mg : Str → Option Value} {base : Heap} {k : Nat} {fa : Addr} {fd : FuncData} {ps L : List Str} {x qual : Str} {st : Stmt} (F : Fun K x qual st fa fd) (S : FnScope L ps (defScope st)) (ar : ∀ g t ob as, pre g t ob as → as.length = ps.length)
    (body : ∀ (cdv : Value) (Ar : Around) (outer : List PySem.Env) (s : Shared) (H : Hp) (E : XK), Room k (Ar.deeper (envOfC qual (defScope st) s.heap.objs.size fa cdv)) →
      ∃ t, PSs (cxOf (CX P w) P w K mg base L qual (defScope st) fa cdv Ar outer s H E) (defBody st) t ∧ BodyR K Ce f C fl hr hd L E pre post postX t) : FnOk P w K mg base (CX P w) (k + 1) fa fd ps (spR K Ce f (oM C fl) hr hd pre post postX) :=
  F.okX S (fun us H Q E p => spR_len ar p) fun cdv Ar outer s H us Q E hr h => by
    obtain ⟨t, ht, hb⟩ := body cdv Ar outer s H E hr
    exact ⟨t, ht, bodyR_run hb h⟩
/-- o.m() -/
theorem yr_meth (g : γ) {D : Addr} {M : Addr → Prop} {PX : PyData → Prop} (h : HasObj Z x (o dx) get set) (hz : HasRowS Z (hr g)) (hx : XV K (Z.at s) te Δ (.w (.ref x) (hr g).2 (hd g))) (ho : ∀ t, ∃ fs, o dx t = .ins D dx fs ∧ fs.lookup m = none) (p : pre g (get s) (.w (.ref x) (hr g).2 (hd g)) [.w (.ref x) (hr g).2 (hd g)])
    (hw : ∀ H, Wp H → WpF K M E Ce f PX H) (hX : ∀ t, X (set s t)) (le : ∀ a, M a → Z.M a) (px : ∀ y, postX g (get s) y → PX y) :
    YX K Z s Wp X (tMeth D m (spR K Ce f o hr hd pre post postX) [] E te tNil) Δ fun u a => ∃ t, u = set s t ∧ post g (get s) t a := fun σ H j st wx Q q =>
  hx σ H j st _ fun v H1 a f1 e i1 => by
    subst e
    have i0 := i1
    obtain ⟨e, dd⟩ := i1
    subst e
    obtain ⟨fs, eo, el⟩ := ho (get s)
    exact ⟨x, dx, fs, rfl, by rw [h.here s H1 f1.j, eo], el, g, S, Z, s, x, dx, get, set, _, f1.j, h, hz, p, .cons (a := .w (.ref x) (hr g).2 (hd g)) i0 .nil, fun v H' t a f r i => q v H' (set s t) a (f1.go f) ⟨t, rfl, r⟩ i, fun H' t f => wpF_le (hw H' (wx H' (set s t) (f1.go f) (hX t))) le px⟩
/-- f(.., o) -/
theorem yr_call (g : γ) {as : List A} {M : Addr → Prop} {PX : PyData → Prop} (h : HasObj Z x (o dx) get set) (hz : HasRowS Z (hr g)) (ha : XAs K (Z.at s) ta Δ as) (p : pre g (get s) (.w (.ref x) (hr g).2 (hd g)) as)
    (hw : ∀ H, Wp H → WpF K M E Ce f PX H) (hX : ∀ t, X (set s t)) (le : ∀ a, M a → Z.M a) (px : ∀ y, postX g (get s) y → PX y) :
    YX K Z s Wp X (tCall (spR K Ce f o hr hd pre post postX) [] E ta) Δ fun u a => ∃ t, u = set s t ∧ post g (get s) t a := fun σ H j st wx Q q =>
  ha σ H j st _ fun us H1 as' f1 e i1 => by
    subst e
    rw [List.append_nil]
    exact ⟨g, S, Z, s, x, dx, get, set, as', f1.j, h, hz, p, i1, fun v H' t a f r i => q v H' (set s t) a (f1.go f) ⟨t, rfl, r⟩ i, fun H' t f => wpF_le (hw H' (wx H' (set s t) (f1.go f) (hX t))) le px⟩
/-- name = C(e), e such a list: the object holds it -/
theorem ys_makeH {N : S → Env → Prop} {Rt : S → A → Prop} {Bk Ct : S → Env → Prop} {t0 : Addr → T} {sp : Sp} {k : Nat} (he : XV K (Z.at s) te Δ (.w (.ref ad) rv xs))
    (hi : ∀ (x dx : Addr) (H : Hp) (Q : VK), H x = some (.ins C dx []) → Q .non (upd H x (.ins C dx (fl (t0 ad)))) → sp [.ref x, .ref ad] H Q E)
    (h : ∀ x dx, ¬ Z.M x → YS K (Z.obj x (oM C fl dx)) (s, t0 ad) Wp (fun u => X u.1) ts (Δ.set k (some (.w (.ref x) rv xs))) (fun u => N u.1) (fun u => Rt u.1) (fun u => Bk u.1) (fun u => Ct u.1)) :
    YS K Z s Wp X (tSeq (tAsg (tMake C sp [] E (tCons te tNil)) (gName k)) ts) Δ N Rt Bk Ct := fun σ H j st wx D nx rt bk ct =>
  seq_in (show tCons te tNil σ H (fun vs H1 => ∀ x dx, H1 x = none → H1 dx = none → dx ≠ x → sp (.ref x :: (vs ++ [])) (upd (upd H1 dx (.own x)) x (.ins C dx [])) (fun v H2 => v = .non ∧ ts D (σ.set k (some (.ref x))) H2) E) from
    (xa_cons he xa_nil) σ H j st _ fun vs H1 as f1 e i1 => by
      subst e
      cases i1 with
      | cons i1 i2 =>
        cases i2
        obtain ⟨e, dd⟩ := i1
        subst e
        intro x dx nx0 ndx ne
        have fa : Fr (Z.at s) H1 (upd H1 dx (.own x)) := .new f1.j ndx
        have nx1 : (upd H1 dx (.own x)) x = none := by rw [upd_ne ne.symm]; exact nx0
        refine hi x dx _ _ upd_same ⟨rfl, ?_⟩
        have e2 : upd (upd (upd H1 dx (.own x)) x (.ins C dx [])) x (.ins C dx (fl (t0 ad))) = upd (upd H1 dx (.own x)) x (.ins C dx (fl (t0 ad))) := upd_upd
        rw [e2]
        have m : ¬ Z.M x := Wd.fresh (W := Z.at s) f1.j nx0
        have g1 := Grw.fr (s := s) (f1.trans fa)
        have g2 := Grw.obj (o := oM C fl dx) (t0 := t0 ad) fa.j nx1
        have g := g1.trans g2
        have iv : Is K (Z.obj x (oM C fl dx)).M (upd (upd H1 dx (.own x)) x (.ins C dx (fl (t0 ad)))) (.ref x) (.w (.ref x) rv xs) := ⟨rfl, DtAll.ext (fun b u e => g2.sm b u (fa.same (W := Z.at s) b u e)) _ _ dd⟩
        exact ys_in g ((st.ext g.sm).set (a := .w (.ref x) rv xs) k iv) (h x dx m) wx nx rt bk ct)
end
end V2
namespace V2
open PySem PySem.Spec PyProof.Rows L2
/-! ### isinstance of an error with fields -/
def rIsD (K : PySem.W.Frag) (a : Addr) (cls : Value) (d : Option Addr) : List V → Hp → VK → Prop := fun xs H Q => ∃ (D dd : Addr) (fs : List (Str × V)) (c : V) (cv : Value) (b : Bool), cls = .ref D ∧ d = some dd ∧ ExcC K D ∧ xs = [.ref a, c] ∧ H dd = some (.xd fs) ∧ (∀ u, RelV c u → u = cv) ∧ PySem.W.kitOne K (.ref D) cv = some b ∧ Q (.bl b) H
theorem call_isD {X : Cx} {a : Addr} {cls : Value} {d : Option Addr} {oe : Obj} {pn : List (Addr × Obj)} (hz : Zc cls d oe) (hf : ∃ vs, oe.data = .fields vs) : CallR (X.suite a ((a, oe) :: pn)) (.builtin "isinstance") (rIsD X.K a cls d) := by
  intro pins s σ H xs us Q I r h
  obtain ⟨D, dd, fs, c, cv, b, ec, ed, C, exs, hH, hcv, e, q⟩ := h
  subst ec ed exs
  cases r with
  | cons rx rr =>
    cases rr with
    | cons rt rr =>
      cases rr
      cases rx
      have eu := hcv _ rt
      subst eu
      obtain ⟨hget, _⟩ := I.pin (a, oe) (List.mem_append_left _ List.mem_cons_self)
      obtain ⟨vs, hv⟩ := hf
      have hx : ObjOk X.prog X.w H s.heap dd (.xd fs) := I.hok dd _ hH
      obtain ⟨mA, hns, _⟩ := hx
      obtain ⟨od, ho, _⟩ := lookIn_ns hns
      have hcl : (PySem.W.clsIn X.K D).isSome = true := by
        obtain ⟨cd, hc, _⟩ := PySem.W.any_some C.hd
        rw [hc]
        rfl
      have J : PySem.W.InstAt s.heap a oe D (some od) := ⟨hget, hz.1, by unfold PySem.W.notCls; rw [hv], by rw [hz.2]; exact ho⟩
      exact PySem.W.kia_one (PySem.W.kitx_exc hcl C.hg C.hk C.hs C.ha C.hn C.ht C.hm) I.kIn J e (fun z => nomatch z) fun tk => ⟨.bl b, H, I.kept (t' := tk) fun _ _ z => z, rfl, q⟩
theorem cx_isD {K : PySem.W.Frag} {W : Wd} {D q d : Addr} {f : Str} {v : V} {vs : List V} {ds : List PyData} {c : V} {cv : Value} {b : Bool} (C : ExcC K D) (hc : ∀ u, RelV c u → u = cv) (hk : PySem.W.kitOne K (.ref D) cv = some b) : CX1 K (W.err d f v) (rIsD K q (.ref D) (some d)) [.w (.ref q) vs ds, .v c] (· = .d (.bool b)) := fun us H j i Q k => by
  cases i with
  | cons i1 i2 =>
    cases i2 with
    | cons i2 i3 =>
      cases i3
      obtain ⟨e1, _⟩ := i1
      have e2 : _ = c := i2
      subst e1 e2
      obtain ⟨u, hu, eu⟩ := j.2
      subst eu
      exact ⟨D, d, _, _, cv, b, rfl, rfl, C, rfl, hu, hc, hk, k _ H _ (.refl j) rfl (.bl b)⟩
/-! ### a call while all lists that stand are hidden -/
/-- as W, and all lists that stand at H are hidden, and stay as they are -/
def Wd.still (W : Wd) (H : Hp) : Wd where
  M a := W.M a ∨ ∃ vs, H a = some (.lst vs)
  J H' := W.J H' ∧ ∀ a vs, ¬ W.M a → H a = some (.lst vs) → H' a = some (.lst vs)
  live H' a j m := by
    by_cases z : W.M a
    · exact W.live H' a j.1 z
    · rcases m with m | ⟨vs, e⟩
      · exact W.live H' a j.1 m
      · rw [j.2 a vs z e]
        nofun
  loc H1 H2 e j := ⟨W.loc H1 H2 (fun a m => e a (.inl m)) j.1, fun a vs n h => by rw [e a (.inr ⟨vs, h⟩)]; exact j.2 a vs n h⟩
theorem still_j {W : Wd} {H : Hp} (j : W.J H) : (W.still H).J H := ⟨j, fun _ _ _ e => e⟩
theorem still_fr {W : Wd} {H H' : Hp} (f : Fr (W.still H) H H') : Fr W H H' := ⟨fun a o n e => by
  by_cases z : ∃ vs, H a = some (.lst vs)
  · obtain ⟨vs, h⟩ := z
    rw [h] at e
    cases e
    exact f.j.2 a vs n h
  · exact f.keep a o (fun m => m.elim n z) e, f.j.1⟩
theorem still_le {W : Wd} {H H' : Hp} : Same (hid (W.still H).M H') (hid W.M H') := fun a o e => by
  by_cases m : W.M a ∨ ∃ vs, H a = some (.lst vs)
  · rw [hid_in (M := (W.still H).M) m] at e; cases e
  · rw [hid_out (M := (W.still H).M) m] at e
    rw [hid_out fun z => m (.inl z)]
    exact e
mutual
def noLs : PyData → Bool
  | .list _ => false
  | .tuple ds => noLsA ds
  | .dict _ => false
  | _ => true
def noLsA : List PyData → Bool
  | [] => true
  | d :: ds => noLs d && noLsA ds
end
theorem noLsA_of : ∀ {ds : List PyData}, (∀ d ∈ ds, noLs d = true) → noLsA ds = true
  | [], _ => by simp [noLsA]
  | d :: ds, h => by simp [noLsA, h d (.head _), noLsA_of fun x hx => h x (.tail _ hx)]
theorem sqT_still {K : PySem.W.Frag} {W : Wd} {H : Hp} {a : Addr} {xs : List V} (h : SqT K (hid W.M H) a xs) : SqT K (hid (W.still H).M H) a xs := by
  have go : ∀ o, (∀ vs, o ≠ HO.lst vs) → hid W.M H a = some o → hid (W.still H).M H a = some o := fun o n e => by
    by_cases m : W.M a
    · rw [hid_in m] at e; cases e
    · rw [hid_out m] at e
      rw [hid_out fun z : (W.still H).M a => z.elim m fun ⟨vs, h⟩ => by rw [h] at e; cases e; exact n vs rfl]
      exact e
  rcases h with (h | ⟨o, h⟩) | h
  · exact .inl (.inl (go _ (fun _ => nofun) h))
  · exact .inl (.inr ⟨o, go _ (fun _ => nofun) h⟩)
  · exact .inr h
mutual
theorem dt_still {K : PySem.W.Frag} {W : Wd} {H : Hp} : ∀ (d : PyData) (v : V), noLs d = true → Dt K (hid W.M H) v d → Dt K (hid (W.still H).M H) v d
  | .none, _, _, .non => .non
  | .bool _, _, _, .bl b => .bl b
  | .int _, _, _, .int i => .int i
  | .str _, _, _, .str x => .str x
  | .tuple ds, _, n, .tup h q => .tup (sqT_still h) (dta_still ds _ (by simpa only [noLs] using n) q)
  | .list ds, _, n, _ => by simp [noLs] at n
  | .dict ds, _, n, _ => by simp [noLs] at n
theorem dta_still {K : PySem.W.Frag} {W : Wd} {H : Hp} : ∀ (ds : List PyData) (vs : List V), noLsA ds = true → DtAll K (hid W.M H) vs ds → DtAll K (hid (W.still H).M H) vs ds
  | [], _, _, .nil => .nil
  | d :: ds, _, n, .cons h q => by
    simp only [noLsA, Bool.and_eq_true] at n
    exact .cons (dt_still d _ n.1 h) (dta_still ds _ n.2 q)
end
/-- a list that is not hidden there is new -/
theorem still_new {W : Wd} {H H' : Hp} {a : Addr} {vs : List V} (f : Fr (W.still H) H H') (h : hid (W.still H).M H' a = some (.lst vs)) : H a = none ∧ ¬ W.M a ∧ H' a = some (.lst vs) := by
  by_cases m : (W.still H).M a
  · rw [hid_in m] at h; cases h
  · have m' := m
    rw [hid_out m] at h
    refine ⟨?_, fun z => m' (.inl z), h⟩
    cases e : H a with
    | none => rfl
    | some o =>
      have := f.keep a o m e
      rw [h] at this
      cases this
      exact absurd (.inr ⟨vs, e⟩) m'
section
variable {K : PySem.W.Frag} {W : Wd} {Δ : Env} {te : TE} {v : V} {x : PyData}
/-- what is known of a value told, as data -/
theorem xe_asD (h : XV K W te Δ (.w v [v] [x])) : XV K W te Δ (.d x) := fun σ H j st Q q =>
  h σ H j st _ fun u H1 a f e i => by
    subst e
    obtain ⟨e, dd⟩ := i
    subst e
    cases dd with
    | cons d1 _ => exact q _ H1 _ f rfl d1
end
end V2
namespace V2
open PySem PySem.Spec PyProof.Rows L2
/-! ### a list that is tracked is no tuple of the ground -/
def Kn (K : PySem.W.Frag) (H : Hp) : Prop := ∀ a vs o, H a = some (.lst vs) → K.lookup a = some o → o.cls = .type "list"
def tKnow (K : PySem.W.Frag) (t : TS) : TS := fun D σ H => Kn K H → t D σ H
theorem ps_know {X : Cx} {st : Stmt} {t : TS} (h : PS X st t) : PS X st (tKnow X.K t) := ⟨fun pins s σ H D I hk => h.run pins s σ H D I (hk fun a vs o ha ho => by
  obtain ⟨_, its, n, _, e⟩ := I.hok a _ ha
  have e2 := I.kIn a o ho
  have e3 := e.symm.trans e2
  cases e3
  rfl)⟩
/-! ### ["taken", (hands, number)] as it was told: new lists, that may be appended to -/
structure News (K : PySem.W.Frag) (W : Wd) (H H' : Hp) (q tq p : Addr) (hv : List V) (k : Int) (B : Nat) : Prop where
  fr : Fr W H H'
  q0 : H q = none
  q1 : H' q = some (.lst [.str "taken", .ref tq])
  t1 : SqT K (hid W.M H') tq [.ref p, .int k]
  p0 : H p = none
  p1 : H' p = some (.lst hv)
  it : ∀ x ∈ hv, ∃ h us, x = .ref h ∧ H h = none ∧ h ≠ q ∧ (h = p → ∃ o, K.lookup p = some o ∧ o.cls = .type "tuple") ∧ H' h = some (.lst us) ∧ us.length ≤ B
section
variable {K : PySem.W.Frag} {W : Wd} {H H' H1 : Hp} {q tq p : Addr} {hv : List V} {k : Int} {B : Nat}
theorem News.fresh (n : News K W H H' q tq p hv k B) (j : W.J H) {a : Addr} (h : H a = none) : ¬ W.M a := W.fresh j h
theorem News.later (n : News K W H H' q tq p hv k B) (j : W.J H) (f : Fr W H' H1) : News K W H H1 q tq p hv k B where
  fr := n.fr.trans f
  q0 := n.q0
  q1 := f.keep _ _ (W.fresh j n.q0) n.q1
  t1 := sqT_same f.same n.t1
  p0 := n.p0
  p1 := f.keep _ _ (W.fresh j n.p0) n.p1
  it := fun x hx => by
    obtain ⟨h, us, e, h0, nq, np, h1, l⟩ := n.it x hx
    exact ⟨h, us, e, h0, nq, np, f.keep _ _ (W.fresh j h0) h1, l⟩
theorem sqT_put {a h : Addr} {xs us vs : List V} (hh : H h = some (.lst us)) (hs : SqT K (hid W.M H) a xs) : SqT K (hid W.M (upd H h (.lst vs))) a xs := by
  have go : ∀ o, (∀ vs, o ≠ HO.lst vs) → hid W.M H a = some o → hid W.M (upd H h (.lst vs)) a = some o := fun o n e => by
    by_cases m : W.M a
    · rw [hid_in m] at e; cases e
    · rw [hid_out m] at e ⊢
      rw [upd_ne fun z => by rw [z, hh] at e; cases e; exact n _ rfl]
      exact e
  rcases hs with (hs | ⟨o, hs⟩) | hs
  · exact .inl (.inl (go _ (fun _ => nofun) hs))
  · exact .inl (.inr ⟨o, go _ (fun _ => nofun) hs⟩)
  · exact .inr hs
theorem fr_put {h : Addr} {vs : List V} (j : W.J H) (f : Fr W H H') (h0 : H h = none) : Fr W H (upd H' h (.lst vs)) := ⟨fun a o m e => by
  rw [upd_ne (ne_of_none e h0)]
  exact f.keep a o m e, W.loc H' _ (fun a m => upd_ne fun z => W.fresh j h0 (z ▸ m)) f.j⟩
/-- one of the hands grows -/
theorem News.put (n : News K W H H' q tq p hv k B) (j : W.J H) {h : Addr} {us : List V} {v : V} (h0 : H h = none) (nq : h ≠ q) (np : h ≠ p) (h1 : H' h = some (.lst us)) (l : us.length ≤ B) : News K W H (upd H' h (.lst (us ++ [v]))) q tq p hv k (B + 1) where
  fr := fr_put j n.fr h0
  q0 := n.q0
  q1 := by rw [upd_ne nq.symm]; exact n.q1
  t1 := sqT_put h1 n.t1
  p0 := n.p0
  p1 := by rw [upd_ne np.symm]; exact n.p1
  it := fun x hx => by
    obtain ⟨g, ws, e, g0, gq, gp, g1, gl⟩ := n.it x hx
    by_cases z : g = h
    · subst z
      exact ⟨g, us ++ [v], e, g0, gq, gp, upd_same, by rw [List.length_append]; show us.length + 1 ≤ B + 1; omega⟩
    · exact ⟨g, ws, e, g0, gq, gp, by rw [upd_ne z]; exact g1, by omega⟩
/-- the parts of what was told, where all lists that stood were hidden -/
theorem news_of {v : V} {hs : List (List PyData)} (f : Fr (W.still H) H H') (d : Dt K (hid (W.still H).M H') v (.list [.str "taken", .tuple [.list (hs.map PyData.list), .int k]])) (tu : ∀ l ∈ hs, ∀ x ∈ l, ∃ ds, x = .tuple ds) (ln : ∀ l ∈ hs, l.length ≤ B) :
    ∃ q tq p hv, v = .ref q ∧ News K W H H' q tq p hv k B ∧ hv.length = hs.length := by
  cases d with
  | lst hq dq =>
    cases dq with
    | cons d1 d2 =>
      cases d1
      cases d2 with
      | cons d2 d3 =>
        cases d3
        cases d2 with
        | tup ht dt =>
          cases dt with
          | cons d4 d5 =>
            cases d5 with
            | cons d5 d6 =>
              cases d5
              cases d6
              cases d4 with
              | lst hp dp =>
                rename_i q tq p hv
                obtain ⟨q0, qm, q1⟩ := still_new f hq
                obtain ⟨p0, pm, p1⟩ := still_new f hp
                refine ⟨q, tq, p, hv, rfl, ⟨still_fr f, q0, q1, sqT_same still_le ht, p0, p1, fun x hx => ?_⟩, by rw [dp.length, List.length_map]⟩
                obtain ⟨i, hi⟩ := List.getElem?_of_mem hx
                have li : i < (hs.map PyData.list).length := by rw [← dp.length]; exact (List.getElem?_eq_some_iff.mp hi).1
                obtain ⟨x', hx', dx⟩ := dp.get (List.getElem?_eq_getElem li)
                rw [hi] at hx'
                cases hx'
                rw [List.length_map] at li
                rw [List.getElem_map] at dx
                have ml : hs[i] ∈ hs := List.getElem_mem li
                cases dx with
                | lst hh dh =>
                  rename_i h us
                  obtain ⟨h0, hm, h1⟩ := still_new f hh
                  have one : ∀ {ys : List V} {j : Nat} {y : V}, us = ys → ys[j]? = some y → ∃ ds, Dt K (hid (W.still H).M H') y (.tuple ds) := fun {ys j y} e hj => by
                    subst e
                    have lj : j < hs[i].length := by rw [← dh.length]; exact (List.getElem?_eq_some_iff.mp hj).1
                    obtain ⟨y', hy', dy⟩ := dh.get (List.getElem?_eq_getElem lj)
                    rw [hj] at hy'
                    cases hy'
                    obtain ⟨ds, e⟩ := tu _ ml _ (List.getElem_mem lj)
                    rw [e] at dy
                    exact ⟨ds, dy⟩
                  refine ⟨h, us, rfl, h0, fun z => ?_, fun z => ?_, h1, by rw [dh.length]; exact ln _ ml⟩
                  · rw [z, q1] at h1
                    obtain ⟨ds, dd⟩ := one (Option.some.inj h1 |> fun e => (HO.lst.inj e).symm) (j := 0) rfl
                    cases dd
                  · subst z
                    rw [p1] at h1
                    obtain ⟨ds, dd⟩ := one (Option.some.inj h1 |> fun e => (HO.lst.inj e).symm) hi
                    cases dd with
                    | tup hs' _ =>
                      rcases hs' with (hs' | ⟨o, hs'⟩) | ⟨o, its, n, hk, hc, _⟩
                      · rw [hs'] at hp; cases hp
                      · rw [hs'] at hp; cases hp
                      · exact ⟨o, hk, hc⟩
theorem te_hands {i : Nat} {σ : L2.St} {Q : VK} (n : News K W H H' q tq p hv k B) (e : σ[i]? = some (some (.ref q))) (h : Q (.ref p) H') : tOp (rIxT K) (tOp (rIxL K) (tVar i) (tC (.int 1))) (tC (.int 0)) σ H' Q :=
  ⟨_, e, q, _, 1, .ref tq, rfl, rfl, .inl (.inl n.q1), rfl, tq, _, 0, .ref p, rfl, rfl, sqT_same hid_le n.t1, rfl, h⟩
/-- for hand in told[1][0]: hand.append(None) -/
theorem news_for {i c : Nat} {σ : L2.St} {Δ : Env} {D : Ends} (ne : c ≠ i) (lc : c < σ.length) (kn : Kn K H') (n : News K W H H' q tq p hv k B) (j : W.J H) (st : StOk K W.M H σ Δ) (nc : Δ.set c none = Δ) (e : σ[i]? = some (some (.ref q))) (small : B + hv.length ≤ 100000)
    (hd : ∀ σ1 H1, News K W H H1 q tq p hv k (B + hv.length) → StOk K W.M H σ1 Δ → σ1[i]? = some (some (.ref q)) → D.nx σ1 H1) :
    tFor (iList K (tOp (rIxT K) (tOp (rIxL K) (tVar i) (tC (.int 1))) (tC (.int 0)))) (gName c) (tDrop (tBM K "list" rAppend (tVar c) (tCons (tC .non) tNil))) D σ H' := by
  refine te_hands n e ⟨p, rfl, ⟨hv, .inl (.inl n.p1)⟩, for_list (xs := hv) (fun m σ1 H1 => News K W H H1 q tq p hv k (B + m) ∧ StOk K W.M H σ1 Δ ∧ σ1[i]? = some (some (.ref q)) ∧ σ1.length = σ.length) ⟨n, st, e, rfl⟩ (fun m σ1 H1 _ ⟨n1, _⟩ => .inl (.inl n1.p1)) ?_ fun σ1 H1 ⟨n1, s1, e1, _⟩ => hd σ1 H1 n1 s1 e1⟩
  rintro m x σ1 H1 hx ⟨n1, s1, e1, l1⟩
  obtain ⟨h, us, ex, h0, nq, np, h1, l⟩ := n1.it x (List.mem_of_getElem? hx)
  subst ex
  obtain ⟨h', us', ex', _, _, np', _, _⟩ := n.it _ (List.mem_of_getElem? hx)
  cases ex'
  have nph : h ≠ p := fun z => by
    obtain ⟨o, hk, hc⟩ := np' z
    have := kn p _ o n.p1 hk
    rw [hc] at this
    exact absurd this (by decide)
  have lm : m < hv.length := (List.getElem?_eq_some_iff.mp hx).1
  refine ⟨.ref h, List.getElem?_set_self (by omega), .inl ⟨rfl, _, .inl (.inl h1)⟩, ?_⟩
  refine ⟨h, us, .non, rfl, rfl, h1, Nat.lt_of_le_of_lt (Nat.le_trans l (Nat.le_trans (by omega) small)) (by decide), n1.put j h0 nq nph h1 l, ?_, ?_, ?_⟩
  · have := s1.unset c (some (.ref h))
    rwa [nc] at this
  · rw [List.getElem?_set_ne ne]; exact e1
  · rw [List.length_set]; exact l1
/-- told[1][0].append(None) -/
theorem news_app {i : Nat} {σ : L2.St} {D : Ends} (n : News K W H H' q tq p hv k B) (j : W.J H) (e : σ[i]? = some (some (.ref q))) (small : hv.length ≤ 100000) (hd : ∀ H1, Fr W H H1 → D.nx σ H1) :
    tDrop (tBM K "list" rAppend (tOp (rIxT K) (tOp (rIxL K) (tVar i) (tC (.int 1))) (tC (.int 0))) (tCons (tC .non) tNil)) D σ H' :=
  te_hands n e ⟨.inl ⟨rfl, _, .inl (.inl n.p1)⟩, p, hv, .non, rfl, rfl, n.p1, Nat.lt_of_le_of_lt small (by decide), hd _ (fr_put j n.fr n.p0)⟩
end
end V2

set_option Elab.async false
set_option linter.all false
set_option maxRecDepth 100000
set_option maxHeartbeats 2000000
namespace V2
open PySem PySem.Spec PyProof.Rows L2
/-! ### list(text) -/
def kLstS (x : V) (H : Hp) (Q : VK) : Prop := ∃ b : Str, x = .str b ∧ b.cps.size ≤ sizeLine ∧ ∀ q, H q = none → Q (.ref q) (upd H q (.lst (b.cps.toList.map fun c => V.str (oneS c))))
section
variable {X : Cx}
theorem rl_listS (hc : X.calm = true) (pins : List (Addr × Obj)) (s : Shared) (σ : L2.St) (H : Hp) (x : V) (v : Value) (Q : VK) (I : Inv X pins σ H s) (r : RelV x v) (h : kLstS x H Q) :
    wpAny (model X.prog X.w) X.A (call (.type "list") [v]) (EP X pins σ Q) X.xe s := by
  obtain ⟨b, rfl, hz, q⟩ := h
  obtain ⟨t, rfl⟩ := r
  refine call_list_str (hn := hz) (I.ok.hd hc) b t fun h' tk acc c' hk e hi => ?_
  refine ⟨.ref s.heap.objs.size, upd H s.heap.objs.size (.lst (b.cps.toList.map fun c => V.str (oneS c))), I.laid hk (Nat.le_refl _) ⟨by rw [List.length_map, Array.length_toList]; exact hz, acc.toList, c', ?_, by rw [Array.toArray_toList]; exact e⟩, rfl, q _ (I.hok.fresh (Nat.le_refl _))⟩
  refine vals_of_idx _ _ (by rw [List.length_map, Array.length_toList, Array.length_toList]; exact hi.1) fun j u hj => ?_
  obtain ⟨c, t', hc, rfl⟩ := hi.2 j u (by rw [← Array.getElem?_toList]; exact hj)
  exact ⟨.str (oneS c), by simp [hc], ⟨_, rfl⟩⟩
theorem pe_listOfS {a : Expr} {ta : TE} {p pos : Pos} (hc : X.calm = true) (hg : Gl X "list") (hm : X.mg "list" = none) (ha : PE X a ta) (na : starEach [a] X.env = (false, eval a X.env) :: starEach [] X.env := by rfl) :
    PE X (.Call (.Name "list" p) [a] [] pos) (tThenZ ta kLstS) := pe_callTy (call_r1 (rl_listS hc)) hg hm (by decide +kernel) (pa_cons ha pa_nil na) (he := na)
end
/-! ### int(text), text in text -/
def inS (a b : Str) : Bool := !(Builtin.Str.occurrences b a 0 b.length 1).isEmpty
def rInStr : R2 := fun x y H Q => ∃ i j, x = .str i ∧ y = .str j ∧ Q (.bl (!(Builtin.Str.occurrences j i 0 j.length 1).isEmpty)) H
theorem op_inStr {X : Cx} : OpR X (compareOp .In) rInStr := op_in_str
section
variable {K : PySem.W.Frag} {W : Wd} {Δ : Env} {te ta tb td ty : TE}
theorem ox_inStr {a b : Str} : OX K W rInStr (.d (.str a)) (.d (.str b)) (· = .d (.bool (inS a b))) := fun v w H j i1 i2 Q q => by
  cases i1; cases i2
  exact ⟨a, b, rfl, rfl, q _ H _ (.refl j) rfl (.bl _)⟩
/-- a display of texts, read at a key that is there -/
theorem xe_dispS {ps : List (Str × Str)} (l : ps.length ≤ 15) : XV K W (tDisp (tStrs ps)) Δ (.d (KD (mergeS [] ps))) := fun σ H j st Q q =>
  disp_strs l fun p np => q _ _ _ (.new j np) rfl (.dct (hid_new j np) (dtkv_of _))
theorem xe_dgetK {kvs : List (Str × Str)} {c z : Str} (h : XV K W td Δ (.d (KD kvs))) (hy : XV K W ty Δ (.d (.str c))) (hz : valV (KV2 kvs) (Sum.inr c) = some (.str z)) : XV K W (tDGet td ty) Δ (.d (.str z)) := fun σ H j s Q q =>
  h σ H j s _ fun v H1 a f1 e i1 => by
    subst e
    cases i1 with
    | dct ha hk =>
      rename_i p es
      obtain rfl := dtkv_is hk
      have m : ¬ W.M p := fun m => by rw [hid_in m] at ha; cases ha
      rw [hid_out m] at ha
      refine hy σ H1 f1.j (s.fr f1) _ fun w H2 b f2 e i2 => ?_
      subst e
      cases i2
      have g := DGet.k (k := Sum.inr c) (f2.keep p _ m ha)
      rw [hz] at g
      exact ⟨p, .str z, rfl, g, q _ H2 _ (f1.trans f2) rfl (.str _)⟩
end
theorem gx_tup4 {K : PySem.W.Frag} {W : Wd} {Δ : Env} {i j k l : Nat} {x y z t : PyData} : GX K W (gTup K 4 (gCons (gName i) (gCons (gName j) (gCons (gName k) (gCons (gName l) gNil))))) (.d (.tuple [x, y, z, t])) Δ ((((Δ.set i (some (.d x))).set j (some (.d y))).set k (some (.d z))).set l (some (.d t))) := fun v σ H jj s ii Q q => by
  cases ii with
  | tup h1 d1 =>
    cases d1 with
    | cons dx d2 =>
      cases d2 with
      | cons dy d3 =>
        cases d3 with
        | cons dz d4 =>
          cases d4 with
          | cons dt d5 =>
            cases d5
            exact ⟨_, _, rfl, sqT_same hid_le h1, rfl, _, _, rfl, _, _, rfl, _, _, rfl, _, _, rfl, rfl, q _ H (.refl jj) ((((s.set (a := .d x) i dx).set (a := .d y) j dy).set (a := .d z) k dz).set (a := .d t) l dt)⟩
/-! ### a walk over a text beside a list of one's own; a walk whose states are told outright -/
section
variable {K : PySem.W.Frag} {W : Wd} {Δ : Env} {k : Nat} {H0 H : Hp} {σ : L2.St} {ds : List PyData} {D : Ends} {i j : Nat} {tb : TS} {x : Str}
theorem for_str {g : TG} (Pv : Nat → L2.St → Hp → Prop) (h0 : Pv 0 σ H) (hs : ∀ m c σ1 H1, x.cps[m]? = some c → Pv m σ1 H1 → g (.str (oneS c)) σ1 H1 fun σ2 H2 => tb { D with nx := Pv (m + 1), ct := Pv (m + 1), bk := D.nx } σ2 H2) (hd : ∀ σ1 H1, Pv x.cps.size σ1 H1 → D.nx σ1 H1) :
    ∃ W : Nat → Nat → L2.St → Hp → Prop, (∃ m, W 0 m σ H) ∧ ∀ i m σ H, W i m σ H →
      ((Its x).stop i H ∧ D.nx σ H) ∨ ((Its x).go i H ∧ ∃ N : L2.St → Hp → Prop, (∀ σ' H', N σ' H' → ∃ m', m' < m ∧ W (i + 1) m' σ' H') ∧ ∀ x' H', (Its x).yld i H x' H' → g x' σ H' fun σ2 H2 => tb { D with nx := N, ct := N, bk := D.nx } σ2 H2) := by
  refine ⟨fun i m σ H => m = x.cps.size - i ∧ i ≤ x.cps.size ∧ Pv i σ H, ⟨x.cps.size, by simp, Nat.zero_le _, h0⟩, ?_⟩
  rintro i m σ H ⟨rfl, hi, p⟩
  by_cases l : i < x.cps.size
  · refine .inr ⟨l, Pv (i + 1), fun σ' H' p' => ⟨x.cps.size - (i + 1), by omega, rfl, l, p'⟩, ?_⟩
    rintro y H' ⟨e, c, hc, ey⟩
    subst e ey
    exact hs i c σ H' hc p
  · obtain rfl : i = x.cps.size := by omega
    exact .inl ⟨Nat.le_refl _, hd σ H p⟩
theorem own_str (o : Own K W k H0 H σ Δ ds) (ne : i ≠ k) (hj : σ[j]? = some (some (.str x))) (Inv : Nat → Env → List PyData → Prop) (h0 : Inv 0 Δ ds)
    (hs : ∀ (m : Nat) (c : Nat) (σ1 : L2.St) (H1 : Hp) (Δ1 : Env) (ds1 : List PyData), x.cps[m]? = some c → Inv m Δ1 ds1 → Own K W k H0 H1 (σ1.set i (some (.str (oneS c)))) (Δ1.set i (some (.d (.str (oneS c))))) ds1 →
      ∀ N : L2.St → Hp → Prop, (∀ σ2 H2 Δ2 ds2, Own K W k H0 H2 σ2 Δ2 ds2 → Inv (m + 1) Δ2 ds2 → N σ2 H2) → tb { D with nx := N, ct := N, bk := D.nx } (σ1.set i (some (.str (oneS c)))) H1)
    (hd : ∀ (σ1 : L2.St) (H1 : Hp) (Δ1 : Env) (ds1 : List PyData), Own K W k H0 H1 σ1 Δ1 ds1 → Inv x.cps.size Δ1 ds1 → D.nx σ1 H1) : tFor (iStr (tVar j)) (gName i) tb D σ H := by
  refine ⟨.str x, hj, x, rfl, for_str (x := x) (fun m σ2 H2 => ∃ Δ2 ds2, Own K W k H0 H2 σ2 Δ2 ds2 ∧ Inv m Δ2 ds2) ⟨Δ, ds, o, h0⟩ ?_ ?_⟩
  · rintro m c σ2 H2 hc ⟨Δ2, ds2, o2, v2⟩
    exact hs m c σ2 H2 Δ2 ds2 hc v2 (own_other o2 ne fun M => Dt.str _) _ fun σ3 H3 Δ3 ds3 o3 v3 => ⟨Δ3, ds3, o3, v3⟩
  · rintro σ2 H2 ⟨Δ2, ds2, o2, v2⟩
    exact hd σ2 H2 Δ2 ds2 o2 v2
end
/-! ### f(..) that may raise, in the body of one that may; try: f(..) except C as e: suite -/
section
variable {γ S : Type} {K : PySem.W.Frag} {Ce : Addr} {f : Str} {pre : γ → Wd → List A → Prop} {post : γ → A → Prop} {postX : γ → PyData → Prop} {Z : SW S} {s : S} {Δ : Env} {ta : TA} {E : XK} {Wp : Hp → Prop} {X : S → Prop}
theorem yx_callE (g : γ) {as : List A} {M : Addr → Prop} {PX : PyData → Prop} (ha : XAs K (Z.at s) ta Δ as) (p : pre g (Z.at s) as) (hw : ∀ H, Wp H → WpF K M E Ce f PX H) (hX : X s) (le : ∀ a, M a → Z.M a) (px : ∀ y, postX g y → PX y) :
    YX K Z s Wp X (tCall (spE K Ce f pre post postX) [] E ta) Δ fun u a => u = s ∧ post g a := fun σ H j st wx Q q =>
  ha σ H j st _ fun us H1 as' f1 e i1 => by
    subst e
    rw [List.append_nil]
    exact ⟨g, Z.at s, as', f1.j, p, i1, fun v H' a f r i => q v H' s a (f1.trans f) ⟨rfl, r⟩ i, fun H' f => wpF_le (hw H' (wx H' s (f1.trans f) hX)) le px⟩
end
section
variable {γ : Type} {K : PySem.W.Frag} {Ce : Addr} {f : Str} {pre : γ → Wd → List A → Prop} {post : γ → A → Prop} {postX : γ → PyData → Prop} {W : Wd} {Δ : Env} {ta : TA} {N : Env → Prop} {Rt : A → Prop} {Bk Ct : Env → Prop} {ts : Addr → Value → Option Addr → TS} {Wout : WX}
theorem xs_trydropE {i : Nat} (g : γ) {as : List A} (ha : XAs K W ta Δ as) (p : pre g W as) (ex : PySem.W.exmOne K (.ref Ce) (.ref Ce) = some true) (hn : ∀ a, post g a → N Δ)
    (hx : ∀ q d v y, postX g y → ¬ W.M d → XS K (W.err d f v) (ts q (.ref Ce) (some d)) (Δ.set i (some (.w (.ref q) [v] [y]))) (fun Δ' => N (Δ'.set i none)) Rt (fun Δ' => Bk (Δ'.set i none)) (fun Δ' => Ct (Δ'.set i none))) :
    XS K W (fun D σ H => tDrop (tCallS (spE K Ce f pre post postX) (WE (wAs K (.ref Ce) i ts Wout D)) ta) D σ H) Δ N Rt Bk Ct := fun σ H j st D nx rt bk ct =>
  ha σ H j st _ fun us H1 as' f1 e i1 => by
    subst e
    refine ⟨g, W, as', f1.j, p, i1, fun v H' a f r i => nx _ H' _ (f1.trans f) (st.fr (f1.trans f)) (hn a r), fun H2 f2 d v y nd dv px => ?_⟩
    refine ⟨true, ex, fun _ q hq => ?_, fun z => nomatch z⟩
    have f12 := f1.trans f2
    have md : ¬ W.M d := W.fresh f2.j nd
    have jj : (W.err d f v).J (upd H2 d (.xd [(f, v)])) := ⟨W.loc H2 _ (fun a m => upd_ne fun z => md (z ▸ m)) f2.j, _, upd_same, rfl⟩
    have st2 : StOk K (W.err d f v).M (upd H2 d (.xd [(f, v)])) σ Δ := StOk.add f2.j (st.fr f12) nd
    have iv : Is K (W.err d f v).M (upd H2 d (.xd [(f, v)])) (.ref q) (.w (.ref q) [v] [y]) := ⟨rfl, .cons (Is.add (a := .d y) (φ := (· = .xd [(f, v)])) dv nd) .nil⟩
    exact hx q d v y px md _ _ jj (st2.set i iv) _ (fun σ' H' Δ' g s' z => nx _ H' _ (f12.trans (err_back nd g)) ((s'.ext hid_add_le).unset i none) z) (fun v' H' a g r i => rt v' H' a (f12.trans (err_back nd g)) r (i.ext hid_add_le))
      (fun σ' H' Δ' g s' z => bk _ H' _ (f12.trans (err_back nd g)) ((s'.ext hid_add_le).unset i none) z) fun σ' H' Δ' g s' z => ct _ H' _ (f12.trans (err_back nd g)) ((s'.ext hid_add_le).unset i none) z
end
end V2

set_option Elab.async false
set_option linter.all false
set_option maxRecDepth 100000
set_option maxHeartbeats 2000000
namespace V2
open PySem PySem.Spec PyProof.Rows L2
/-! ### a dict of one's own that holds two lists and two numbers -/
structure SR where
  ms : List PyData
  bs : List PyData
  h : Int
  n : Int
def stK (m b : Addr) (h n : Int) : List (Key × V) := [(.inr "marks", .ref m), (.inr "body", .ref b), (.inr "hands", .int h), (.inr "deep", .int n)]
theorem stK_m {m b : Addr} {h n : Int} : valV (stK m b h n) (.inr "marks") = some (.ref m) := rfl
theorem stK_b {m b : Addr} {h n : Int} : valV (stK m b h n) (.inr "body") = some (.ref b) := rfl
theorem stK_h {m b : Addr} {h n : Int} : valV (stK m b h n) (.inr "hands") = some (.int h) := rfl
theorem stK_n {m b : Addr} {h n : Int} : valV (stK m b h n) (.inr "deep") = some (.int n) := rfl
theorem stK_ph {m b : Addr} {h n k : Int} : putK (stK m b h n) (.inr "hands") (.int k) = stK m b k n := rfl
theorem stK_pn {m b : Addr} {h n k : Int} : putK (stK m b h n) (.inr "deep") (.int k) = stK m b h k := rfl
def M3 (W : Wd) (d m b : Addr) : Addr → Prop := fun a => ((W.M a ∨ a = d) ∨ a = m) ∨ a = b
abbrev W3 (W : Wd) (d m b : Addr) (s : SR) (vm vb : List V) : Wd := ((W.add d (· = .dK (stK m b s.h s.n))).add m (· = .lst vm)).add b (· = .lst vb)
structure RSt (K : PySem.W.Frag) (W : Wd) (Hs H : Hp) (d m b : Addr) (s : SR) : Prop where
  keep : ∀ a o, ¬ M3 W d m b a → Hs a = some o → H a = some o
  j : W.J H
  dn : ¬ W.M d
  mn : ¬ W.M m
  bn : ¬ W.M b
  dm : d ≠ m
  db : d ≠ b
  mb : m ≠ b
  hd : H d = some (.dK (stK m b s.h s.n))
  hm : ∃ vs, H m = some (.lst vs) ∧ DtAll K (hid (M3 W d m b) H) vs s.ms
  hb : ∃ vs, H b = some (.lst vs) ∧ DtAll K (hid (M3 W d m b) H) vs s.bs
def kR (d : Addr) (vm vb : List V) (s : SR) : A := .w (.ref d) (vm ++ vb) (s.ms ++ s.bs)
section
variable {K : PySem.W.Frag} {W : Wd} {Hs H H' : Hp} {d m b : Addr} {s s' : SR} {vm vb : List V} {Δ : Env} {σ : L2.St} {te : TE} {ts tu : TS} {tt : TT} {i : Nat} {D : Ends}
theorem same_of_keep (h : ∀ a o, ¬ M3 W d m b a → H a = some o → H' a = some o) : Same (hid (M3 W d m b) H) (hid (M3 W d m b) H') := fun a o e => by
  by_cases z : M3 W d m b a
  · rw [hid_in z] at e; cases e
  · rw [hid_out z] at e ⊢
    exact h a o z e
theorem RSt.refl (r : RSt K W Hs H d m b s) : RSt K W H H d m b s := ⟨fun _ _ _ e => e, r.j, r.dn, r.mn, r.bn, r.dm, r.db, r.mb, r.hd, r.hm, r.hb⟩
theorem RSt.trans (r : RSt K W Hs H d m b s) (q : RSt K W H H' d m b s') : RSt K W Hs H' d m b s' := ⟨fun a o n e => q.keep a o n (r.keep a o n e), q.j, q.dn, q.mn, q.bn, q.dm, q.db, q.mb, q.hd, q.hm, q.hb⟩
theorem RSt.same (r : RSt K W Hs H d m b s) : Same (hid (M3 W d m b) Hs) (hid (M3 W d m b) H) := same_of_keep r.keep
theorem RSt.w (r : RSt K W Hs H d m b s) : ∃ vm vb, (W3 W d m b s vm vb).J H ∧ DtAll K (hid (M3 W d m b) H) vm s.ms ∧ DtAll K (hid (M3 W d m b) H) vb s.bs := by
  obtain ⟨vm, h1, d1⟩ := r.hm
  obtain ⟨vb, h2, d2⟩ := r.hb
  exact ⟨vm, vb, ⟨⟨⟨r.j, _, r.hd, rfl⟩, _, h1, rfl⟩, _, h2, rfl⟩, d1, d2⟩
theorem RSt.go (r : RSt K W Hs H d m b s) (d1 : DtAll K (hid (M3 W d m b) H) vm s.ms) (d2 : DtAll K (hid (M3 W d m b) H) vb s.bs) (f : Fr (W3 W d m b s vm vb) H H') : RSt K W Hs H' d m b s := by
  obtain ⟨⟨⟨j, u1, e1, q1⟩, u2, e2, q2⟩, u3, e3, q3⟩ := f.j
  subst q1 q2 q3
  have sm : Same (hid (M3 W d m b) H) (hid (M3 W d m b) H') := f.same
  exact ⟨fun a o nm e => f.keep a o nm (r.keep a o nm e), j, r.dn, r.mn, r.bn, r.dm, r.db, r.mb, e1, ⟨_, e2, DtAll.ext sm _ _ d1⟩, ⟨_, e3, DtAll.ext sm _ _ d2⟩⟩
theorem M3d : M3 W d m b d := .inl (.inl (.inr rfl))
theorem M3m : M3 W d m b m := .inl (.inr rfl)
theorem M3b : M3 W d m b b := .inr rfl
theorem RSt.upd (r : RSt K W Hs H d m b s) {a : Addr} {o : HO} (ha : M3 W d m b a) (na : ¬ W.M a) : (∀ c u, ¬ M3 W d m b c → Hs c = some u → (upd H a o) c = some u) ∧ W.J (L2.upd H a o) :=
  ⟨fun c u nm e => by rw [upd_ne fun z : c = a => nm (by rw [z]; exact ha)]; exact r.keep c u nm e, W.loc H _ (fun c mc => upd_ne fun z : c = a => na (z ▸ mc)) r.j⟩
theorem RSt.putD (r : RSt K W Hs H d m b s) (k n : Int) : RSt K W Hs (L2.upd H d (.dK (stK m b k n))) d m b ⟨s.ms, s.bs, k, n⟩ := by
  obtain ⟨k1, j1⟩ := r.upd (o := .dK (stK m b k n)) M3d r.dn
  obtain ⟨vm, h1, d1⟩ := r.hm
  obtain ⟨vb, h2, d2⟩ := r.hb
  exact ⟨k1, j1, r.dn, r.mn, r.bn, r.dm, r.db, r.mb, upd_same, ⟨vm, by rw [upd_ne r.dm.symm]; exact h1, by rw [hid_upd M3d]; exact d1⟩, ⟨vb, by rw [upd_ne r.db.symm]; exact h2, by rw [hid_upd M3d]; exact d2⟩⟩
theorem RSt.putM (r : RSt K W Hs H d m b s) {v : V} {x : PyData} (h1 : H m = some (.lst vm)) (d1 : DtAll K (hid (M3 W d m b) H) vm s.ms) (hx : Dt K (hid (M3 W d m b) H) v x) : RSt K W Hs (L2.upd H m (.lst (vm ++ [v]))) d m b ⟨s.ms ++ [x], s.bs, s.h, s.n⟩ := by
  obtain ⟨k1, j1⟩ := r.upd (o := .lst (vm ++ [v])) M3m r.mn
  obtain ⟨vb, h2, d2⟩ := r.hb
  exact ⟨k1, j1, r.dn, r.mn, r.bn, r.dm, r.db, r.mb, by rw [upd_ne r.dm]; exact r.hd, ⟨_, upd_same, by rw [hid_upd M3m]; exact DtAll.append d1 (.cons hx .nil)⟩, ⟨vb, by rw [upd_ne r.mb.symm]; exact h2, by rw [hid_upd M3m]; exact d2⟩⟩
theorem RSt.putB (r : RSt K W Hs H d m b s) {v : V} {x : PyData} (h1 : H b = some (.lst vb)) (d1 : DtAll K (hid (M3 W d m b) H) vb s.bs) (hx : Dt K (hid (M3 W d m b) H) v x) : RSt K W Hs (L2.upd H b (.lst (vb ++ [v]))) d m b ⟨s.ms, s.bs ++ [x], s.h, s.n⟩ := by
  obtain ⟨k1, j1⟩ := r.upd (o := .lst (vb ++ [v])) M3b r.bn
  obtain ⟨vm, h2, d2⟩ := r.hm
  exact ⟨k1, j1, r.dn, r.mn, r.bn, r.dm, r.db, r.mb, by rw [upd_ne r.db]; exact r.hd, ⟨vm, by rw [upd_ne r.mb]; exact h2, by rw [hid_upd M3b]; exact d2⟩, ⟨_, upd_same, by rw [hid_upd M3b]; exact DtAll.append d1 (.cons hx .nil)⟩⟩
/-- the i-th name holds the dict -/
structure RS (K : PySem.W.Frag) (W : Wd) (i : Nat) (Hs H : Hp) (σ : L2.St) (Δ : Env) (d m b : Addr) (s : SR) : Prop where
  r : RSt K W Hs H d m b s
  st : StOk K (M3 W d m b) H σ Δ
  sl : σ[i]? = some (some (.ref d))
theorem RS.k (o : RS K W i Hs H σ Δ d m b s) (d1 : DtAll K (hid (M3 W d m b) H) vm s.ms) (d2 : DtAll K (hid (M3 W d m b) H) vb s.bs) : StOk K (W3 W d m b s vm vb).M H σ (Δ.set i (some (kR d vm vb s))) :=
  st_again (M := M3 W d m b) o.st o.sl ⟨rfl, DtAll.append d1 d2⟩
theorem dta_split {H : Hp} {ys : List PyData} : ∀ {vs : List V} {xs : List PyData} {us : List V}, vs.length = xs.length → DtAll K H (vs ++ us) (xs ++ ys) → DtAll K H vs xs ∧ DtAll K H us ys
  | [], [], us, _, h => ⟨.nil, h⟩
  | v :: vs, x :: xs, us, l, h => by
    cases h with
    | cons h1 h2 =>
      obtain ⟨a, c⟩ := dta_split (vs := vs) (xs := xs) (by simpa using l) h2
      exact ⟨.cons h1 a, c⟩
/-! ### what is read of it -/
theorem dget_in {c : Str} {v : V} {a : A} {R : A → Prop} (hv : Δ[i]? = some (some (kR d vm vb s))) (hc : ∀ H, (W3 W d m b s vm vb).J H → valV (stK m b s.h s.n) (.inr c) = some v) {σ : L2.St} {H : Hp} (j : (W3 W d m b s vm vb).J H) (st : StOk K (W3 W d m b s vm vb).M H σ Δ) {Q : VK} (q : Q v H) : tDGet (tVar i) (tC (.str c)) σ H Q := by
  obtain ⟨v0, e0, i0⟩ := st.get i _ hv
  obtain ⟨e, _⟩ := i0
  subst e
  obtain ⟨⟨⟨_, u1, e1, q1⟩, _⟩, _⟩ := j
  subst q1
  have g := DGet.k (k := Sum.inr c) e1
  rw [hc H ⟨⟨⟨‹_›, _, e1, rfl⟩, ‹_›⟩, ‹_›⟩] at g
  exact ⟨_, e0, d, v, rfl, g, q⟩
theorem xe_rh (hv : Δ[i]? = some (some (kR d vm vb s))) : XV K (W3 W d m b s vm vb) (tDGet (tVar i) (tC (.str "hands"))) Δ (.d (.int s.h)) := fun σ H j st Q q => dget_in (a := .d (.int s.h)) (R := fun _ => True) hv (fun _ _ => stK_h) j st (q _ H _ (.refl j) rfl (.int _))
theorem xe_rn (hv : Δ[i]? = some (some (kR d vm vb s))) : XV K (W3 W d m b s vm vb) (tDGet (tVar i) (tC (.str "deep"))) Δ (.d (.int s.n)) := fun σ H j st Q q => dget_in (a := .d (.int s.n)) (R := fun _ => True) hv (fun _ _ => stK_n) j st (q _ H _ (.refl j) rfl (.int _))
theorem xe_rlm (hv : Δ[i]? = some (some (kR d vm vb s))) (l : vm.length = s.ms.length) : XV K (W3 W d m b s vm vb) (tCB (rLen K) (tCons (tDGet (tVar i) (tC (.str "marks"))) tNil)) Δ (.d (.int s.ms.length)) := fun σ H j st Q q => by
  have hm : H m = some (.lst vm) := by
    obtain ⟨⟨_, u2, e2, q2⟩, _⟩ := j
    rw [e2, q2]
  refine dget_in (a := .d (.int s.h)) (R := fun _ => True) hv (fun _ _ => stK_m) j st ⟨m, vm, rfl, .inl (.inl (.inl hm)), ?_⟩
  rw [l]
  exact q _ H _ (.refl j) rfl (.int _)
theorem xe_rtm (hv : Δ[i]? = some (some (kR d vm vb s))) (l : vm.length = s.ms.length) : XV K (W3 W d m b s vm vb) (tCB (rTupOf K) (tCons (tDGet (tVar i) (tC (.str "marks"))) tNil)) Δ (.d (.tuple s.ms)) := fun σ H j st Q q => by
  have hm : H m = some (.lst vm) := by
    obtain ⟨⟨_, u2, e2, q2⟩, _⟩ := j
    rw [e2, q2]
  obtain ⟨v0, e0, i0⟩ := st.get i _ hv
  have dd := (dta_split l i0.2).1
  exact dget_in (a := .d (.int s.h)) (R := fun _ => True) hv (fun _ _ => stK_m) j st ⟨m, vm, rfl, .inl ⟨.inl (.inl hm), fun p np => q _ _ _ (.new j np) rfl (Dt.tup (.inl (.inl (hid_new j np))) (DtAll.ext (Fr.same (.new j np)) _ _ dd))⟩⟩
theorem xe_rtb (hv : Δ[i]? = some (some (kR d vm vb s))) (l : vm.length = s.ms.length) : XV K (W3 W d m b s vm vb) (tCB (rTupOf K) (tCons (tDGet (tVar i) (tC (.str "body"))) tNil)) Δ (.d (.tuple s.bs)) := fun σ H j st Q q => by
  have hm : H b = some (.lst vb) := by
    obtain ⟨_, u2, e2, q2⟩ := j
    rw [e2, q2]
  obtain ⟨v0, e0, i0⟩ := st.get i _ hv
  have dd := (dta_split l i0.2).2
  exact dget_in (a := .d (.int s.h)) (R := fun _ => True) hv (fun _ _ => stK_b) j st ⟨b, vb, rfl, .inl ⟨.inl (.inl hm), fun p np => q _ _ _ (.new j np) rfl (Dt.tup (.inl (.inl (hid_new j np))) (DtAll.ext (Fr.same (.new j np)) _ _ dd))⟩⟩
/-! ### statements -/
theorem RS.in (o : RS K W i Hs H σ Δ d m b s) {R : A → Prop} (he : ∀ vm vb, vm.length = s.ms.length → XE K (W3 W d m b s vm vb) te (Δ.set i (some (kR d vm vb s))) R) {Q : VK} (q : ∀ v H' a, R a → RS K W i Hs H' σ Δ d m b s → Is K (M3 W d m b) H' v a → Q v H') : te σ H Q := by
  obtain ⟨vm, vb, j, d1, d2⟩ := o.r.w
  exact he vm vb d1.length σ H j (o.k d1 d2) Q fun v H' a f r iv => q v H' a r ⟨o.r.go d1 d2 f, o.st.ext (M := M3 W d m b) (M' := M3 W d m b) f.same, o.sl⟩ iv
theorem rs_asg {k : Nat} {R : A → Prop} (o : RS K W i Hs H σ Δ d m b s) (ne : k ≠ i) (he : ∀ vm vb, vm.length = s.ms.length → XE K (W3 W d m b s vm vb) te (Δ.set i (some (kR d vm vb s))) R) (q : ∀ v H' a, R a → RS K W i Hs H' (σ.set k (some v)) (Δ.set k (some a)) d m b s → D.nx (σ.set k (some v)) H') : tAsg te (gName k) D σ H :=
  o.in he fun v H' a r o1 iv => q v H' a r ⟨o1.r, o1.st.set k iv, by rw [List.getElem?_set_ne ne]; exact o1.sl⟩
theorem rs_ret {R : A → Prop} (o : RS K W i Hs H σ Δ d m b s) (he : ∀ vm vb, vm.length = s.ms.length → XE K (W3 W d m b s vm vb) te (Δ.set i (some (kR d vm vb s))) R) (q : ∀ v H' a, R a → RS K W i Hs H' σ Δ d m b s → Is K (M3 W d m b) H' v a → D.rt v H') : tRet te D σ H := o.in he q
theorem rs_if {B : Bool → Prop} (o : RS K W i Hs H σ Δ d m b s) (ht : ∀ vm vb, vm.length = s.ms.length → XT K (W3 W d m b s vm vb) tt (Δ.set i (some (kR d vm vb s))) B) (h1 : ∀ H', B true → RS K W i Hs H' σ Δ d m b s → ts D σ H') (h2 : ∀ H', B false → RS K W i Hs H' σ Δ d m b s → tu D σ H') : tIfS tt ts tu D σ H := by
  obtain ⟨vm, vb, j, d1, d2⟩ := o.r.w
  refine ht vm vb d1.length σ H j (o.k d1 d2) _ fun c H1 f hb => ?_
  have o1 : RS K W i Hs H1 σ Δ d m b s := ⟨o.r.go d1 d2 f, o.st.ext (M := M3 W d m b) (M' := M3 W d m b) f.same, o.sl⟩
  cases c with
  | true => exact iteT (h1 H1 hb o1)
  | false => exact iteF (h2 H1 hb o1)
theorem st_hid {M : Addr → Prop} {a : Addr} {u : HO} (ma : M a) (s : StOk K M H σ Δ) : StOk K M (upd H a u) σ Δ := s.ext fun c o e => by rw [hid_upd ma]; exact e
theorem rs_putH {k : Int} (o : RS K W i Hs H σ Δ d m b s) (he : ∀ vm vb, vm.length = s.ms.length → XV K (W3 W d m b s vm vb) te (Δ.set i (some (kR d vm vb s))) (.d (.int k))) (q : ∀ H', RS K W i Hs H' σ Δ d m b ⟨s.ms, s.bs, k, s.n⟩ → D.nx σ H') : sDPut (tVar i) (tC (.str "hands")) te D σ H :=
  o.in he fun v H1 a e o1 iv => by
    subst e
    cases iv
    exact ⟨_, o1.sl, d, _, rfl, DPut.k (k := Sum.inr "hands") o1.r.hd (by show 4 < sizeLine; decide), q _ ⟨o1.r.putD k s.n, st_hid M3d o1.st, o1.sl⟩⟩
theorem rs_putN {k : Int} (o : RS K W i Hs H σ Δ d m b s) (he : ∀ vm vb, vm.length = s.ms.length → XV K (W3 W d m b s vm vb) te (Δ.set i (some (kR d vm vb s))) (.d (.int k))) (q : ∀ H', RS K W i Hs H' σ Δ d m b ⟨s.ms, s.bs, s.h, k⟩ → D.nx σ H') : sDPut (tVar i) (tC (.str "deep")) te D σ H :=
  o.in he fun v H1 a e o1 iv => by
    subst e
    cases iv
    exact ⟨_, o1.sl, d, _, rfl, DPut.k (k := Sum.inr "deep") o1.r.hd (by show 4 < sizeLine; decide), q _ ⟨o1.r.putD s.h k, st_hid M3d o1.st, o1.sl⟩⟩
theorem rs_appM {x : PyData} (o : RS K W i Hs H σ Δ d m b s) (small : s.ms.length ≤ 100000) (he : ∀ vm vb, vm.length = s.ms.length → XV K (W3 W d m b s vm vb) te (Δ.set i (some (kR d vm vb s))) (.d x)) (q : ∀ H', RS K W i Hs H' σ Δ d m b ⟨s.ms ++ [x], s.bs, s.h, s.n⟩ → D.nx σ H') : tDrop (tBM K "list" rAppend (tDGet (tVar i) (tC (.str "marks"))) (tCons te tNil)) D σ H := by
  have g := DGet.k (k := Sum.inr "marks") o.r.hd
  rw [stK_m] at g
  obtain ⟨vm, h1, d1⟩ := o.r.hm
  refine ⟨_, o.sl, d, .ref m, rfl, g, .inl ⟨rfl, _, .inl (.inl h1)⟩, o.in he fun v H1 a e o1 iv => ?_⟩
  subst e
  obtain ⟨um, h1, d1⟩ := o1.r.hm
  exact ⟨m, um, v, rfl, rfl, h1, Nat.lt_of_le_of_lt (by rw [d1.length]; exact small) (by decide), q _ ⟨o1.r.putM h1 d1 iv, st_hid M3m o1.st, o1.sl⟩⟩
theorem rs_appB {x : PyData} (o : RS K W i Hs H σ Δ d m b s) (small : s.bs.length ≤ 100000) (he : ∀ vm vb, vm.length = s.ms.length → XV K (W3 W d m b s vm vb) te (Δ.set i (some (kR d vm vb s))) (.d x)) (q : ∀ H', RS K W i Hs H' σ Δ d m b ⟨s.ms, s.bs ++ [x], s.h, s.n⟩ → D.nx σ H') : tDrop (tBM K "list" rAppend (tDGet (tVar i) (tC (.str "body"))) (tCons te tNil)) D σ H := by
  have g := DGet.k (k := Sum.inr "body") o.r.hd
  rw [stK_b] at g
  obtain ⟨vm, h1, d1⟩ := o.r.hb
  refine ⟨_, o.sl, d, .ref b, rfl, g, .inl ⟨rfl, _, .inl (.inl h1)⟩, o.in he fun v H1 a e o1 iv => ?_⟩
  subst e
  obtain ⟨um, h1, d1⟩ := o1.r.hb
  exact ⟨b, um, v, rfl, rfl, h1, Nat.lt_of_le_of_lt (by rw [d1.length]; exact small) (by decide), q _ ⟨o1.r.putB h1 d1 iv, st_hid M3b o1.st, o1.sl⟩⟩
end
/-! ### a function that is handed the dict and a thing -/
def spRd (K : PySem.W.Frag) (pre : SR → PyData → Prop) (go : SR → PyData → SR × PyData) : Sp := fun us H Q _ => ∃ (W : Wd) (d m b : Addr) (s : SR) (x : PyData) (v : V), us = [.ref d, v] ∧ RSt K W H H d m b s ∧ Dt K (hid (M3 W d m b) H) v x ∧ pre s x ∧
  ∀ u H', RSt K W H H' d m b (go s x).1 → Is K (M3 W d m b) H' u (.d (go s x).2) → Q u H'
section
variable {K : PySem.W.Frag} {W : Wd} {Hs H H' : Hp} {d m b : Addr} {s s' : SR} {vm vb : List V} {Δ : Env} {σ : L2.St} {te : TE} {ts tu : TS} {tt : TT} {i : Nat} {D : Ends} {pre : SR → PyData → Prop} {go : SR → PyData → SR × PyData} {E : XK}
theorem rs_start {N : List Str} {us : List V} {Q : VK} (h : spRd K pre go us H Q E) (n : 2 ≤ N.length) : ∃ (W : Wd) (d m b : Addr) (s : SR) (x : PyData), pre s x ∧ RS K W 0 H H (L2.start N us) (startE N [.v (.ref d), .d x]) d m b s ∧ ∀ u H', RSt K W H H' d m b (go s x).1 → Is K (M3 W d m b) H' u (.d (go s x).2) → Q u H' := by
  obtain ⟨W, d, m, b, s, x, v, rfl, r, dx, p, q⟩ := h
  exact ⟨W, d, m, b, s, x, p, ⟨r, stOk_start (.cons rfl (.cons dx .nil)), rfl⟩, q⟩
theorem rs_call {k c : Nat} {x : PyData} (o : RS K W i Hs H σ Δ d m b s) (ne : k ≠ i) (hc : Δ[c]? = some (some (.d x))) (p : pre s x) (q : ∀ v H', RS K W i Hs H' (σ.set k (some v)) (Δ.set k (some (.d (go s x).2))) d m b (go s x).1 → D.nx (σ.set k (some v)) H') :
    tAsg (tCall (spRd K pre go) [] E (tCons (tVar i) (tCons (tVar c) tNil))) (gName k) D σ H := by
  obtain ⟨v, hv, iv⟩ := o.st.get c _ hc
  refine ⟨_, o.sl, _, hv, W, d, m, b, s, x, v, rfl, o.r.refl, iv, p, fun u H' r2 iu => ?_⟩
  exact q u H' ⟨o.r.trans r2, (o.st.ext (M := M3 W d m b) (M' := M3 W d m b) r2.same).set k iu, by rw [List.getElem?_set_ne ne]; exact o.sl⟩
theorem rs_seq {N : Env → SR → Prop} (h : ∀ N' : L2.St → Hp → Prop, (∀ σ' H' Δ' s', N Δ' s' → RS K W i Hs H' σ' Δ' d m b s' → N' σ' H') → ts { D with nx := N' } σ H) (q : ∀ σ' H' Δ' s', N Δ' s' → RS K W i Hs H' σ' Δ' d m b s' → tu D σ' H') : tSeq ts tu D σ H := h (tu D) q
theorem RS.refl (o : RS K W i Hs H σ Δ d m b s) : RS K W i H H σ Δ d m b s := ⟨o.r.refl, o.st, o.sl⟩
/-- for i, x in enumerate(xs) beside it -/
theorem rs_forEn {jr i1 i2 : Nat} {xs : List PyData} (o : RS K W i H H σ Δ d m b s) (n1 : i1 ≠ i) (n2 : i2 ≠ i) (hj : Δ[jr]? = some (some (.d (.list xs)))) (Inv : Nat → Env → SR → Prop) (hI : ∀ j Δ s, Inv j Δ s → Δ[i]? = some (some (.v (.ref d)))) (h0 : Inv 0 Δ s)
    (hs : ∀ j x σ1 H1 Δ1 s1, xs[j]? = some x → Inv j Δ1 s1 → RS K W i H H1 σ1 ((Δ1.set i1 (some (.d (.int (j : Int))))).set i2 (some (.d x))) d m b s1 → ∀ N : L2.St → Hp → Prop, (∀ σ2 H2 Δ2 s2, RS K W i H H2 σ2 Δ2 d m b s2 → Inv (j + 1) Δ2 s2 → N σ2 H2) → ts { D with nx := N, ct := N, bk := D.nx } σ1 H1)
    (hd : ∀ σ1 H1 Δ1 s1, RS K W i H H1 σ1 Δ1 d m b s1 → Inv xs.length Δ1 s1 → D.nx σ1 H1) : tFor (iEnum K (tCons (tVar jr) tNil)) (gTup K 2 (gCons (gName i1) (gCons (gName i2) gNil))) ts D σ H := by
  obtain ⟨v, hv, iv⟩ := o.st.get jr _ hj
  cases iv with
  | lst h1 d1 =>
    rename_i p vs
    have mp : ¬ M3 W d m b p := fun z => by rw [hid_in z] at h1; cases h1
    rw [hid_out mp] at h1
    have ga : ∀ {H2 s2}, RSt K W H H2 d m b s2 → SqL K H2 p vs := fun r => .inl (.inl (r.keep p _ mp h1))
    refine ⟨.ref p, hv, p, vs, rfl, ga o.r, ?_⟩
    refine ⟨fun j k σ2 H2 => k = xs.length - j ∧ j ≤ xs.length ∧ ∃ Δ2 s2, RS K W i H H2 σ2 Δ2 d m b s2 ∧ Inv j Δ2 s2, ⟨xs.length, (Nat.sub_zero _).symm, Nat.zero_le _, Δ, s, o, h0⟩, ?_⟩
    rintro j k σ2 H2 ⟨rfl, hj, Δ2, s2, o2, v2⟩
    have len := d1.length
    by_cases l : j < xs.length
    · obtain ⟨v, hv, dv⟩ := d1.get (List.getElem?_eq_getElem l)
      refine .inr ⟨⟨vs, v, ga o2.r, hv⟩, fun σ3 H3 => ∃ Δ3 s3, RS K W i H H3 σ3 Δ3 d m b s3 ∧ Inv (j + 1) Δ3 s3, ?_, ?_⟩
      · rintro σ3 H3 ⟨Δ3, s3, o3, v3⟩
        exact ⟨xs.length - (j + 1), by omega, rfl, l, Δ3, s3, o3, v3⟩
      · rintro y H3 ⟨T, x, rfl, nT, rfl, hx⟩
        have ex := hx vs (ga o2.r)
        rw [hv] at ex
        cases ex
        obtain ⟨vm, vb, jw, e1, e2⟩ := o2.r.w
        have f3 : Fr (W3 W d m b s2 vm vb) H2 (upd H2 T (.tup [.int (j : Nat), v])) := .new jw nT
        have sm2 : Same (hid (M3 W d m b) H2) (hid (M3 W d m b) (upd H2 T (.tup [.int (j : Nat), v]))) := f3.same
        have iT : Is K (W3 W d m b s2 vm vb).M (upd H2 T (.tup [.int (j : Nat), v])) (.ref T) (.d (.tuple [.int (j : Int), xs[j]])) := Dt.tup (.inl (.inl (hid_new jw nT))) (.cons (.int _) (.cons (Dt.ext (fun a o e => sm2 a o (o2.r.same a o e)) _ _ dv) .nil))
        refine gx_tup2 (Δ := Δ2) (.ref T) σ2 _ f3.j (o2.st.ext (M := M3 W d m b) (M' := M3 W d m b) f3.same) iT _ fun σ4 H4 f4 s4 => ?_
        have f := f3.trans f4
        have s4' : StOk K (M3 W d m b) H4 σ4 ((Δ2.set i1 (some (.d (.int (j : Int))))).set i2 (some (.d xs[j]))) := s4
        obtain ⟨w, hw, iw⟩ := s4'.get i (.v (.ref d)) (by rw [List.getElem?_set_ne n2, List.getElem?_set_ne n1]; exact hI j Δ2 s2 v2)
        have iw : w = .ref d := iw
        subst iw
        exact hs j xs[j] σ4 H4 Δ2 s2 (List.getElem?_eq_getElem l) v2 ⟨o2.r.go e1 e2 f, s4', hw⟩ _ fun σ5 H5 Δ5 s5 o5 v5 => ⟨Δ5, s5, o5, v5⟩
    · obtain rfl : j = xs.length := by omega
      exact .inl ⟨⟨vs, ga o2.r, by omega⟩, hd σ2 H2 Δ2 s2 o2 v2⟩
/-- name = {"marks": [], "body": [], "hands": 0, "deep": 0} -/
theorem rs_new (j : W.J H) (st : StOk K W.M H σ Δ) (hi : i < σ.length) (q : ∀ d m b H', Fr W H H' → H d = none → H m = none → H b = none → RS K W i H' H' (σ.set i (some (.ref d))) (Δ.set i (some (.v (.ref d)))) d m b ⟨[], [], 0, 0⟩ → tu D (σ.set i (some (.ref d))) H') :
    tSeq (tAsg (tDisp [(tC (.str "marks"), tLst tNil), (tC (.str "body"), tLst tNil), (tC (.str "hands"), tC (.int 0)), (tC (.str "deep"), tC (.int 0))]) (gName i)) tu D σ H := by
  refine seq_in (show tDisp _ σ H _ from fun d nd => ?_)
  refine (show ([] : List V).length ≤ sizeLine ∧ ∀ m, (upd H d (.dK [])) m = none → _ from ⟨by decide, fun m nm => ?_⟩)
  refine (show ([] : List V).length ≤ sizeLine ∧ ∀ b, (upd (upd H d (.dK [])) m (.lst [])) b = none → _ from ⟨by decide, fun b nb => ?_⟩)
  have dm : m ≠ d := fun e => by rw [e, upd_same] at nm; cases nm
  have bm : b ≠ m := fun e => by rw [e, upd_same] at nb; cases nb
  rw [upd_ne dm] at nm
  rw [upd_ne bm] at nb
  have bd : b ≠ d := fun e => by rw [e, upd_same] at nb; cases nb
  rw [upd_ne bd] at nb
  have wd : ¬ W.M d := W.fresh j nd
  have wm : ¬ W.M m := W.fresh j nm
  have wb : ¬ W.M b := W.fresh j nb
  have hd1 : (upd (upd (upd H d (.dK [])) m (.lst [])) b (.lst [])) d = some (.dK []) := by rw [upd_ne bd.symm, upd_ne dm.symm, upd_same]
  refine ⟨hd1, [(.inr "marks", .ref m), (.inr "body", .ref b), (.inr "hands", .int 0), (.inr "deep", .int 0)], rfl, by show 4 ≤ 15; decide, ?_⟩
  let H3 : Hp := upd (upd (upd (upd H d (.dK [])) m (.lst [])) b (.lst [])) d (.dK (stK m b 0 0))
  have h3 : ∀ a, a ≠ d → a ≠ m → a ≠ b → H3 a = H a := fun a h1 h2 h3 => by
    show (upd (upd (upd (upd H d (.dK [])) m (.lst [])) b (.lst [])) d (.dK (stK m b 0 0))) a = H a
    rw [upd_ne h1, upd_ne h3, upd_ne h2, upd_ne h1]
  have j3 : W.J H3 := W.loc H _ (fun a ma => h3 a (fun z => wd (z ▸ ma)) (fun z => wm (z ▸ ma)) fun z => wb (z ▸ ma)) j
  have f3 : Fr W H H3 := ⟨fun a o _ e => by rw [h3 a (ne_of_none e nd) (ne_of_none e nm) (ne_of_none e nb)]; exact e, j3⟩
  have sm : Same (hid W.M H) (hid (M3 W d m b) H3) := fun a o e => by
    by_cases z : W.M a
    · rw [hid_in z] at e; cases e
    · rw [hid_out z] at e
      have z3 : ¬ M3 W d m b a := fun q => q.elim (fun q => q.elim (fun q => q.elim z (ne_of_none e nd)) (ne_of_none e nm)) (ne_of_none e nb)
      rw [hid_out z3, h3 a (ne_of_none e nd) (ne_of_none e nm) (ne_of_none e nb)]
      exact e
  refine q d m b H3 f3 nd nm nb ⟨⟨fun _ _ _ e => e, j3, wd, wm, wb, dm.symm, bd.symm, bm.symm, upd_same, ⟨[], ?_, .nil⟩, ⟨[], ?_, .nil⟩⟩, (st.ext sm).set i rfl, List.getElem?_set_self hi⟩
  · show (upd (upd (upd (upd H d (.dK [])) m (.lst [])) b (.lst [])) d (.dK (stK m b 0 0))) m = _
    rw [upd_ne dm, upd_ne bm.symm, upd_same]
  · show (upd (upd (upd (upd H d (.dK [])) m (.lst [])) b (.lst [])) d (.dK (stK m b 0 0))) b = _
    rw [upd_ne bd, upd_same]
/-- what stood ahead of it stands behind it -/
theorem rs_back (r : RSt K W Hs H d m b s) (f : Fr W H' Hs) (nd : H' d = none) (nm : H' m = none) (nb : H' b = none) : Fr W H' H := ⟨fun a o na e => r.keep a o (fun q => q.elim (fun q => q.elim (fun q => q.elim na (ne_of_none e nd)) (ne_of_none e nm)) (ne_of_none e nb)) (f.keep a o na e), r.j⟩
theorem m3_le : Same (hid (M3 W d m b) H) (hid W.M H) := fun a o e => by
  by_cases z : M3 W d m b a
  · rw [hid_in z] at e; cases e
  · rw [hid_out z] at e
    rw [hid_out fun q => z (.inl (.inl (.inl q)))]
    exact e
end
end V2

set_option Elab.async false
set_option linter.all false
set_option maxRecDepth 100000
set_option maxHeartbeats 2000000
namespace V2
open PySem PySem.Spec PyProof.Rows L2
/-! ### a fragment of one's own: addresses and what stands there -/
abbrev Frg := List (Addr × HO)
def Wd.fix (W : Wd) (S : Frg) : Wd where
  M a := W.M a ∨ ∃ p ∈ S, p.1 = a
  J H := W.J H ∧ ∀ p ∈ S, H p.1 = some p.2
  live H a j m := m.elim (W.live H a j.1) fun ⟨p, hp, e⟩ => by rw [← e, j.2 p hp]; nofun
  loc H H' e j := ⟨W.loc H H' (fun a m => e a (.inl m)) j.1, fun p hp => by rw [e p.1 (.inr ⟨p, hp, rfl⟩)]; exact j.2 p hp⟩
def Frg.put (S : Frg) (a : Addr) (o : HO) : Frg := S.map fun p => if p.1 = a then (a, o) else p
theorem put_dom (S : Frg) (a : Addr) (o : HO) : (S.put a o).map (·.1) = S.map (·.1) := by
  unfold Frg.put
  rw [List.map_map]
  refine List.map_congr_left fun p _ => ?_
  show (if p.1 = a then (a, o) else p).1 = p.1
  split
  · rename_i h; exact h.symm
  · rfl
theorem fix_M {W : Wd} {S S' : Frg} (h : S'.map (·.1) = S.map (·.1)) : (W.fix S').M = (W.fix S).M := by
  have g : ∀ {A B : Frg}, A.map (·.1) = B.map (·.1) → ∀ a, (∃ p ∈ A, p.1 = a) → ∃ p ∈ B, p.1 = a := fun {A B} h a ⟨p, hp, e⟩ => by
    have : a ∈ B.map (·.1) := by rw [← h]; exact List.mem_map.mpr ⟨p, hp, e⟩
    obtain ⟨q, hq, e⟩ := List.mem_map.mp this
    exact ⟨q, hq, e⟩
  funext a
  exact propext ⟨fun z => z.imp id (g h a), fun z => z.imp id (g h.symm a)⟩
theorem hid_none {M : Addr → Prop} {H : Hp} {a : Addr} (h : H a = none) : hid M H a = none := by
  by_cases m : M a
  · exact hid_in m
  · rw [hid_out m]; exact h
structure FX (W : Wd) (H0 H : Hp) (S : Frg) : Prop where
  keep : ∀ a o, ¬ (W.fix S).M a → H0 a = some o → H a = some o
  j : (W.fix S).J H
  new : ∀ p ∈ S, H0 p.1 = none ∧ ¬ W.M p.1
  nd : (S.map (·.1)).Nodup
section
variable {K : PySem.W.Frag} {W : Wd} {H0 H H' : Hp} {S S' : Frg} {a p x : Addr} {o o' : HO} {σ : L2.St} {Δ : Env}
theorem FX.nil (j : W.J H) : FX W H H [] := ⟨fun _ _ _ e => e, ⟨j, fun _ h => nomatch h⟩, fun _ h => (nomatch h), List.nodup_nil⟩
theorem FX.fr (f : FX W H0 H S) : Fr W H0 H := ⟨fun a o n e => f.keep a o (fun z => z.elim n fun ⟨p, hp, q⟩ => by
  have := (f.new p hp).1
  rw [q, e] at this
  cases this) e, f.j.1⟩
theorem FX.go (f : FX W H0 H S) (g : Fr (W.fix S) H H') : FX W H0 H' S := ⟨fun a o n e => g.keep a o n (f.keep a o n e), g.j, f.new, f.nd⟩
theorem FX.none0 (f : FX W H0 H S) (np : H p = none) : H0 p = none ∧ ¬ (W.fix S).M p := by
  have nm : ¬ (W.fix S).M p := fun m => (W.fix S).live H p f.j m np
  refine ⟨?_, nm⟩
  cases e : H0 p with
  | none => rfl
  | some u => rw [f.keep p u nm e] at np; cases np
theorem FX.cons (f : FX W H0 H S) (np : H p = none) : FX W H0 (upd H p o) ((p, o) :: S) := by
  obtain ⟨n0, nm⟩ := f.none0 np
  refine ⟨fun a u n e => ?_, ⟨W.loc H _ (fun a m => upd_ne fun z => nm (.inl (z ▸ m))) f.j.1, fun q hq => ?_⟩, fun q hq => ?_, ?_⟩
  · rw [upd_ne fun z : a = p => n (.inr ⟨_, .head _, z.symm⟩)]
    exact f.keep a u (fun z => n (z.imp id fun ⟨q, hq, e⟩ => ⟨q, .tail _ hq, e⟩)) e
  · rcases List.mem_cons.mp hq with rfl | hq
    · exact upd_same
    · rw [upd_ne fun z : q.1 = p => nm (.inr ⟨q, hq, z⟩)]
      exact f.j.2 q hq
  · rcases List.mem_cons.mp hq with rfl | hq
    · exact ⟨n0, fun z => nm (.inl z)⟩
    · exact f.new q hq
  · rw [List.map_cons, List.nodup_cons]
    exact ⟨fun z => by obtain ⟨q, hq, e⟩ := List.mem_map.mp z; exact nm (.inr ⟨q, hq, e⟩), f.nd⟩
theorem FX.put (f : FX W H0 H S) (h : (a, o) ∈ S) : FX W H0 (upd H a o') (S.put a o') := by
  have hM : (W.fix (S.put a o')).M = (W.fix S).M := fix_M (put_dom S a o')
  have na := (f.new _ h).2
  refine ⟨fun c u n e => ?_, ⟨W.loc H _ (fun c m => upd_ne fun z => na (z ▸ m)) f.j.1, fun q hq => ?_⟩, fun q hq => ?_, by rw [put_dom]; exact f.nd⟩
  · rw [hM] at n
    rw [upd_ne fun z : c = a => n (.inr ⟨_, h, z.symm⟩)]
    exact f.keep c u n e
  · obtain ⟨r, hr, e⟩ := List.mem_map.mp hq
    by_cases z : r.1 = a
    · rw [if_pos z] at e
      subst e
      exact upd_same
    · rw [if_neg z] at e
      subst e
      rw [upd_ne z]
      exact f.j.2 r hr
  · obtain ⟨r, hr, e⟩ := List.mem_map.mp hq
    by_cases z : r.1 = a
    · rw [if_pos z] at e
      subst e
      exact (show H0 a = none ∧ ¬ W.M a from f.new (a, o) h)
    · rw [if_neg z] at e
      subst e
      exact f.new r hr
/-- something new that stands already -/
theorem FX.more (f : FX W H0 H S) (g : FX W H0 H' S) (np : H p = none) (hp : H' p = some o) : FX W H0 H' ((p, o) :: S) := by
  obtain ⟨n0, nm⟩ := f.none0 np
  refine ⟨fun a u n e => g.keep a u (fun z => n (z.imp id fun ⟨q, hq, e⟩ => ⟨q, .tail _ hq, e⟩)) e, ⟨g.j.1, fun q hq => ?_⟩, fun q hq => ?_, ?_⟩
  · rcases List.mem_cons.mp hq with rfl | hq
    · exact hp
    · exact g.j.2 q hq
  · rcases List.mem_cons.mp hq with rfl | hq
    · exact ⟨n0, fun z => nm (.inl z)⟩
    · exact g.new q hq
  · rw [List.map_cons, List.nodup_cons]
    exact ⟨fun z => by obtain ⟨q, hq, e⟩ := List.mem_map.mp z; exact nm (.inr ⟨q, hq, e⟩), g.nd⟩
/-- the same content in another order -/
theorem FX.as (f : FX W H0 H S) (h : ∀ p ∈ S', p ∈ S) (h' : ∀ p ∈ S, p ∈ S') (nd : (S'.map (·.1)).Nodup) : FX W H0 H S' :=
  ⟨fun a o n e => f.keep a o (fun z => n (z.imp id fun ⟨q, hq, e⟩ => ⟨q, h' q hq, e⟩)) e, ⟨f.j.1, fun q hq => f.j.2 q (h q hq)⟩, fun q hq => f.new q (h q hq), nd⟩
theorem perm_M (h : ∀ p ∈ S', p ∈ S) (h' : ∀ p ∈ S, p ∈ S') : (W.fix S').M = (W.fix S).M := by
  funext a
  exact propext ⟨fun z => z.imp id fun ⟨q, hq, e⟩ => ⟨q, h q hq, e⟩, fun z => z.imp id fun ⟨q, hq, e⟩ => ⟨q, h' q hq, e⟩⟩
/-- the fragment, and the names -/
structure FS (K : PySem.W.Frag) (W : Wd) (H0 H : Hp) (σ : L2.St) (Δ : Env) (S : Frg) : Prop where
  f : FX W H0 H S
  st : StOk K (W.fix S).M H σ Δ
/-- what is seen beside the fragment stays -/
abbrev Gr (W : Wd) (H : Hp) (S : Frg) (H' : Hp) (S' : Frg) : Prop := Same (hid (W.fix S).M H) (hid (W.fix S').M H')
theorem gr_fr (g : Fr (W.fix S) H H') : Gr W H S H' S := g.same
theorem gr_put (h : (a, o) ∈ S) : Gr W H S (upd H a o') (S.put a o') := by
  show Same (hid (W.fix S).M H) (hid (W.fix (S.put a o')).M (upd H a o'))
  rw [fix_M (put_dom S a o'), hid_upd (M := (W.fix S).M) (.inr ⟨_, h, rfl⟩)]
  exact fun _ _ e => e
theorem gr_cons (np : H p = none) : Gr W H S (upd H p o) ((p, o) :: S) := fun c u e => by
  by_cases m : (W.fix S).M c
  · rw [hid_in m] at e; cases e
  · rw [hid_out m] at e
    have ne : c ≠ p := ne_of_none e np
    rw [hid_out (M := (W.fix ((p, o) :: S)).M) fun z => m (z.imp id fun ⟨q, hq, e⟩ => by
      rcases List.mem_cons.mp hq with rfl | hq
      · exact absurd e.symm ne
      · exact ⟨q, hq, e⟩), upd_ne ne]
    exact e
theorem gr_more (np : H p = none) (g : Gr W H S H' S) : Gr W H S H' ((p, o) :: S) := fun c u e => by
  have ne : c ≠ p := ne_of_none e (hid_none np)
  have e' := g c u e
  by_cases m : (W.fix S).M c
  · rw [hid_in m] at e'; cases e'
  · rw [hid_out m] at e'
    rw [hid_out (M := (W.fix ((p, o) :: S)).M) fun z => m (z.imp id fun ⟨q, hq, e⟩ => by
      rcases List.mem_cons.mp hq with rfl | hq
      · exact absurd e.symm ne
      · exact ⟨q, hq, e⟩)]
    exact e'
theorem gr_trans {H1 : Hp} {S1 : Frg} (a : Gr W H S H1 S1) (b : Gr W H1 S1 H' S') : Gr W H S H' S' := fun c u e => b c u (a c u e)
theorem gr_as (h : ∀ p ∈ S', p ∈ S) (h' : ∀ p ∈ S, p ∈ S') : Gr W H S H S' := by
  show Same (hid (W.fix S).M H) (hid (W.fix S').M H)
  rw [perm_M h h']
  exact fun _ _ e => e
theorem FS.go (s : FS K W H0 H σ Δ S) (g : Fr (W.fix S) H H') : FS K W H0 H' σ Δ S := ⟨s.f.go g, s.st.ext (M := (W.fix S).M) (M' := (W.fix S).M) g.same⟩
theorem FS.to (s : FS K W H0 H σ Δ S) (f : FX W H0 H' S') (g : Gr W H S H' S') : FS K W H0 H' σ Δ S' := ⟨f, s.st.ext (M := (W.fix S).M) (M' := (W.fix S').M) g⟩
end
theorem put_map {α : Type} {key : α → Addr} {val : α → HO} {ms : List α} {i : Nat} {m m' : α} (h : ms[i]? = some m) (hk : key m' = key m) (nd : (ms.map key).Nodup) : Frg.put (ms.map fun a => (key a, val a)) (key m) (val m') = (ms.set i m').map fun a => (key a, val a) := by
  obtain ⟨lt, e⟩ := List.getElem?_eq_some_iff.mp h
  refine List.ext_getElem? fun j => ?_
  unfold Frg.put
  rw [List.getElem?_map, List.getElem?_map, List.getElem?_map, List.getElem?_set]
  by_cases z : i = j
  · subst z
    rw [if_pos rfl, if_pos lt, h]
    show some (if key m = key m then (key m, val m') else _) = some (key m', val m')
    rw [if_pos rfl, hk]
  · rw [if_neg z]
    cases q : ms[j]? with
    | none => rfl
    | some c =>
      obtain ⟨lj, ej⟩ := List.getElem?_eq_some_iff.mp q
      show some (if key c = key m then _ else (key c, val c)) = _
      have : key c ≠ key m := fun w => z (by
        have h1 : (ms.map key)[i]'(by rw [List.length_map]; exact lt) = (ms.map key)[j]'(by rw [List.length_map]; exact lj) := by rw [List.getElem_map, List.getElem_map, e, ej, w]
        exact (List.getElem_inj nd).mp h1)
      rw [if_neg this]
      rfl
theorem put_map_none {α : Type} {key : α → Addr} {val : α → HO} {ms : List α} {c : Addr} {o : HO} (h : ∀ a ∈ ms, key a ≠ c) : Frg.put (ms.map fun a => (key a, val a)) c o = ms.map fun a => (key a, val a) := by
  unfold Frg.put
  rw [List.map_map]
  exact List.map_congr_left fun a ha => if_neg (h a ha)
theorem set_map {α β : Type} {f : α → β} {ms : List α} {i : Nat} {m m' : α} (h : ms[i]? = some m) (e : f m' = f m) : (ms.set i m').map f = ms.map f := by
  refine List.ext_getElem? fun j => ?_
  rw [List.getElem?_map, List.getElem?_map, List.getElem?_set]
  by_cases z : i = j
  · subst z
    obtain ⟨lt, _⟩ := List.getElem?_eq_some_iff.mp h
    rw [if_pos rfl, if_pos lt, h]
    exact congrArg some e
  · rw [if_neg z]
/-! ### one object in a world set free -/
def SW.free {T : Type} (W : Wd) (x : Addr) (o : T → HO) (t0 : T) (hx : W.M x) : SW T where
  M := W.M
  J t H := H x = some (o t) ∧ W.J (upd H x (o t0))
  live t H a j m := by
    by_cases z : a = x
    · rw [z, j.1]; nofun
    · have := W.live _ a j.2 m
      rwa [upd_ne z] at this
  loc t H H' e j := ⟨by rw [e x hx]; exact j.1, W.loc _ _ (fun a m => by
    by_cases z : a = x
    · rw [z, upd_same, upd_same]
    · rw [upd_ne z, upd_ne z]; exact e a m) j.2⟩
section
variable {γ T : Type} {K : PySem.W.Frag} {W : Wd} {H0 H H' : Hp} {S S' : Frg} {a p x : Addr} {σ : L2.St} {Δ : Env} {oo : T → HO} {t0 t : T}
theorem upd_self {H : Hp} {u : HO} (e : H x = some u) : upd H x u = H := by
  funext c
  by_cases z : c = x
  · rw [z, upd_same, e]
  · rw [upd_ne z]
theorem hasObj_free (hx : W.M x) : HasObj (SW.free W x oo t0 hx) x oo (fun t => t) (fun _ t => t) where
  mem := hx
  here s H j := j.1
  put s t H j := ⟨upd_same, by rw [upd_upd]; exact j.2⟩
  same s := rfl
  got s t := rfl
  twice s t u := rfl
theorem free_j (hx : W.M x) (j : W.J H) (e : H x = some (oo t0)) : (SW.free W x oo t0 hx).J t0 H := ⟨e, by rw [upd_self e]; exact j⟩
theorem free_back (hx : W.M x) (g : Fr ((SW.free W x oo t0 hx).at t0) H H') : Fr W H H' := ⟨g.keep, by have := g.j.2; rwa [upd_self g.j.1] at this⟩
theorem FX.obj (f : FX W H0 H S) (h : (x, oo t0) ∈ S) (hx : (W.fix S).M x) (g : Fr ((SW.free (W.fix S) x oo t0 hx).at t) H H') : FX W H0 H' (S.put x (oo t)) := by
  have hM : (W.fix (S.put x (oo t))).M = (W.fix S).M := fix_M (put_dom S x (oo t))
  have na := (f.new _ h).2
  obtain ⟨j1, j2, j3⟩ := g.j
  refine ⟨fun c u n e => ?_, ⟨W.loc _ H' (fun c m => (upd_ne fun z : c = x => na (show W.M x from z ▸ m)).symm) j2, fun q hq => ?_⟩, fun q hq => ?_, by rw [put_dom]; exact f.nd⟩
  · rw [hM] at n
    exact g.keep c u n (f.keep c u n e)
  · obtain ⟨r, hr, e⟩ := List.mem_map.mp hq
    by_cases z : r.1 = x
    · rw [if_pos z] at e
      subst e
      exact j1
    · rw [if_neg z] at e
      subst e
      have := j3 r hr
      rwa [upd_ne z] at this
  · obtain ⟨r, hr, e⟩ := List.mem_map.mp hq
    by_cases z : r.1 = x
    · rw [if_pos z] at e
      subst e
      exact (show H0 x = none ∧ ¬ W.M x from f.new (x, oo t0) h)
    · rw [if_neg z] at e
      subst e
      exact f.new r hr
theorem gr_obj (hx : (W.fix S).M x) (g : Fr ((SW.free (W.fix S) x oo t0 hx).at t) H H') : Gr W H S H' (S.put x (oo t)) := by
  show Same (hid (W.fix S).M H) (hid (W.fix (S.put x (oo t))).M H')
  rw [fix_M (put_dom S x (oo t))]
  exact g.same
end
/-! ### what is read in a world with fixed lists -/
section
variable {K : PySem.W.Frag} {W : Wd} {H0 H H' : Hp} {S S' : Frg} {ad x : Addr} {σ : L2.St} {Δ : Env} {rv : List V} {te tl to ti : TE} {v : V} {d : PyData}
theorem hasRow_fix (h : (ad, HO.lst rv) ∈ S) : HasRow (W.fix S) (ad, rv) := ⟨.inr ⟨_, h, rfl⟩, fun H j => j.2 _ h⟩
theorem ox_ixF {i : Nat} (hz : HasRow W (ad, rv)) (h : rv[i]? = some v) : OX K W (rIxL K) (.v (.ref ad)) (.d (.int (i : Int))) (· = .v v) := fun u w H j i1 i2 Q q => by
  have e1 : u = .ref ad := i1
  subst e1
  cases i2
  have lt := (List.getElem?_eq_some_iff.mp h).1
  exact ⟨_, _, _, _, rfl, rfl, .inl (.inl (hz.2 H j)), atI_nat h, q v H _ (.refl j) rfl rfl⟩
theorem cx_lenO (hz : HasRow W (ad, rv)) : CX1 K W (rLen K) [.v (.ref ad)] (· = .d (.int rv.length)) := fun vs H j i Q q => by
  cases i with
  | cons h t =>
    cases t
    have e : _ = V.ref ad := h
    subst e
    exact ⟨ad, rv, rfl, .inl (.inl (.inl (hz.2 H j))), q _ H _ (.refl j) rfl (.int _)⟩
theorem xe_vd (h : XV K W te Δ (.v (vOf d))) (f : flat d = true) : XV K W te Δ (.d d) := fun σ H j st Q q => h σ H j st Q fun u H1 a f1 e i => by
  subst e
  have e : u = vOf d := i
  subst e
  exact q _ H1 _ f1 rfl (Dt.ofFlat f)
theorem xi_listO (hz : HasRow W (ad, rv)) (h : XV K W tl Δ (.v (.ref ad))) : XI K W (iList K tl) Δ (· = rv.length) fun i a => ∃ v, rv[i]? = some v ∧ a = .v v := fun σ H j s R q =>
  h σ H j s _ fun v H1 a f e i => by
    subst e
    have e : v = .ref ad := i
    subst e
    refine ⟨ad, rfl, ⟨rv, .inl (.inl (hz.2 H1 f.j))⟩, q _ H1 _ f rfl fun H2 f2 i => ?_⟩
    have g : SqL K H2 ad rv := .inl (.inl (hz.2 H2 f2.j))
    refine ⟨fun l => ?_, fun l => ⟨rv, g, l⟩⟩
    refine ⟨⟨rv, rv[i], g, List.getElem?_eq_getElem l⟩, fun y H3 yl => ⟨yl.1, .v rv[i], ⟨_, List.getElem?_eq_getElem l, rfl⟩, ?_⟩⟩
    have e := yl.2 rv g
    rw [List.getElem?_eq_getElem l] at e
    cases e
    rfl
end
/-! ### a method that leaves its object, in a world that fixes it -/
section
variable {γ T : Type} {K : PySem.W.Frag} {C : Addr} {o : Addr → T → HO} {pre : γ → T → List A → Prop} {post : γ → T → T → A → Prop} {postX : γ → T → T → Prop} {W : Wd} {x dx : Addr} {Δ : Env} {ta : TA} {te : TE} {E : XK} {t0 : T}
theorem xe_methC (g : γ) {D : Addr} {m : Str} {as : List A} (hx : W.M x) (hh : ∀ H, W.J H → H x = some (o dx t0)) (hv : XV K W te Δ (.v (.ref x))) (ho : ∀ t, ∃ fs, o dx t = .ins D dx fs ∧ fs.lookup m = none) (ha : XAs K W ta Δ as) (p : pre g t0 as) (nx : ∀ t, ¬ postX g t0 t) (sm : ∀ t a, post g t0 t a → t = t0) :
    XE K W (tMeth D m (spO K C o pre post postX) [] E te ta) Δ (post g t0 t0) := fun σ H j st Q q =>
  hv σ H j st _ fun v H1 a f1 e i1 => by
    subst e
    have e : v = .ref x := i1
    subst e
    obtain ⟨fs, eo, el⟩ := ho t0
    refine ⟨x, dx, fs, rfl, by rw [hh H1 f1.j, eo], el, ha σ H1 f1.j (st.fr f1) _ fun vs H2 as' f2 e i2 => ?_⟩
    subst e
    rw [List.append_nil]
    refine ⟨g, T, SW.free W x (o dx) t0 hx, t0, x, dx, fun t => t, fun _ t => t, as', free_j hx f2.j (hh H2 f2.j), hasObj_free hx, p, .cons rfl i2, fun v H' t a f r i => ?_, fun H' t f z => absurd z (nx t)⟩
    have e := sm t a r
    subst e
    exact q v H' a ((f1.trans f2).trans (free_back hx f)) r i
end
theorem ixN_nat {n i : Nat} (l : i < n) : L2.ixN n ((i : Nat) : Int) = some i := by
  unfold L2.ixN
  rw [if_pos (Int.natCast_nonneg i), if_pos (by omega)]
  rfl
/-! ### statements beside a fragment -/
section
variable {γ T : Type} {K : PySem.W.Frag} {W : Wd} {H0 H H' : Hp} {S S' : Frg} {ad x dx : Addr} {σ : L2.St} {Δ : Env} {rv : List V} {te to ti : TE} {ta : TA} {ts tu : TS} {tt : TT} {D : Ends} {R : A → Prop}
theorem FS.in (s : FS K W H0 H σ Δ S) (he : XE K (W.fix S) te Δ R) {Q : VK} (q : ∀ v H' a, R a → FS K W H0 H' σ Δ S → Gr W H S H' S → Is K (W.fix S).M H' v a → Q v H') : te σ H Q :=
  he σ H s.f.j s.st Q fun v H' a f r i => q v H' a r (s.go f) f.same i
theorem FS.put (s : FS K W H0 H σ Δ S) {i : Nat} {v : V} {a : A} (h : Is K (W.fix S).M H v a) : FS K W H0 H (σ.set i (some v)) (Δ.set i (some a)) S := ⟨s.f, s.st.set i h⟩
theorem fs_asg {k : Nat} (s : FS K W H0 H σ Δ S) (he : XE K (W.fix S) te Δ R) (q : ∀ v H' a, R a → FS K W H0 H' (σ.set k (some v)) (Δ.set k (some a)) S → Gr W H S H' S → D.nx (σ.set k (some v)) H') : tAsg te (gName k) D σ H :=
  s.in he fun v H' a r s1 g i => q v H' a r (s1.put i) g
theorem fs_if {B : Bool → Prop} (s : FS K W H0 H σ Δ S) (ht : XT K (W.fix S) tt Δ B) (h1 : ∀ H', B true → FS K W H0 H' σ Δ S → Gr W H S H' S → ts D σ H') (h2 : ∀ H', B false → FS K W H0 H' σ Δ S → Gr W H S H' S → tu D σ H') : tIfS tt ts tu D σ H :=
  ht σ H s.f.j s.st _ fun b H1 f hb => by
    cases b with
    | true => exact iteT (h1 H1 hb (s.go f) f.same)
    | false => exact iteF (h2 H1 hb (s.go f) f.same)
theorem fs_ret (s : FS K W H0 H σ Δ S) (he : XE K (W.fix S) te Δ R) (q : ∀ v H' a, R a → FS K W H0 H' σ Δ S → Gr W H S H' S → Is K (W.fix S).M H' v a → D.rt v H') : tRet te D σ H := s.in he q
/-- xs[i] = e, xs of the fragment, e flat -/
theorem fs_setL {i : Nat} {d : PyData} (s : FS K W H0 H σ Δ S) (h : (ad, HO.lst rv) ∈ S) (he : XV K (W.fix S) te Δ (.d d)) (fd : flat d = true) (ho : XV K (W.fix S) to Δ (.v (.ref ad))) (hi : XV K (W.fix S) ti Δ (.d (.int (i : Int)))) (l : i < rv.length)
    (q : ∀ H', FS K W H0 H' σ Δ (S.put ad (.lst (rv.set i (vOf d)))) → Gr W H S H' (S.put ad (.lst (rv.set i (vOf d)))) → D.nx σ H') : tAsg te (gSub to ti rSetL) D σ H :=
  s.in he fun v H1 a e s1 g1 iv => by
    subst e
    have ev : v = vOf d := Dt.flat iv fd
    subst ev
    refine s1.in ho fun u H2 a e s2 g2 iu => ?_
    subst e
    have eu : u = .ref ad := iu
    subst eu
    refine s2.in hi fun w H3 a e s3 g3 iw => ?_
    subst e
    cases iw
    exact ⟨ad, rv, _, i, rfl, rfl, s3.f.j.2 _ h, ixN_nat l, q _ (s3.to (s3.f.put h) (gr_put h)) (gr_trans (gr_trans (gr_trans g1 g2) g3) (gr_put h))⟩
/-- xs.append(e), xs of the fragment -/
theorem fs_app {v : V} (s : FS K W H0 H σ Δ S) (h : (ad, HO.lst rv) ∈ S) (l : rv.length < sizeLine) (q : FS K W H0 (upd H ad (.lst (rv ++ [v]))) σ Δ (S.put ad (.lst (rv ++ [v]))) → Gr W H S (upd H ad (.lst (rv ++ [v]))) (S.put ad (.lst (rv ++ [v]))) → D.nx σ (upd H ad (.lst (rv ++ [v])))) : rAppend (.ref ad) [v] H (fun _ H1 => D.nx σ H1) :=
  ⟨ad, rv, v, rfl, rfl, s.f.j.2 _ h, l, q (s.to (s.f.put h) (gr_put h)) (gr_put h)⟩
/-- o.m(..), o of the fragment, which it changes -/
theorem fs_meth {C : Addr} {oo : Addr → T → HO} {pre : γ → T → List A → Prop} {post : γ → T → T → A → Prop} {postX : γ → T → T → Prop} {E : XK} {t0 : T} (g : γ) {Cl : Addr} {m : Str} {as : List A} (s : FS K W H0 H σ Δ S) (h : (x, oo dx t0) ∈ S) (hv : XV K (W.fix S) te Δ (.v (.ref x))) (ho : ∀ t, ∃ fs, oo dx t = .ins Cl dx fs ∧ fs.lookup m = none) (ha : XAs K (W.fix S) ta Δ as) (p : pre g t0 as) (nx : ∀ t, ¬ postX g t0 t) {Q : VK}
    (q : ∀ v H' t a, post g t0 t a → FS K W H0 H' σ Δ (S.put x (oo dx t)) → Gr W H S H' (S.put x (oo dx t)) → Is K (W.fix (S.put x (oo dx t))).M H' v a → Q v H') : tMeth Cl m (spO K C oo pre post postX) [] E te ta σ H Q :=
  s.in hv fun v H1 a e s1 g1 i1 => by
    subst e
    have e : v = .ref x := i1
    subst e
    obtain ⟨fs, eo, el⟩ := ho t0
    refine ⟨x, dx, fs, rfl, by rw [s1.f.j.2 _ h, eo], el, ?_⟩
    refine ha σ H1 s1.f.j s1.st _ fun vs H2 as' f2 e i2 => ?_
    subst e
    rw [List.append_nil]
    have hx : (W.fix S).M x := .inr ⟨_, h, rfl⟩
    have s2 := s1.go f2
    refine ⟨g, T, SW.free (W.fix S) x (oo dx) t0 hx, t0, x, dx, fun t => t, fun _ t => t, as', free_j hx s2.f.j (s2.f.j.2 _ h), hasObj_free hx, p, .cons rfl i2, fun v H' t a f r i => ?_, fun H' t f z => absurd z (nx t)⟩
    exact q v H' t a r (s2.to (s2.f.obj h hx f) (gr_obj hx f)) (gr_trans (gr_trans g1 f2.same) (gr_obj hx f)) (by rw [fix_M (put_dom S x (oo dx t))]; exact i)
/-- f(o, ..) likewise -/
theorem fs_callo {C : Addr} {oo : Addr → T → HO} {pre : γ → T → List A → Prop} {post : γ → T → T → A → Prop} {postX : γ → T → T → Prop} {E : XK} {t0 : T} (g : γ) {as : List A} (s : FS K W H0 H σ Δ S) (h : (x, oo dx t0) ∈ S) (ha : XAs K (W.fix S) ta Δ (.v (.ref x) :: as)) (p : pre g t0 as) (nx : ∀ t, ¬ postX g t0 t) {Q : VK}
    (q : ∀ v H' t a, post g t0 t a → FS K W H0 H' σ Δ (S.put x (oo dx t)) → Gr W H S H' (S.put x (oo dx t)) → Is K (W.fix (S.put x (oo dx t))).M H' v a → Q v H') : tCall (spO K C oo pre post postX) [] E ta σ H Q :=
  ha σ H s.f.j s.st _ fun vs H2 as' f2 e i2 => by
    subst e
    rw [List.append_nil]
    have hx : (W.fix S).M x := .inr ⟨_, h, rfl⟩
    have s2 := s.go f2
    refine ⟨g, T, SW.free (W.fix S) x (oo dx) t0 hx, t0, x, dx, fun t => t, fun _ t => t, as, free_j hx s2.f.j (s2.f.j.2 _ h), hasObj_free hx, p, i2, fun v H' t a f r i => ?_, fun H' t f z => absurd z (nx t)⟩
    exact q v H' t a r (s2.to (s2.f.obj h hx f) (gr_obj hx f)) (gr_trans f2.same (gr_obj hx f)) (by rw [fix_M (put_dom S x (oo dx t))]; exact i)
theorem HasPool.fix {pa : Addr} (h : HasPool W pa) (n : ∀ p ∈ S, ¬ W.M p.1) : HasPool (W.fix S) pa where
  mem := .inl h.mem
  get H j := h.get H j.1
  put H n' s j h0 h1 := ⟨h.put H n' s j.1 h0 h1, fun p hp => by rw [upd_ne fun e : p.1 = pa => n p hp (e ▸ h.mem)]; exact j.2 p hp⟩
/-- name, xs[i] = a pair; xs of the fragment -/
theorem fs_tup2 {k i : Nat} {P d : PyData} (s : FS K W H0 H σ Δ S) (h : (ad, HO.lst rv) ∈ S) (he : XV K (W.fix S) te Δ (.d (.tuple [P, d]))) (fd : flat d = true) (ho : XV K (W.fix S) to (Δ.set k (some (.d P))) (.v (.ref ad))) (hi : XV K (W.fix S) ti (Δ.set k (some (.d P))) (.d (.int (i : Int)))) (l : i < rv.length)
    (q : ∀ v H', FS K W H0 H' (σ.set k (some v)) (Δ.set k (some (.d P))) (S.put ad (.lst (rv.set i (vOf d)))) → Gr W H S H' (S.put ad (.lst (rv.set i (vOf d)))) → D.nx (σ.set k (some v)) H') : tAsg te (gTup K 2 (gCons (gName k) (gCons (gSub to ti rSetL) gNil))) D σ H :=
  s.in he fun v H1 a e s1 g1 iv => by
    subst e
    cases iv with
    | tup h1 d1 =>
      cases d1 with
      | cons dx d2 =>
        cases d2 with
        | cons dy d3 =>
          cases d3
          refine ⟨_, _, rfl, sqT_same hid_le h1, rfl, _, _, rfl, _, _, rfl, ?_⟩
          have ev := Dt.flat dy fd
          subst ev
          have s2 : FS K W H0 H1 (σ.set k (some _)) (Δ.set k (some (.d P))) S := s1.put (a := .d P) dx
          refine s2.in ho fun u H2 a e s3 g2 iu => ?_
          subst e
          have eu : u = .ref ad := iu
          subst eu
          refine s3.in hi fun w H3 a e s4 g3 iw => ?_
          subst e
          cases iw
          exact ⟨ad, rv, _, i, rfl, rfl, s4.f.j.2 _ h, ixN_nat l, rfl, q _ _ (s4.to (s4.f.put h) (gr_put h)) (gr_trans (gr_trans (gr_trans g1 g2) g3) (gr_put h))⟩
end
/-! ### a part of the fragment seen alone -/
section
variable {K : PySem.W.Frag} {W : Wd} {H0 H H' : Hp} {S S1 : Frg} {σ : L2.St} {Δ : Env}
theorem FX.sub (f : FX W H0 H S) (h1 : ∀ p ∈ S1, p ∈ S) (g : Fr (W.fix S1) H H') : FX W H0 H' S :=
  ⟨fun a o n e => g.keep a o (fun z => n (z.imp id fun ⟨q, hq, e⟩ => ⟨q, h1 q hq, e⟩)) (f.keep a o n e), ⟨g.j.1, fun q hq => by
    by_cases z : (W.fix S1).M q.1
    · rcases z with z | ⟨r, hr, e⟩
      · exact absurd z (f.new q hq).2
      · have a1 := g.j.2 r hr
        have a2 := f.j.2 r (h1 r hr)
        have a3 := f.j.2 q hq
        rw [e] at a1 a2
        rw [a2] at a3
        rw [a1, a3]
    · exact g.keep _ _ z (f.j.2 q hq)⟩, f.new, f.nd⟩
theorem gr_sub (h1 : ∀ p ∈ S1, p ∈ S) (g : Fr (W.fix S1) H H') : Gr W H S H' S := fun c u e => by
  by_cases m : (W.fix S).M c
  · rw [hid_in m] at e; cases e
  · rw [hid_out m] at e ⊢
    exact g.keep c u (fun z => m (z.imp id fun ⟨q, hq, e⟩ => ⟨q, h1 q hq, e⟩)) e
theorem same_sub (h1 : ∀ p ∈ S1, p ∈ S) : Same (hid (W.fix S).M H) (hid (W.fix S1).M H) := fun c u e => by
  by_cases m : (W.fix S).M c
  · rw [hid_in m] at e; cases e
  · rw [hid_out m] at e
    rw [hid_out fun z => m (z.imp id fun ⟨q, hq, e⟩ => ⟨q, h1 q hq, e⟩)]
    exact e
theorem same_out : Same (hid (W.fix S).M H) (hid W.M H) := fun c u e => by
  by_cases m : (W.fix S).M c
  · rw [hid_in m] at e; cases e
  · rw [hid_out m] at e
    rw [hid_out fun z => m (.inl z)]
    exact e
theorem same_nil : Same (hid W.M H) (hid (W.fix []).M H) := fun c u e => by
  by_cases m : W.M c
  · rw [hid_in m] at e; cases e
  · rw [hid_out m] at e
    rw [hid_out fun z => z.elim m fun ⟨_, hq, _⟩ => nomatch hq]
    exact e
theorem FS.out (s : FS K W H0 H σ Δ S) : StOk K W.M H σ Δ := s.st.ext same_out
theorem FS.nil (j : W.J H) (st : StOk K W.M H σ Δ) : FS K W H H σ Δ [] := ⟨FX.nil j, st.ext same_nil⟩
/-- an expression over a part, the rest of the fragment read as data -/
theorem FS.part {te : TE} {Δ' : Env} {R : A → Prop} {Q : VK} (s : FS K W H0 H σ Δ S) (h1 : ∀ p ∈ S1, p ∈ S) (st' : StOk K (W.fix S1).M H σ Δ') (he : XE K (W.fix S1) te Δ' R) (q : ∀ v H' a, R a → FS K W H0 H' σ Δ S → Gr W H S H' S → Is K (W.fix S1).M H' v a → Q v H') : te σ H Q :=
  he σ H ⟨s.f.j.1, fun p hp => s.f.j.2 p (h1 p hp)⟩ st' Q fun v H' a f r i => q v H' a r (s.to (s.f.sub h1 f) (gr_sub h1 f)) (gr_sub h1 f) i
theorem StOk.setSelf {M : Addr → Prop} {k : Nat} {v : V} {a : A} (st : StOk K M H σ Δ) (e : σ[k]? = some (some v)) (i : Is K M H v a) : StOk K M H σ (Δ.set k (some a)) := by
  have h := st.set k i
  have e2 : σ.set k (some v) = σ := by
    refine List.ext_getElem? fun j => ?_
    rw [List.getElem?_set]
    by_cases z : k = j
    · subst z
      obtain ⟨lt, _⟩ := List.getElem?_eq_some_iff.mp e
      rw [if_pos rfl, if_pos lt, e]
    · rw [if_neg z]
  rwa [e2] at h
end
/-! ### the same place laid again; promises at an object with what is known of the arguments -/
section
variable {γ T : Type} {K : PySem.W.Frag} {W : Wd} {H0 H H' : Hp} {S S' : Frg} {a b c x dx : Addr} {o o' u : HO} {σ : L2.St} {Δ : Env} {te : TE} {tt : TT} {ts : TS} {D : Ends}
theorem mem_put {S : Frg} {a c : Addr} {o u : HO} (h : (c, u) ∈ S) (n : c ≠ a) : (c, u) ∈ S.put a o := List.mem_map.mpr ⟨(c, u), h, if_neg n⟩
theorem mem_putS (h : (a, o) ∈ S) : (a, o') ∈ S.put a o' := List.mem_map.mpr ⟨(a, o), h, if_pos rfl⟩
theorem put_put : (S.put a o).put a o' = S.put a o' := by
  unfold Frg.put
  rw [List.map_map]
  refine List.map_congr_left fun p _ => ?_
  show (if (if p.1 = a then (a, o) else p).1 = a then (a, o') else (if p.1 = a then (a, o) else p)) = _
  by_cases z : p.1 = a
  · rw [if_pos z, if_pos rfl, if_pos z]
  · rw [if_neg z, if_neg z]
theorem put_comm (n : a ≠ b) : (S.put a o).put b u = (S.put b u).put a o := by
  unfold Frg.put
  rw [List.map_map, List.map_map]
  refine List.map_congr_left fun p _ => ?_
  show (if (if p.1 = a then (a, o) else p).1 = b then (b, u) else (if p.1 = a then (a, o) else p)) = (if (if p.1 = b then (b, u) else p).1 = a then (a, o) else (if p.1 = b then (b, u) else p))
  by_cases z : p.1 = a
  · rw [if_pos z, if_neg (fun q : a = b => n q), if_neg (fun q : p.1 = b => n (z.symm.trans q)), if_pos z]
  · rw [if_neg z]
    by_cases y : p.1 = b
    · rw [if_pos y, if_neg (fun q : b = a => n q.symm)]
    · rw [if_neg y, if_neg z]
theorem put_self (nd : (S.map (·.1)).Nodup) (h : (a, o) ∈ S) : S.put a o = S := by
  unfold Frg.put
  refine (List.map_congr_left (g := fun p => p) fun p hp => ?_).trans (List.map_id' S)
  by_cases z : p.1 = a
  · rw [if_pos z]
    have k : ∀ {S : Frg}, (S.map (·.1)).Nodup → (a, o) ∈ S → p ∈ S → (a, o) = p := fun {S} => by
      induction S with
      | nil => exact fun _ h => nomatch h
      | cons q S ih =>
        intro nd h1 h2
        rw [List.map_cons, List.nodup_cons] at nd
        rcases List.mem_cons.mp h1 with e1 | h1 <;> rcases List.mem_cons.mp h2 with e2 | h2
        · rw [e1, e2]
        · exact absurd (List.mem_map.mpr ⟨p, h2, z.trans (congrArg Prod.fst e1)⟩) nd.1
        · exact absurd (List.mem_map.mpr ⟨_, h1, z.symm.trans (congrArg Prod.fst e2)⟩) nd.1
        · exact ih nd.2 h1 h2
    exact k nd h hp
  · rw [if_neg z]
theorem FS.ne (s : FX W H0 H S) (h : (a, o) ∈ S) (h' : (b, u) ∈ S) (d : o ≠ u) : a ≠ b := ne_of (s.j.2 _ h) (s.j.2 _ h') d
/-- f(o, ..), the arguments as they have come -/
theorem fs_sp {C : Addr} {oo : Addr → T → HO} {pre : γ → T → List A → Prop} {post : γ → T → T → A → Prop} {postX : γ → T → T → Prop} {E : XK} {t0 : T} {vs : List V} {as : List A} (g : γ) (s : FS K W H0 H σ Δ S) (h : (x, oo dx t0) ∈ S) (ia : IsAll K (W.fix S).M H vs as) (p : pre g t0 as) (nx : ∀ t, ¬ postX g t0 t) {Q : VK}
    (q : ∀ v H' t a, post g t0 t a → FS K W H0 H' σ Δ (S.put x (oo dx t)) → Gr W H S H' (S.put x (oo dx t)) → Is K (W.fix (S.put x (oo dx t))).M H' v a → Q v H') : spO K C oo pre post postX (.ref x :: vs) H Q E := by
  have hx : (W.fix S).M x := .inr ⟨_, h, rfl⟩
  exact ⟨g, T, SW.free (W.fix S) x (oo dx) t0 hx, t0, x, dx, fun t => t, fun _ t => t, as, free_j hx s.f.j (s.f.j.2 _ h), hasObj_free hx, p, .cons rfl ia, fun v H' t a f r i => q v H' t a r (s.to (s.f.obj h hx f) (gr_obj hx f)) (gr_obj hx f) (by rw [fix_M (put_dom S x (oo dx t))]; exact i), fun H' t f z => absurd z (nx t)⟩
/-- a test over a part, the rest of the fragment read as data -/
theorem FS.partT {S1 : Frg} {Δ' : Env} {B : Bool → Prop} {Q : Bool → Hp → Prop} (s : FS K W H0 H σ Δ S) (h1 : ∀ p ∈ S1, p ∈ S) (st' : StOk K (W.fix S1).M H σ Δ') (he : XT K (W.fix S1) tt Δ' B) (q : ∀ b H', B b → FS K W H0 H' σ Δ S → Gr W H S H' S → Q b H') : tt σ H Q :=
  he σ H ⟨s.f.j.1, fun p hp => s.f.j.2 p (h1 p hp)⟩ st' Q fun b H' f r => q b H' r (s.to (s.f.sub h1 f) (gr_sub h1 f)) (gr_sub h1 f)
theorem via_asg {k : Nat} (h : te σ H fun v H1 => D.nx (σ.set k (some v)) H1) : tAsg te (gName k) D σ H := h
theorem via_drop (h : te σ H fun _ H1 => D.nx σ H1) : tDrop te D σ H := h
theorem via_popA {to : TE} {z : V} {rr : V → List V → Hp → VK → Prop} {Q : List V → Hp → Prop} (h : to σ H fun y H1 => tyV K "list" y H1 ∧ rr y [z] H1 fun w H2 => Q [w] H2) : tCons (tBM K "list" rr to (tCons (tC z) tNil)) tNil σ H Q := h
theorem via_while {I : Nat → L2.St → Hp → Prop} (h0 : ∃ m, I m σ H) (h : ∀ m σ1 H1, I m σ1 H1 → ∀ Q : Bool → Hp → Prop, (∀ H2, (∀ N : L2.St → Hp → Prop, (∀ σ3 H3 m', m' < m → I m' σ3 H3 → N σ3 H3) → ts { D with nx := N, ct := N, bk := D.nx } σ1 H2) → Q true H2) → (∀ H2, D.nx σ1 H2 → Q false H2) → tt σ1 H1 Q) : tWhile tt ts D σ H := by
  refine ⟨I, h0, fun m σ1 H1 i => h m σ1 H1 i _ (fun H2 hb => iteT ⟨fun σ3 H3 => ∃ m', m' < m ∧ I m' σ3 H3, fun σ3 H3 z => z, hb _ fun σ3 H3 m' l z => ⟨m', l, z⟩⟩) fun H2 hn => iteF hn⟩
end
section
variable {K : PySem.W.Frag} {W : Wd} {Δ : Env} {t : TA} {te : TE}
/-- [e for i, j in zip(xs, ys)], each item by its number -/
theorem xe_lcZi {i j : Nat} {xs ys : List PyData} {P : Nat → PyData → Prop} (ij : i ≠ j) (ha : XAs K W t Δ [.d (.list xs), .d (.list ys)]) (small : xs.length ≤ 100000)
    (hs : ∀ D φ (m : Nat) x y, ¬ W.M D → xs[m]? = some x → ys[m]? = some y → XE K (W.add D φ) te ((((Δ.set j none).set i none).set i (some (.d x))).set j (some (.d y))) fun b => ∃ d, b = .d d ∧ P m d) :
    XE K W (tLc (iZip K t) (gTup K 2 (gCons (gName i) (gCons (gName j) gNil))) tYes te [i, j]) Δ fun b => ∃ ds : List PyData, ds.length = min xs.length ys.length ∧ (∀ m d, ds[m]? = some d → P m d) ∧ b = .d (.list ds) := fun σ H jw s Q q =>
  ha σ H jw s _ fun vs H1 as f1 e ia => by
    subst e
    cases ia with
    | cons ia ib =>
      cases ib with
      | cons ib ic =>
        cases ic
        cases ia with
        | lst h1 d1 =>
          cases ib with
          | lst h2 d2 =>
            rename_i p1 us1 p2 us2
            have m1 : ¬ W.M p1 := fun m => by rw [hid_in m] at h1; cases h1
            have m2 : ¬ W.M p2 := fun m => by rw [hid_in m] at h2; cases h2
            rw [hid_out m1] at h1
            rw [hid_out m2] at h2
            have g1 : ∀ H2, Fr W H1 H2 → SqL K H2 p1 us1 := fun H2 f => .inl (.inl (f.keep p1 _ m1 h1))
            have g2 : ∀ H2, Fr W H1 H2 → SqL K H2 p2 us2 := fun H2 f => .inl (.inl (f.keep p2 _ m2 h2))
            refine ⟨p1, p2, us1, us2, rfl, g1 H1 (.refl f1.j), g2 H1 (.refl f1.j), ?_⟩
            intro D nD
            have mD : ¬ W.M D := W.fresh f1.j nD
            have s1 := s.fr f1
            let n := min xs.length ys.length
            refine ⟨fun i m H2 => m = n - i ∧ i ≤ n ∧ ∃ ds vs, Fr W H1 H2 ∧ H2 D = some (.lst vs) ∧ DtAll K (hid (fun a => W.M a ∨ a = D) H2) vs ds ∧ ds.length = i ∧ ∀ m' d, ds[m']? = some d → P m' d,
              ⟨n, (Nat.sub_zero n).symm, Nat.zero_le n, [], [], .new f1.j nD, upd_same, .nil, rfl, fun m' d e => by cases e⟩, ?_⟩
            rintro c m H2 ⟨rfl, hc, ds, vs, f2, hD, dD, len, pr⟩
            by_cases l : c < n
            · have lx : c < xs.length := by show c < xs.length; have : n ≤ xs.length := Nat.min_le_left _ _; omega
              have ly : c < ys.length := by have : n ≤ ys.length := Nat.min_le_right _ _; omega
              obtain ⟨x, hx, dx⟩ := d1.get (List.getElem?_eq_getElem lx)
              obtain ⟨y, hy, dy⟩ := d2.get (List.getElem?_eq_getElem ly)
              refine .inr ⟨⟨us1, us2, x, y, g1 H2 f2, g2 H2 f2, hx, hy⟩, fun H3 => ∃ ds vs, Fr W H1 H3 ∧ H3 D = some (.lst vs) ∧ DtAll K (hid (fun a => W.M a ∨ a = D) H3) vs ds ∧ ds.length = c + 1 ∧ ∀ m' d, ds[m']? = some d → P m' d, ?_, ?_⟩
              · rintro H3 ⟨ds3, vs3, r⟩
                exact ⟨n - (c + 1), by omega, rfl, l, ds3, vs3, r⟩
              · rintro z H3 ⟨T, x', y', rfl, nT, rfl, ex, ey⟩
                have ex' := ex us1 (g1 H2 f2)
                rw [hx] at ex'
                cases ex'
                have ey' := ey us2 (g2 H2 f2)
                rw [hy] at ey'
                cases ey'
                have fT : Fr W H1 (upd H2 T (.tup [x, y])) := f2.trans (.new f2.j nT)
                have hD' : (upd H2 T (.tup [x, y])) D = some (.lst vs) := by rw [upd_ne fun e => by rw [e, nT] at hD; cases hD]; exact hD
                refine ⟨T, [x, y], rfl, .inl (.inl upd_same), rfl, x, [y], rfl, y, [], rfl, rfl, wipe2 ij σ (some x) (some y), ?_⟩
                unfold tYes
                dsimp only
                rw [if_pos rfl]
                have sI := same_in (φ := (· = HO.lst vs)) fT nD
                have sD : StOk K (W.add D (· = .lst vs)).M (upd H2 T (.tup [x, y])) (((L2.wipe σ [i, j]).set i (some x)).set j (some y)) ((((Δ.set j none).set i none).set i (some (.d xs[c]))).set j (some (.d ys[c]))) :=
                  ((((s1.unset j none).unset i none).ext sI).set (a := .d xs[c]) i (Dt.ext sI _ _ dx)).set (a := .d ys[c]) j (Dt.ext sI _ _ dy)
                refine hs D (· = .lst vs) c xs[c] ys[c] mD (List.getElem?_eq_getElem lx) (List.getElem?_eq_getElem ly) _ _ ⟨fT.j, _, hD', rfl⟩ sD _ fun v H4 b f4 rb ib => ?_
                obtain ⟨d, eb, pd⟩ := rb
                subst eb
                obtain ⟨u4, h4, eu⟩ := f4.j.2
                subst eu
                have dT : DtAll K (hid (fun a => W.M a ∨ a = D) (upd H2 T (.tup [x, y]))) vs ds := DtAll.ext (fun a o e => by
                  by_cases z : W.M a ∨ a = D
                  · rw [hid_in z] at e; cases e
                  · rw [hid_out z] at e ⊢
                    rw [upd_ne (ne_of_none e nT)]; exact e) _ _ dD
                have len4 : vs.length = c := by rw [dD.length]; exact len
                have f5 : Fr W H1 (upd H4 D (.lst (vs ++ [v]))) := by
                  refine ⟨fun a o nm e => ?_, W.loc H4 _ (fun a m => upd_ne fun z => mD (z ▸ m)) f4.j.1⟩
                  have ne : a ≠ D := ne_of_none e nD
                  rw [upd_ne ne]
                  exact f4.keep a o (fun z => z.elim nm ne) (fT.keep a o nm e)
                have cl : c ≤ 100000 := by have : n ≤ xs.length := Nat.min_le_left _ _; omega
                refine ⟨vs, h4, Nat.lt_of_le_of_lt (by rw [len4]; exact cl) (by decide), ds ++ [d], vs ++ [v], f5, upd_same, ?_, by rw [List.length_append, len]; rfl, fun m' d' hd' => ?_⟩
                · rw [hid_upd (.inr rfl)]
                  exact DtAll.append (DtAll.ext f4.same _ _ dT) (.cons ib .nil)
                · by_cases lt : m' < ds.length
                  · rw [List.getElem?_append_left lt] at hd'
                    exact pr m' d' hd'
                  · rw [List.getElem?_append_right (by omega)] at hd'
                    have e0 : m' = c := by
                      have l2 := (List.getElem?_eq_some_iff.mp hd').1
                      have l3 : m' - ds.length < 1 := l2
                      omega
                    subst e0
                    rw [len, Nat.sub_self] at hd'
                    cases hd'
                    exact pd
            · obtain rfl : c = n := by omega
              refine .inl ⟨⟨us1, us2, g1 H2 f2, g2 H2 f2, ?_⟩, q _ H2 _ (f1.trans f2) ⟨ds, len, pr, rfl⟩ ?_⟩
              · rw [d1.length, d2.length]
                show xs.length ≤ min xs.length ys.length ∨ ys.length ≤ min xs.length ys.length
                omega
              · exact Dt.lst (by rw [hid_out mD]; exact hD) (DtAll.ext (hid_add_le (φ := fun _ => True)) _ _ dD)
theorem cx_sortedO {ns : List Int} (n : ns.length < 64) : CX1 K W (rSorted K) [.d (.list (ns.map PyData.int))] (fun a => ∃ ns' : List Int, ns'.Perm ns ∧ ns'.Pairwise (· ≤ ·) ∧ a = .d (.list (ns'.map PyData.int))) := fun vs H j i Q q => by
  cases i with
  | cons h t =>
    cases t
    cases h with
    | lst h1 d1 =>
      obtain rfl := ints_vs d1
      exact ⟨_, ns, rfl, .inl (.inl (hid_le _ _ h1)), n, fun ns' p pm pw np => q _ _ _ (.new j np) ⟨ns', pm, pw, rfl⟩ (Dt.lst (hid_new j np) (dts_ints ns'))⟩
end
/-! ### new lists and objects into the fragment -/
section
variable {γ T : Type} {K : PySem.W.Frag} {W : Wd} {wi : TI} {Δ : Env} {t ta tk : TA} {te tt tg : TE} {H0 H H' : Hp} {S : Frg} {σ : L2.St} {p : Addr} {o : HO}
theorem xn_lc {k : Nat} {Nn : Nat → Prop} {Y : Nat → A → Prop} {P : Nat → PyData → Prop} (hi : XI K W wi Δ Nn Y) (small : ∀ n, Nn n → n ≤ 100000)
    (hs : ∀ D φ i a, ¬ W.M D → Y i a → XE K (W.add D φ) te ((Δ.set k none).set k (some a)) fun b => ∃ d, b = .d d ∧ P i d) :
    XN K W (tLc wi (gName k) tYes te [k]) Δ fun ds => Nn ds.length ∧ ∀ i d, ds[i]? = some d → P i d := fun σ H j s Q q =>
  hi σ H j s _ fun J H1 n f1 hn w => by
    intro D nD
    have mD : ¬ W.M D := W.fresh f1.j nD
    have s1 := s.fr f1
    refine ⟨fun i m H2 => m = n - i ∧ i ≤ n ∧ ∃ ds vs, Fr W H1 H2 ∧ H2 D = some (.lst vs) ∧ DtAll K (hid (fun a => W.M a ∨ a = D) H2) vs ds ∧ ds.length = i ∧ ∀ i d, ds[i]? = some d → P i d,
      ⟨n, (Nat.sub_zero n).symm, Nat.zero_le n, [], [], .new f1.j nD, upd_same, .nil, rfl, fun i d e => by simp at e⟩, ?_⟩
    rintro i m H2 ⟨rfl, hi, ds, vs, f2, h2, d2, len, pr⟩
    by_cases l : i < n
    · obtain ⟨go, yl⟩ := (w H2 f2 i).1 l
      refine .inr ⟨go, fun H3 => ∃ ds vs, Fr W H1 H3 ∧ H3 D = some (.lst vs) ∧ DtAll K (hid (fun a => W.M a ∨ a = D) H3) vs ds ∧ ds.length = i + 1 ∧ ∀ i d, ds[i]? = some d → P i d, ?_, ?_⟩
      · rintro H3 ⟨ds3, vs3, r⟩
        exact ⟨n - (i + 1), by omega, rfl, l, ds3, vs3, r⟩
      · intro x H3 y
        obtain ⟨e, a, ya, ia⟩ := yl x H3 y
        subst e
        refine ⟨(show ((σ.set k none).set k (some x)).set k none = σ.set k none by rw [List.set_set, List.set_set]), ?_⟩
        unfold tYes
        dsimp only
        rw [if_pos rfl]
        have sD : StOk K (W.add D (· = .lst vs)).M H3 ((σ.set k none).set k (some x)) ((Δ.set k none).set k (some a)) :=
          ((s1.unset k none).ext (same_in f2 nD)).set k (ia.ext (same_in f2 nD))
        refine hs D (· = .lst vs) i a mD ya _ H3 ⟨f2.j, _, h2, rfl⟩ sD _ fun v H4 b f4 rb ib => ?_
        obtain ⟨d, eb, pd⟩ := rb
        subst eb
        obtain ⟨u4, h4, eu⟩ := f4.j.2
        subst eu
        have len4 : vs.length = i := by rw [d2.length]; exact len
        have f5 : Fr W H1 (upd H4 D (.lst (vs ++ [v]))) := by
          refine ⟨fun a o nm e => ?_, W.loc H4 _ (fun a m => upd_ne fun z => mD (z ▸ m)) f4.j.1⟩
          have ne : a ≠ D := ne_of_none e nD
          rw [upd_ne ne]
          exact f4.keep a o (fun z => z.elim nm ne) (f2.keep a o nm e)
        refine ⟨vs, h4, Nat.lt_of_le_of_lt (Nat.le_trans (by rw [len4]; exact Nat.le_of_lt l) (small n hn)) (by decide), ds ++ [d], vs ++ [v], f5, upd_same, ?_, by rw [List.length_append, len]; rfl, fun k2 d2' e => ?_⟩
        · rw [hid_upd (.inr rfl)]
          exact DtAll.append (DtAll.ext f4.same _ _ d2) (.cons ib .nil)
        · by_cases hk : k2 < ds.length
          · rw [List.getElem?_append_left hk] at e
            exact pr k2 d2' e
          · rw [List.getElem?_append_right (by omega)] at e
            have z : k2 - ds.length = 0 := by
              cases q : k2 - ds.length with
              | zero => rfl
              | succ m => rw [q] at e; simp at e
            rw [z] at e
            cases e
            have : k2 = i := by omega
            rw [this]
            exact pd
    · obtain rfl : i = n := by omega
      have n0 : H D = none := by
        cases y : H D with
        | none => rfl
        | some o =>
          rw [f1.keep D o mD y] at nD
          cases nD
      exact .inl ⟨(w H2 f2 i).2 (Nat.le_refl _), q D H2 vs ds (f1.trans f2) n0 ⟨by rw [len]; exact hn, pr⟩ h2 d2⟩
theorem xi_rng3 {a b c : Int} {n : Nat} (h : XAs K W t Δ [.d (.int a), .d (.int b), .d (.int c)]) (g : RgC a b c n) : XI K W (iRng3 t) Δ (· = n) fun i x => x = .d (.int (a + (i : Int) * c)) := fun σ H j s R q =>
  h σ H j s _ fun vs H1 as f e i => by
    subst e
    cases i with
    | cons i1 i2 =>
      cases i2 with
      | cons i2 i3 =>
        cases i3 with
        | cons i3 i4 =>
          cases i4
          cases i1
          cases i2
          cases i3
          refine ⟨a, b, c, n, rfl, g, q _ H1 _ f rfl fun H2 f2 i => ⟨fun l => ⟨l, fun y H3 ⟨e, ey⟩ => ⟨e, _, rfl, ?_⟩⟩, fun l => l⟩⟩
          subst ey
          exact .int _
theorem strs_vs {H : Hp} : ∀ {vs : List V} {ps : List Str}, DtAll K H vs (ps.map PyData.str) → vs = ps.map V.str
  | _, [], .nil => rfl
  | _, p :: r, .cons h t => by
    cases h
    rw [strs_vs t]
    rfl
theorem fs_xn {R : List PyData → Prop} (s : FS K W H0 H σ Δ S) (he : XN K (W.fix S) te Δ R) {Q : VK} (q : ∀ p H' vs ds, R ds → FS K W H0 H' σ Δ ((p, .lst vs) :: S) → Gr W H S H' ((p, .lst vs) :: S) → DtAll K (hid (W.fix ((p, .lst vs) :: S)).M H') vs ds → Q (.ref p) H') : te σ H Q :=
  he σ H s.f.j s.st Q fun p H' vs ds f np r hp dd => q p H' vs ds r (s.to (s.f.more (s.f.go f) np hp) (gr_more np f.same)) (gr_more np f.same) (DtAll.ext (fun c u e => by
    by_cases m : (W.fix S).M c ∨ c = p
    · rw [hid_in m] at e; cases e
    · rw [hid_out m] at e
      rw [hid_out fun z => m (by
        rcases z with z | ⟨q, hq, e⟩
        · exact .inl (.inl z)
        · rcases List.mem_cons.mp hq with rfl | hq
          · exact .inr e.symm
          · exact .inl (.inr ⟨q, hq, e⟩))]
      exact e) _ _ dd)
theorem FX.drop (f : FX W H0 H ((p, o) :: S)) : FX W H0 H S :=
  ⟨fun a u n e => f.keep a u (fun z => by
    rcases z with z | ⟨q, hq, e2⟩
    · exact n (.inl z)
    · rcases List.mem_cons.mp hq with rfl | hq
      · have h0 := (f.new _ (.head _)).1
        rw [e2, e] at h0; cases h0
      · exact n (.inr ⟨q, hq, e2⟩)) e, ⟨f.j.1, fun q hq => f.j.2 q (.tail _ hq)⟩, fun q hq => f.new q (.tail _ hq), by
    have := f.nd
    rw [List.map_cons, List.nodup_cons] at this
    exact this.2⟩
theorem FS.drop (s : FS K W H0 H σ Δ ((p, o) :: S)) : FS K W H0 H σ Δ S := ⟨s.f.drop, s.st.ext (same_sub fun q hq => .tail _ hq)⟩
theorem gr_drop {S0 : Frg} (g : Gr W H0 S0 H ((p, o) :: S)) : Gr W H0 S0 H S := fun c u e => same_sub (fun q hq => .tail _ hq) c u (g c u e)
theorem put_cons {S : Frg} {a c : Addr} {o o' : HO} (h : c ≠ a) : Frg.put ((c, o) :: S) a o' = (c, o) :: Frg.put S a o' := by
  unfold Frg.put
  rw [List.map_cons, if_neg h]
theorem put_no {S : Frg} {a : Addr} {o : HO} (h : ∀ q ∈ S, q.1 ≠ a) : S.put a o = S := by
  unfold Frg.put
  exact (List.map_congr_left (g := fun p => p) fun q hq => if_neg (h q hq)).trans (List.map_id' S)
theorem put_hdN {S : Frg} {a : Addr} {o u : HO} (nd : (((a, u) :: S).map (·.1)).Nodup) : Frg.put ((a, u) :: S) a o = (a, o) :: S := by
  rw [List.map_cons, List.nodup_cons] at nd
  have e := put_no (S := S) (a := a) (o := o) fun q hq z => nd.1 (List.mem_map.mpr ⟨q, hq, z⟩)
  unfold Frg.put at e ⊢
  rw [List.map_cons, if_pos rfl, e]
/-- tm makes a new object -/
def Mk1 (K : PySem.W.Frag) (W : Wd) (Δ : Env) (tm : TE) (ob : Addr → HO) : Prop := ∀ σ H, W.J H → StOk K W.M H σ Δ → ∀ Q : VK, (∀ H1 y dy, Fr W H H1 → H1 y = none → H1 dy = none → dy ≠ y → Q (.ref y) (upd (upd H1 dy (.own y)) y (ob dy))) → tm σ H Q
theorem fs_mk {tm : TE} {ob : Addr → HO} (s : FS K W H0 H σ Δ S) (hm : Mk1 K (W.fix S) Δ tm ob) {Q : VK} (q : ∀ y dy H', FS K W H0 H' σ Δ ((y, ob dy) :: S) → Gr W H S H' ((y, ob dy) :: S) → Q (.ref y) H') : tm σ H Q :=
  hm σ H s.f.j s.st Q fun H1 y dy f ny ndy ne => by
    have s1 := s.go f
    have f2 : Fr (W.fix S) H1 (upd H1 dy (.own y)) := .new s1.f.j ndy
    have ny1 : (upd H1 dy (.own y)) y = none := by rw [upd_ne ne.symm]; exact ny
    exact q y dy _ ((s1.go f2).to ((s1.f.go f2).cons ny1) (gr_cons ny1)) (gr_trans f.same (gr_trans f2.same (gr_cons ny1)))
theorem mk_K {C : Addr} {sp : Sp} {gV : List V → List V → List V} {E : XK} {ob : Addr → HO} {d d2 : PyData} (h : XV K W tt Δ (.d d)) (fd : flat d = true) (h2 : XV K W tg Δ (.d d2)) (fd2 : flat d2 = true)
    (hsp : ∀ (x dx : Addr) (H : Hp) (Q : VK), H x = some (.ins C dx []) → Q .non (upd H x (ob dx)) → sp (gV [.ref x, vOf d] [vOf d2]) H Q E) : Mk1 K W Δ (tMakeK C 1 1 sp gV E (tCons tt tNil) (tCons tg tNil)) ob := fun σ H j s Q q =>
  h σ H j s _ fun v H1 a f1 e i1 => by
    subst e
    have ev := Dt.flat i1 fd
    subst ev
    refine h2 σ H1 f1.j (s.fr f1) _ fun w H2 b f2 e i2 => ?_
    subst e
    have ew := Dt.flat i2 fd2
    subst ew
    refine ⟨rfl, rfl, fun y dy ny ndy ne => hsp y dy _ _ upd_same ⟨rfl, ?_⟩⟩
    rw [upd_upd]
    exact q H2 y dy (f1.trans f2) ny ndy ne
theorem mk_P {C : Addr} {sp : Sp} {dvs : List V} {E : XK} {ob : Addr → HO} {d : PyData} (h : XV K W tt Δ (.d d)) (fd : flat d = true)
    (hsp : ∀ (x dx : Addr) (H : Hp) (Q : VK), H x = some (.ins C dx []) → Q .non (upd H x (ob dx)) → sp (.ref x :: ([vOf d] ++ dvs)) H Q E) : Mk1 K W Δ (tMake C sp dvs E (tCons tt tNil)) ob := fun σ H j s Q q =>
  h σ H j s _ fun v H1 a f1 e i1 => by
    subst e
    have ev := Dt.flat i1 fd
    subst ev
    refine fun y dy ny ndy ne => hsp y dy _ _ upd_same ⟨rfl, ?_⟩
    rw [upd_upd]
    exact q H1 y dy f1 ny ndy ne
end
theorem cutS_to {x : Str} {k : Nat} (hk : k ≤ x.length) : cutS x none (some (k : Int)) = ⟨(x.cps.toList.take k).toArray⟩ := by
  have h := cutS_nat (x := x) (i := 0) (k := k) (Nat.zero_le _) hk
  rw [List.drop_zero, Nat.sub_zero] at h
  rw [← h]
  unfold cutS
  have e : HT.sIx x.length 0 none = HT.sIx x.length 0 (some ((0 : Nat) : Int)) := by
    unfold HT.sIx
    simp
  rw [e]
/-! ### for i, x in enumerate(xs) beside a fragment -/
section
variable {K : PySem.W.Frag} {W : Wd} {H0 H : Hp} {S : Frg} {σ : L2.St} {Δ : Env} {tl : TE} {ts : TS} {D : Ends} {xs : List PyData}
theorem fs_forEn {i1 i2 : Nat} (s : FS K W H0 H σ Δ S) (hl : XV K (W.fix S) tl Δ (.d (.list xs))) (Inv : Nat → Env → Frg → Prop) (h0 : Inv 0 Δ S)
    (hs : ∀ Hs, Gr W H S Hs S → ∀ i x Δ1 S1 σ1 H1, xs[i]? = some x → Inv i Δ1 S1 → FS K W H0 H1 σ1 ((Δ1.set i1 (some (.d (.int (i : Int))))).set i2 (some (.d x))) S1 → Gr W Hs S H1 S1 →
      ∀ N : L2.St → Hp → Prop, (∀ σ2 H2 Δ2 S2, FS K W H0 H2 σ2 Δ2 S2 → Gr W Hs S H2 S2 → Inv (i + 1) Δ2 S2 → N σ2 H2) → ts { D with nx := N, ct := N, bk := D.nx } σ1 H1)
    (hd : ∀ σ1 H1 Δ1 S1, FS K W H0 H1 σ1 Δ1 S1 → Gr W H S H1 S1 → Inv xs.length Δ1 S1 → D.nx σ1 H1) : tFor (iEnum K (tCons tl tNil)) (gTup K 2 (gCons (gName i1) (gCons (gName i2) gNil))) ts D σ H := by
  unfold tFor iEnum
  refine (xa_cons hl xa_nil) σ H s.f.j s.st _ fun us H1 as f1 e ia => ?_
  subst e
  cases ia with
  | cons ia ib =>
    cases ib
    cases ia with
    | lst h1 d1 =>
      rename_i p vs
      have s1 := s.go f1
      have ga : ∀ {H2 : Hp} {S2 : Frg}, Gr W H1 S H2 S2 → SqL K H2 p vs := fun g => .inl (.inl (hid_le _ _ (g _ _ h1)))
      refine ⟨p, vs, rfl, ga (fun _ _ e => e), ?_⟩
      refine ⟨fun i k σ2 H2 => k = xs.length - i ∧ i ≤ xs.length ∧ ∃ Δ2 S2, FS K W H0 H2 σ2 Δ2 S2 ∧ Gr W H1 S H2 S2 ∧ Inv i Δ2 S2, ⟨xs.length, (Nat.sub_zero _).symm, Nat.zero_le _, Δ, S, s1, (fun _ _ e => e), h0⟩, ?_⟩
      rintro i k σ2 H2 ⟨rfl, hi, Δ2, S2, s2, g2, v2⟩
      have len := d1.length
      by_cases l : i < xs.length
      · obtain ⟨v, hv, dv⟩ := d1.get (List.getElem?_eq_getElem l)
        refine .inr ⟨⟨vs, v, ga g2, hv⟩, fun σ3 H3 => ∃ Δ3 S3, FS K W H0 H3 σ3 Δ3 S3 ∧ Gr W H1 S H3 S3 ∧ Inv (i + 1) Δ3 S3, ?_, ?_⟩
        · rintro σ3 H3 ⟨Δ3, S3, s3, g3, v3⟩
          exact ⟨xs.length - (i + 1), by omega, rfl, l, Δ3, S3, s3, g3, v3⟩
        · rintro y H3 ⟨T, x, rfl, nT, rfl, hx⟩
          have ex := hx vs (ga g2)
          rw [hv] at ex
          cases ex
          have f3 : Fr (W.fix S2) H2 (upd H2 T (.tup [.int (i : Nat), v])) := .new s2.f.j nT
          have s3 := s2.go f3
          have iT : Is K (W.fix S2).M (upd H2 T (.tup [.int (i : Nat), v])) (.ref T) (.d (.tuple [.int (i : Int), xs[i]])) := Dt.tup (.inl (.inl (hid_new s2.f.j nT))) (.cons (.int _) (.cons (Dt.ext (gr_trans g2 f3.same) _ _ dv) .nil))
          refine gx_tup2 (W := W.fix S2) (Δ := Δ2) (.ref T) σ2 _ s3.f.j s3.st iT _ fun σ4 H4 f4 s4 => ?_
          have g4 : Gr W H1 S H4 S2 := gr_trans g2 (gr_trans f3.same f4.same)
          exact hs H1 f1.same i xs[i] Δ2 S2 σ4 H4 (List.getElem?_eq_getElem l) v2 ⟨s3.f.go f4, s4⟩ g4 _ fun σ5 H5 Δ5 S5 s5 g5 n5 => ⟨Δ5, S5, s5, g5, n5⟩
      · obtain rfl : i = xs.length := by omega
        refine .inl ⟨⟨vs, ga g2, by rw [len]; exact Nat.le_refl _⟩, hd σ2 H2 Δ2 S2 s2 (gr_trans f1.same g2) v2⟩
end
end V2

set_option Elab.async false
set_option linter.all false
set_option maxRecDepth 100000
set_option maxHeartbeats 2000000
namespace V2
open PySem PySem.Spec PyProof.Rows L2
/-! ### min(texts, default=text) -/
def minS (y : Str) (ys : List Str) : Str := PySem.W.minOf y ys
def rMinDS (K : PySem.W.Frag) : List V → List V → Hp → VK → Prop := fun vs zs H Q => ∃ (a : Addr) (xs : List Str) (z : Str), vs = [.ref a] ∧ zs = [.str z] ∧ SqL K H a (xs.map V.str) ∧ (xs = [] → Q (.str z) H) ∧ ∀ y ys, xs = y :: ys → Q (.str (minS y ys)) H
theorem readsAll_strs {h : Heap} : ∀ {xs : List Str} {its : List Value}, Vals (xs.map V.str) its → PySem.ReadsAll h its (xs.map (PySem.W.Datum.toD : Str → PyData)) []
  | [], _, .nil => .nil
  | x :: xs, _, .cons r t => by
    obtain ⟨tk, rfl⟩ := r
    exact .cons (.str _ _) (readsAll_strs t)
theorem cr_minDS {X : Cx} (hc : X.calm = true) (hu : X.A.units + 1 < cLine) : CallRK X (.builtin "min") ["default"] (rMinDS X.K) := by
  intro pins s σ H vs zs us ws Q I r1 r2 h
  obtain ⟨a, xs, z, rfl, rfl, hs, h0, h1⟩ := h
  obtain ⟨its, rv, hl, _⟩ := I.list hs
  rw [Vals.ref1 r1]
  cases r2 with
  | cons r2 r3 =>
    cases r3
    obtain ⟨tz, rfl⟩ := r2
    refine PySem.W.min_list_datum_default (α := Str) (xs := xs) (I.ok.hd hc) hl.isList ⟨[], by simpa using readsAll_strs rv⟩ (by simpa [PySem.W.Datum.depth] using hu) (fun e h' tk hk => ⟨(.str z : V), H, I.kept hk, ⟨_, rfl⟩, h0 e⟩) fun y ys i v h' tk e hi hv hk => ?_
    obtain ⟨as, hr⟩ := hv
    cases hr
    exact ⟨(.str (minS y ys) : V), H, I.kept hk, ⟨_, rfl⟩, h1 y ys e⟩
/-! ### a dict of the module, texts to texts, walked -/
def KDic (K : PySem.W.Frag) (w : World) (d : Addr) (kvs : List (Str × Str)) : Prop := (d == sysModules) = false ∧ ∃ es n, K.lookup d = some ⟨.type "dict", none, .dict es n, #[]⟩ ∧ PySem.W.KeysLit w.params es.toList ∧ es.size = kvs.length ∧
  ∀ (i : Nat) (k v : Str), kvs[i]? = some (k, v) → (∃ (en : DictEntry) (t : Tok), es[i]? = some en ∧ en.key = Value.str k t) ∧ ∃ t, PySem.W.nsIn K d k = some (some (.str v t))
theorem KDic.get {K : PySem.W.Frag} {w : World} {d : Addr} {kvs : List (Str × Str)} (h : KDic K w d kvs) {i : Nat} {k v : Str} (e : kvs[i]? = some (k, v)) : KDct K w d k (.str v) := by
  obtain ⟨_, es, n, h1, h2, h3, h4⟩ := h
  obtain ⟨_, t, h5⟩ := h4 i k v e
  exact ⟨es, n, _, h1, h2, h5, t, rfl⟩
def Itkk (kvs : List (Str × Str)) : It := ⟨fun i _ => i < kvs.length, fun i H x H' => H' = H ∧ ∃ k v, kvs[i]? = some (k, v) ∧ x = .str k, fun i _ => kvs.length ≤ i⟩
theorem turn_keysK {P : Program} {w : World} {K : PySem.W.Frag} {tg : Expr} {d : Addr} {kvs : List (Str × Str)} {es : Array DictEntry} {ep : Nat} (it : Addr) (hK0 : K.lookup d = some ⟨.type "dict", none, .dict es ep, #[]⟩) (hsz : es.size = kvs.length) (hes : ∀ (i : Nat) (k v : Str), kvs[i]? = some (k, v) → ∃ (en : DictEntry) (t : Tok), es[i]? = some en ∧ en.key = Value.str k t) : Turn P w K tg (Itkk kvs) [it] it (fun i h => h.IsKeyIter it d i kvs.length ep) where
  mem := by simp
  obj := fun i h st b hb => by
    have e : b = it := by simpa using hb
    subst e
    obtain ⟨oi, e, c, dd⟩ := st
    exact ⟨oi, e, fun v z => by rw [dd] at z; cases z⟩
  keep := fun i h h' st k => st.at fun oi e => k it (by simp) oi e
  item := by
    intro X hP hw hK hc i pins s σ H E I hf st hg
    subst hP hw hK
    have hi : i < kvs.length := hg
    obtain ⟨f0, f1, f2, f3, f4, f5⟩ := hf it (by simp)
    have hgd := I.kIn d _ hK0
    obtain ⟨⟨k, v⟩, hkv⟩ : ∃ p, kvs[i]? = some p := ⟨kvs[i], List.getElem?_eq_getElem hi⟩
    obtain ⟨en, t, hen, hkey⟩ := hes i k v hkv
    refine next_key_item st hgd rfl hsz hen fun h' st' sb => ?_
    have I1 : Inv X pins σ H { s with heap := h' } := I.turned (t' := s.toks) (fun b ob hb e => (sb.2 b hb).trans e) f0 f1 f3 f4 f5
    obtain ⟨oi, e, c, dd⟩ := id st'
    exact ⟨en.key, rfl, go_of (s := { s with heap := h' }) e c dd (by decide) ⟨.str k, H, I1, ⟨t, hkey⟩, ⟨rfl, k, v, hkv, rfl⟩, st', fun b hb => (hf b hb).1⟩⟩
  done := by
    intro X hP hw hK hc i pins s σ H E I hf st hg
    subst hP hw hK
    have hi : kvs.length ≤ i := hg
    obtain ⟨f0, f1, f2, f3, f4, f5⟩ := hf it (by simp)
    have hgd := I.kIn d _ hK0
    exact next_key_end (I.ok.hd hc) st hgd rfl hsz hi fun h' eb => ⟨rfl, I.turned (t' := s.toks) (fun b ob hb e => eb b ob hb e) f0 f1 f3 f4 f5⟩
  self := fun A i s Q E st h => by
    refine wpAny_pyIter_slot st.typeIs F.slot_dict_keyiterator_iter (wpAny_call_entry F.slot_dict_keyiterator_iter st.typeIs F.entry_dict_keyiterator_iter ?_ (F.args_dict_keyiterator_iter_1 _))
    show wpAny _ _ (ret (.ref it)) _ _ s
    exact wpAny_pure ⟨_, rfl, "dict_keyiterator", _, st.typeIs, F.slot_dict_keyiterator_next.lookup, h⟩
def iKeysK (K : PySem.W.Frag) (w : World) (td : TE) : TI := fun σ H R => td σ H fun x H1 => ∃ d kvs, x = .ref d ∧ KDic K w d kvs ∧ R (Itkk kvs) H1
theorem pi_keysK {X : Cx} {tg e : Expr} {td : TE} (he : PE X e td) : PI X tg e (iKeysK X.K X.w td) := by
  refine ⟨fun pins s σ H R I h => ?_⟩
  refine thn (he.run pins s σ H _ I h) fun u s1 ⟨x, H1, I1, rx, d, kvs, ex, ⟨hs, es, ep, hl, hk, hsz, hes⟩, q⟩ => ?_
  subst ex
  obtain rfl : u = Value.ref d := rx
  refine iter_keys hs (I1.kIn d _ hl) ⟨rfl, rfl, rfl⟩ rfl (pi_one (tk := s1.toks) I1 _ (turn_keysK _ hl hsz fun i k v e => (hes i k v e).1) ⟨_, Heap.get?_push_size _ rfl, rfl, ?_⟩ q)
  rw [hsz] <;> rfl
/-- name = {..} on one line, the name a local -/
theorem ps_setDc {X : Cx} {i : Nat} {y : Str} {py : Pos} {kx vx tg iter : Expr} {ifs : List Expr} {scope : Scope} {own : List (Str × Nat)} {pos spos : Pos} {wi : TI} {g : TG} {tt : TT} {tk tv : TE} (hc : X.calm = true) (hN : X.N.Nodup) (hy : X.N[i]? = some y) (hyl : X.env.scope.names.lookup y = some .local)
    (hsw : swapsWith (.DictComp kx vx [⟨tg, iter, ifs, 0⟩] scope pos) (some (.Name y py)) spos.line X.env = pure true) (hi : PI X tg iter wi) (ok : BlkOk X.N X.env.scope scope own)
    (hg : ∀ (s : Shared) (H : Hp) (C : Addr) (cl : List (Str × Addr)) (fp : List Addr), PG (X.blk s H scope (compEnvC scope cl C X.env) fp) tg g) (ht : ∀ (s : Shared) (H : Hp) (C : Addr) (cl : List (Str × Addr)) (fp : List Addr), PTs (X.blk s H scope (compEnvC scope cl C X.env) fp) ifs tt)
    (hk : ∀ (s : Shared) (H : Hp) (C : Addr) (cl : List (Str × Addr)) (fp : List Addr), PE (X.blk s H scope (compEnvC scope cl C X.env) fp) kx tk)
    (he : ∀ (s : Shared) (H : Hp) (C : Addr) (cl : List (Str × Addr)) (fp : List Addr), PE (X.blk s H scope (compEnvC scope cl C X.env) fp) vx tv) (hs : ∀ x, foldedSetIterable iter X.env x = pure x := by intro _; rfl) :
    PS X (.Assign [.Name y py] (.DictComp kx vx [⟨tg, iter, ifs, 0⟩] scope pos) spos) (tAsg (tDc wi g tt tk tv (own.map (·.2))) (gName i)) := by
  refine ⟨fun pins s σ H D I h => ?_⟩
  rw [exec_Assign_Name_used _ _ _ _ hsw]
  refine wpAny_bind (wpAny_standAt (wpAny_bind ?_))
  show wpAny _ X.A (do let _ ← comprehension (.DictComp kx vx [⟨tg, iter, ifs, 0⟩] scope pos) scope X.env (firstIterPos [⟨tg, iter, ifs, 0⟩] pos) newDict false (eval iter X.env) (some (assign (.Name y py) X.env))) _ _ s
  have h : tDc wi g tt tk tv (own.map (·.2)) σ H (fun x H1 => gName i x σ H1 D.nx) := h
  refine wpAny_bind (thn (dc_core (Qf := fun _ s' => SP X pins D .next s') hc hN I hi ok hg ht hk he hs h fun L C s' m H' I' q hn f => ?_) fun _ s' hq => wpAny_pure (wpAny_pure hq))
  show wpAny _ _ (assign (.Name y py) X.env (.ref L)) _ _ _
  refine wpAny_assign_Name (store_ok2 (v := V.ref L) I' hN hy (.inl hyl) rfl (fun s2 I2 ⟨a, sb, ha⟩ => ?_) (.inr hyl))
  obtain ⟨f0, f1, f2, f3, f4, f5⟩ := f
  have haC : C ≠ a := by
    rcases ha with z | z
    · rw [z]; exact f1
    · exact fun e => f4 y a z e.symm
  refine ⟨m, hn.sameBut sb haC, fun h3 sb3 => ?_⟩
  exact ⟨_, H', I2.turned (t' := s2.toks) (fun b o hb e => (sb3.2 b hb).trans e) f0 f1 f3 f4 f5, q⟩
theorem sw_trueD {kx vx : Expr} {gs : List Comprehension} {scope : Scope} {pos py : Pos} {y : Str} {l : Nat} {env : PySem.Env} (hk : env.scope.kind = .function) (hy : env.scope.names.lookup y = some .local) (hl : (py.line == pos.line) = true)
    (ha : (scope.names.any fun (n, k) => n == y && (k == .local || k == .cell)) = false) : swapsWith (.DictComp kx vx gs scope pos) (some (.Name y py)) l env = pure true := by
  have ky : env.kindOf y = some .local := hy
  have hb : env.blockKind = .function := by unfold Env.blockKind; rw [hk]; rfl
  unfold swapsWith
  simp only [hb, ky, ha, Expr.pos, hl]
  rfl
/-! ### such a dict from what stands there -/
def kEnt (P : Params) (p : Str × Str × Tok × Tok) : DictEntry := ⟨PyData.keyHash P p.1, .str p.1 p.2.2.1, .str p.2.1 p.2.2.2⟩
theorem keysLit_ent {P : Params} : ∀ es : List (Str × Str × Tok × Tok), PySem.W.KeysLit P (es.map (kEnt P))
  | [] => trivial
  | p :: es => ⟨⟨p.1, p.2.2.1, rfl, rfl⟩, keysLit_ent es⟩
theorem find_ent {P : Params} : ∀ {es : List (Str × Str × Tok × Tok)} {i : Nat} {p : Str × Str × Tok × Tok}, (es.map (·.1)).Nodup → es[i]? = some p → (es.map (kEnt P)).find? (fun x => x.key.isStr p.1) = some (kEnt P p)
  | [], i, p, _, e => by simp at e
  | a :: es, 0, p, nd, e => by
    have e : a = p := by simpa using e
    subst e
    rw [List.map_cons, List.find?_cons]
    have : (kEnt P a).key.isStr a.1 = true := by
      show (a.1 == a.1) = true
      exact beq_self_eq_true _
    rw [this]
  | a :: es, i + 1, p, nd, e => by
    have e : es[i]? = some p := by simpa using e
    rw [List.map_cons, List.nodup_cons] at nd
    have ne : a.1 ≠ p.1 := fun z => nd.1 (List.mem_map.mpr ⟨p, List.mem_of_getElem? e, z.symm⟩)
    rw [List.map_cons, List.find?_cons]
    have : (kEnt P a).key.isStr p.1 = false := by
      show (a.1 == p.1) = false
      exact beq_eq_false_iff_ne.mpr ne
    rw [this]
    exact find_ent nd.2 e
theorem kdic_mk {K : PySem.W.Frag} {w : World} {d : Addr} {n : Nat} (es : List (Str × Str × Tok × Tok)) (hs : (d == sysModules) = false) (nd : (es.map (·.1)).Nodup) (hl : K.lookup d = some ⟨.type "dict", none, .dict (es.map (kEnt w.params)).toArray n, #[]⟩) : KDic K w d (es.map fun p => (p.1, p.2.1)) := by
  refine ⟨hs, _, n, hl, by simpa using keysLit_ent (P := w.params) es, by simp, fun i k v e => ?_⟩
  rw [List.getElem?_map] at e
  cases q : es[i]? with
  | none => rw [q] at e; cases e
  | some p =>
    rw [q] at e
    have e : (p.1, p.2.1) = (k, v) := Option.some.inj e
    obtain ⟨rfl, rfl⟩ := Prod.mk.inj e
    refine ⟨⟨kEnt w.params p, p.2.2.1, by simp [q], rfl⟩, p.2.2.2, ?_⟩
    unfold PySem.W.nsIn
    rw [hl]
    show (match (es.map (kEnt w.params)).toArray.toList.find? (fun x => x.key.isStr p.1) with | some e => some (some e.val) | none => _) = _
    rw [List.toList_toArray, find_ent nd q]
    rfl
/-! ### dict comprehensions over a text, and a walk over a dict of the module -/
abbrev pairsS (l : List Nat) (u : Str) : List (Str × Str) := l.map fun c => (oneS c, u)
theorem mergeS_snoc (a b : List (Str × Str)) (p : Str × Str) : mergeS a (b ++ [p]) = putS (mergeS a b) p.1 p.2 := by
  unfold mergeS
  rw [List.foldl_append]
  rfl
theorem putS_len (kvs : List (Str × Str)) (k z : Str) : (putS kvs k z).length ≤ kvs.length + 1 := by
  unfold putS
  split
  · rw [List.length_map]; omega
  · rw [List.length_append]; exact Nat.le_refl _
theorem mergeS_len : ∀ (b a : List (Str × Str)), (mergeS a b).length ≤ a.length + b.length
  | [], a => Nat.le_refl _
  | p :: b, a => by
    have h := mergeS_len b (putS a p.1 p.2)
    have h2 := putS_len a p.1 p.2
    show (mergeS (putS a p.1 p.2) b).length ≤ _
    rw [List.length_cons]
    omega
section
variable {K : PySem.W.Frag} {W : Wd} {H0 H : Hp} {S : Frg} {σ : L2.St} {Δ : Env} {tl : TE}
theorem fs_dcStr {x u : Str} {k : Nat} (s : FS K W H0 H σ Δ S) (h : XV K (W.fix S) tl Δ (.d (.str x))) (small : x.cps.size ≤ 10000) (hk : k < Δ.length) {Q : VK}
    (q : ∀ D H', FS K W H0 H' σ Δ ((D, .dK (KV2 (mergeS [] (pairsS x.cps.toList u)))) :: S) → Gr W H S H' ((D, .dK (KV2 (mergeS [] (pairsS x.cps.toList u)))) :: S) → Q (.ref D) H') : tDc (iStr tl) (gName k) tYes (tVar k) (tC (.str u)) [k] σ H Q := by
  refine xi_str h σ H s.f.j s.st _ fun J H1 n f1 hn w => ?_
  subst hn
  intro D nD
  have s1 := s.go f1
  have mD : ¬ (W.fix S).M D := (W.fix S).fresh f1.j nD
  have lk : k < σ.length := by rw [s.st.len]; exact hk
  let pre : Nat → List (Str × Str) := fun i => mergeS [] (pairsS (x.cps.toList.take i) u)
  have pl : ∀ i, i ≤ x.cps.size → (pre i).length ≤ 10000 := fun i hi => by
    have := mergeS_len (pairsS (x.cps.toList.take i) u) []
    rw [List.length_map, List.length_take] at this
    have e : ([] : List (Str × Str)).length = 0 := rfl
    show (mergeS [] (pairsS (x.cps.toList.take i) u)).length ≤ 10000
    omega
  refine ⟨fun i m H2 => m = x.cps.size - i ∧ i ≤ x.cps.size ∧ Fr (W.fix S) H1 H2 ∧ H2 D = some (.dK (KV2 (pre i))), ⟨_, rfl, Nat.zero_le _, .new f1.j nD, upd_same⟩, ?_⟩
  rintro i m H2 ⟨rfl, hi, f2, hD⟩
  by_cases l : i < x.cps.size
  · obtain ⟨go, yl⟩ := (w H2 f2 i).1 l
    refine .inr ⟨go, fun H3 => Fr (W.fix S) H1 H3 ∧ H3 D = some (.dK (KV2 (pre (i + 1)))), fun H3 r => ⟨_, by omega, rfl, l, r⟩, fun z H3 y => ?_⟩
    obtain ⟨e, a, ⟨c, hc, ea⟩, ia⟩ := yl z H3 y
    subst e
    subst ea
    cases ia
    refine ⟨(show ((σ.set k none).set k (some (.str (oneS c)))).set k none = σ.set k none by rw [List.set_set, List.set_set]), ?_⟩
    unfold tYes
    dsimp only
    rw [if_pos rfl]
    refine ⟨_, (show ((σ.set k none).set k (some (.str (oneS c))))[k]? = some (some (.str (oneS c))) by rw [List.set_set, List.getElem?_set, if_pos rfl, if_pos lk]), KV2 (pre i), .inr (oneS c), rfl, hD, ?_, ?_, ?_⟩
    · unfold KV2
      rw [List.length_map]
      exact Nat.lt_of_le_of_lt (pl i hi) (by decide)
    · refine ⟨fun a o nm e => ?_, (W.fix S).loc _ _ (fun a m => upd_ne fun z => mD (z ▸ m)) f2.j⟩
      have ne : a ≠ D := ne_of_none e nD
      rw [upd_ne ne]
      exact f2.keep a o nm e
    · have hl : x.cps.toList[i]? = some c := by rw [Array.getElem?_toList]; exact hc
      have e : pre (i + 1) = putS (pre i) (oneS c) u := by
        show mergeS [] (pairsS (x.cps.toList.take (i + 1)) u) = _
        rw [List.take_add_one, hl]
        show mergeS [] ((x.cps.toList.take i ++ [c]).map _) = _
        rw [List.map_append]
        exact mergeS_snoc _ _ _
      rw [upd_same, e, putK_KV2]
  · obtain rfl : i = x.cps.size := by omega
    refine .inl ⟨(w H2 f2 _).2 (Nat.le_refl _), q D H2 ?_ ?_⟩
    all_goals
      have e : pre x.cps.size = mergeS [] (pairsS x.cps.toList u) := by
        show mergeS [] (pairsS (x.cps.toList.take x.cps.size) u) = _
        rw [List.take_of_length_le (by rw [Array.length_toList]; exact Nat.le_refl _)]
      rw [e] at hD
    · exact s1.to (s1.f.more (s1.f.go f2) nD hD) (gr_more nD f2.same)
    · exact gr_trans f1.same (gr_more nD f2.same)
end
theorem for_keysK {kvs : List (Str × Str)} {g : TG} {tb : TS} {D : Ends} {σ : L2.St} {H : Hp} (Pv : Nat → L2.St → Hp → Prop) (h0 : Pv 0 σ H)
    (hs : ∀ i k v σ H, kvs[i]? = some (k, v) → Pv i σ H → g (.str k) σ H fun σ2 H2 => tb { D with nx := Pv (i + 1), ct := Pv (i + 1), bk := D.nx } σ2 H2) (hd : ∀ σ H, Pv kvs.length σ H → D.nx σ H) :
    ∃ W : Nat → Nat → L2.St → Hp → Prop, (∃ m, W 0 m σ H) ∧ ∀ i m σ H, W i m σ H →
      ((Itkk kvs).stop i H ∧ D.nx σ H) ∨ ((Itkk kvs).go i H ∧ ∃ N : L2.St → Hp → Prop, (∀ σ' H', N σ' H' → ∃ m', m' < m ∧ W (i + 1) m' σ' H') ∧ ∀ x H', (Itkk kvs).yld i H x H' → g x σ H' fun σ2 H2 => tb { D with nx := N, ct := N, bk := D.nx } σ2 H2) := by
  refine ⟨fun i m σ H => m = kvs.length - i ∧ i ≤ kvs.length ∧ Pv i σ H, ⟨kvs.length, by simp, Nat.zero_le _, h0⟩, ?_⟩
  rintro i m σ H ⟨rfl, hi, p⟩
  by_cases hlt : i < kvs.length
  · refine .inr ⟨hlt, Pv (i + 1), fun σ' H' p' => ⟨kvs.length - (i + 1), by omega, rfl, hlt, p'⟩, fun x H' y => ?_⟩
    obtain ⟨e, k, v, hkv, ex⟩ := y
    subst e ex
    exact hs i k v σ _ hkv p
  · have e : i = kvs.length := by omega
    subst e
    exact .inl ⟨Nat.le_refl _, hd σ H p⟩
/-! ### the least key of a dict that stands for a text -/
def leastS (kvs : List (Str × Str)) (kind : Str) : Str := match (kvs.filter fun p => decide (look kvs "" p.1 = kind)).map (·.1) with | [] => "" | y :: ys => minS y ys
theorem eqF_strT {a b : Str} : eqF (.str a) (.str b) = decide (a = b) := by
  unfold eqF
  show decide (V.str a = V.str b) = _
  by_cases h : a = b
  · rw [decide_eq_true h, h, decide_eq_true rfl]
  · rw [decide_eq_false h, decide_eq_false fun z => h (V.str.inj z)]
theorem valV_key {kvs : List (Str × Str)} {p : Str × Str} (h : p ∈ kvs) : valV (KV2 kvs) (Sum.inr p.1) = some (.str (look kvs "" p.1)) := by
  have e := valV_look p.1 "" kvs
  cases q : valV (KV2 kvs) (Sum.inr p.1) with
  | some v => rw [q] at e; exact congrArg some e
  | none =>
    exfalso
    unfold valV at q
    rw [Option.map_eq_none_iff, List.find?_eq_none] at q
    have := q (Sum.inr p.1, V.str p.2) (List.mem_map.mpr ⟨p, h, rfl⟩)
    simp at this
section
variable {K : PySem.W.Frag} {W : Wd}
abbrev lockF (d : Addr) (od : Obj) (kvs : List (Str × Str)) : Frg := [(d, .frz od (.dK (KV2 kvs)))]
theorem xi_keysF {d : Addr} {od : Obj} {kvs : List (Str × Str)} {Δ : Env} {i0 : Nat} (e0 : Δ[i0]? = some (some (.v (.ref d)))) : XI K (W.fix (lockF d od kvs)) (iKeys (tVar i0)) Δ (· = (kvs.map fun p => PyData.str p.1).length) fun i a => ∃ x, (kvs.map fun p => PyData.str p.1)[i]? = some x ∧ a = .d x := fun σ H j s R q => by
  obtain ⟨v, e, iv⟩ := s.get i0 _ e0
  have iv : v = .ref d := iv
  subst iv
  refine ⟨_, e, d, od, rfl, .inl ⟨KV2 kvs, j.2 _ (.head _), q _ H _ (.refl j) rfl fun H2 f2 i => ⟨fun l => ⟨⟨f2.j.2 _ (.head _), ?_⟩, fun x H3 ⟨eH, k, z, hkv, ex⟩ => ?_⟩, fun l => ⟨f2.j.2 _ (.head _), ?_⟩⟩⟩⟩
  · unfold KV2
    rw [List.length_map] at l ⊢
    exact l
  · unfold KV2 at hkv
    rw [List.getElem?_map] at hkv
    cases q2 : kvs[i]? with
    | none => rw [q2] at hkv; cases hkv
    | some p =>
      rw [q2] at hkv
      cases hkv
      subst ex
      exact ⟨eH, _, ⟨_, by rw [List.getElem?_map, q2]; rfl, rfl⟩, .str _⟩
  · unfold KV2
    rw [List.length_map] at l ⊢
    exact l
theorem xe_minKeys {kvs : List (Str × Str)} {kind : Str} (small : kvs.length ≤ 1000) : XV K W (tCKw (rMinDS K) (tCons (tLockE (tLc (iKeys (tVar 0)) (gName 2) (tTest (tOp rEq (tDGet (tVar 0) (tVar 2)) (tVar 1))) (tVar 2) [2])) tNil) (tCons (tC (.str "")) tNil)) [some (.d (KD kvs)), some (.d (.str kind)), none] (.d (.str (leastS kvs kind))) := fun σ H j s Q q => by
  obtain ⟨v0, e0, i0⟩ := s.get 0 _ rfl
  obtain ⟨v1, e1, i1⟩ := s.get 1 _ rfl
  cases i1
  cases i0 with
  | dct hd hk =>
    rename_i d es
    obtain rfl := dtkv_is hk
    have nM : ¬ W.M d := fun m => by rw [hid_in m] at hd; cases hd
    rw [hid_out nM] at hd
    refine ⟨d, .dK (KV2 kvs), hd, trivial, fun od => ?_⟩
    have jf : (W.fix (lockF d od kvs)).J (upd H d (.frz od (.dK (KV2 kvs)))) := ⟨W.loc H _ (fun a m => upd_ne fun z => nM (z ▸ m)) j, fun p hp => by rw [List.mem_singleton.mp hp]; exact upd_same⟩
    have sf : StOk K (W.fix (lockF d od kvs)).M (upd H d (.frz od (.dK (KV2 kvs)))) σ [some (.v (.ref d)), some (.d (.str kind)), none] := ⟨s.len, fun i a e => by
      match i, e with
      | 0, e => cases e; exact ⟨_, e0, rfl⟩
      | 1, e => cases e; exact ⟨_, e1, .str _⟩
      | 2, e => cases e
      | n + 3, e => cases e⟩
    have comp : XV K (W.fix (lockF d od kvs)) (tLc (iKeys (tVar 0)) (gName 2) (tTest (tOp rEq (tDGet (tVar 0) (tVar 2)) (tVar 1))) (tVar 2) [2]) [some (.v (.ref d)), some (.d (.str kind)), none] (.d (.list (((kvs.map fun p => PyData.str p.1).filter fun x => match x with | .str k => decide (look kvs "" k = kind) | _ => false).map fun x => x))) := by
      refine xe_lcF (xi_keysF rfl) (by rw [List.length_map]; omega) fun x hx => ⟨_, gt_name, fun D φ mD => ?_, fun _ D φ mD => xe_var rfl⟩
      obtain ⟨p, hp, rfl⟩ := List.mem_map.mp hx
      refine XT.is (xt_test (xe_op (a := .d (.str (look kvs "" p.1))) (fun σ2 H2 j2 s2 Q2 q2 => ?_) (xe_var rfl) (ox_eq rfl rfl rfl))) ?_
      · obtain ⟨w0, f0, k0⟩ := s2.get 0 (.v (.ref d)) rfl
        obtain ⟨w2, f2, k2⟩ := s2.get 2 (.d (.str p.1)) rfl
        have k0 : w0 = .ref d := k0
        subst k0
        cases k2
        exact ⟨_, f0, _, f2, d, _, rfl, .inl ⟨KV2 kvs, .inr p.1, .inr ⟨od, j2.1.2 _ (.head _)⟩, rfl, (valV_key hp).symm⟩, q2 _ H2 _ (.refl j2) rfl (.str _)⟩
      · rw [eqF_strT]
    refine comp σ _ jf sf _ fun v H2 a f e i => ?_
    subst e
    have el : (((kvs.map fun p => PyData.str p.1).filter fun x => match x with | .str k => decide (look kvs "" k = kind) | _ => false).map fun x => x) = ((kvs.filter fun p => decide (look kvs "" p.1 = kind)).map (·.1)).map PyData.str := by
      rw [List.map_id', List.filter_map, List.map_map]
      rfl
    rw [el] at i
    cases i with
    | lst hL dd =>
      rename_i L vs
      have evs := strs_vs dd
      subst evs
      have nL : ¬ (W.fix (lockF d od kvs)).M L := fun m => by rw [hid_in m] at hL; cases hL
      rw [hid_out nL] at hL
      have ne : L ≠ d := fun z => nL (.inr ⟨_, .head _, z.symm⟩)
      have fr : Fr W H (upd H2 d (.dK (KV2 kvs))) := ⟨fun a o nm e => by
        by_cases z : a = d
        · rw [z] at e ⊢
          rw [upd_same, ← hd, e]
        · rw [upd_ne z]
          exact f.keep a o (fun m => m.elim nm fun ⟨p, hp, ep⟩ => z (by rw [← ep, List.mem_singleton.mp hp])) (by rw [upd_ne z]; exact e), W.loc H2 _ (fun a m => upd_ne fun z => nM (z ▸ m)) f.j.1⟩
      refine ⟨f.j.2 _ (.head _), L, (kvs.filter fun p => decide (look kvs "" p.1 = kind)).map (·.1), "", rfl, rfl, .inl (.inl (by rw [upd_ne ne]; exact hL)), fun e => ?_, fun y ys e => ?_⟩
      · have e2 : leastS kvs kind = "" := by unfold leastS; rw [e]
        exact q _ _ (.d (.str "")) fr (by rw [e2]) (Dt.str _)
      · have e2 : leastS kvs kind = minS y ys := by unfold leastS; rw [e]
        exact q _ _ (.d (.str (minS y ys))) fr (by rw [e2]) (Dt.str _)
end
/-! ### the truth of a text -/
def tTruS (K : PySem.W.Frag) (ta : TE) : TT := fun σ H Q => ta σ H fun x H' => ∃ k, TruV K x H' k ∧ Q k H'
theorem pt_truS {X : Cx} {a : Expr} {ta : TE} (ha : PE X a ta) (he : ∀ whole, isTrue a X.env whole = (do let v ← whole; standAt a.pos; holding [v] (truthy v)) := by intro _; rfl) : PT X a (tTruS X.K ta) := pt_truth ha he
theorem xt_truS {K : PySem.W.Frag} {W : Wd} {Δ : Env} {ta : TE} {x : Str} (h : XV K W ta Δ (.d (.str x))) (l : x.length ≤ sizeLine) : XB K W (tTruS K ta) Δ ((x.length : Int) != 0) := fun σ H j s Q q =>
  h σ H j s _ fun v H1 a f e i => by
    subst e
    cases i
    exact ⟨_, ⟨l, rfl⟩, q _ H1 f rfl⟩
end V2

set_option Elab.async false
set_option linter.all false
set_option maxRecDepth 100000
set_option maxHeartbeats 2000000
namespace V2
open PySem PySem.Spec PyProof.Rows L2
/-! ### the law's end, where it is known that the table of the modules stands -/
def Live (h : Heap) : Prop := ∃ mm, h.Ns sysModules mm
section
variable {P : Program} {w : World} {K : PySem.W.Frag} {mg mb : Str → Option Value} {CX : CXT} {k : Nat} {fa a : Addr} {fd : FuncData} {x : Str} {sp : Sp} {s₁ : Shared} {vs : List Value} {ns : List Int} {H : Hp}
theorem lawL_at (sy : Live s₁.heap) (KX : K.In s₁.heap) (hns : s₁.heap.Ns mainGlobals mg) (hb : s₁.heap.Ns builtinsNs mb) (hbb : ∀ x : Str, x ≠ "__name__" → mb x = bootBuiltins x) (hlim : s₁.heap.NoLimit) (hg : s₁.gens = #[])
    (ha : s₁.heap.get? a = some { cls := .type "list", data := .seq vs.toArray }) (hr : Room k callerA)
    (F : ∀ base : Heap, K.In base → base.Ns mainGlobals mg → Live base → FnG P w K mg base CX k fa fd [x] sp) (bind : ∀ (s : Shared) (u : Value), BindsTo s fd ⟨[u], []⟩ [(x, u)])
    (calm : ∀ H e s', CX [] H s₁ (fun _ _ _ => False) e s' → False) (only : Only H) (hok : HOk P w H s₁.heap) (alone : ∀ b, H b ≠ none → b = a) (notK : H a ≠ none → K.lookup a = none)
    (sps : sp [.ref a] H (fun v _ => v = .bl true) fun _ _ _ => False) :
    codeAny (model P w) callerA (.call (.ref fa) ⟨[.ref a], []⟩) (TrueEnd s₁) s₁ := by
  have dictFree : ∀ (b : Addr) (o : Obj) (es : Array DictEntry) (ep : Nat), s₁.heap.get? b = some o → o.data = .dict es ep → H b = none := by
    intro b o es ep e d
    cases q : H b with
    | none => rfl
    | some u =>
      obtain rfl := alone b (by rw [q]; nofun)
      rw [ha] at e
      cases e
      cases d
  have spaces : ∀ (b : Addr) (m : Str → Option Value), s₁.heap.Ns b m → (hidT s₁.heap H).Ns b m := by
    rintro b m ⟨o, es, ep, e, d, r⟩
    exact ⟨o, es, ep, hidT_get e (dictFree b o es ep e d), d, r⟩
  have kb : K.In (hidT s₁.heap H) := by
    intro b o e
    refine hidT_get (KX b o e) ?_
    cases q : H b with
    | none => rfl
    | some u =>
      obtain rfl := alone b (by rw [q]; nofun)
      rw [notK (by rw [q]; nofun)] at e
      cases e
  obtain ⟨mc, l1, l2⟩ := hlim
  have lv : Live (hidT s₁.heap H) := by
    obtain ⟨mm, hm⟩ := sy
    exact ⟨mm, spaces _ _ hm⟩
  have md : Mod K mg (hidT s₁.heap H) := ⟨kb, spaces _ _ hns, ⟨mb, spaces _ _ hb, hbb⟩, ⟨mc, spaces _ _ l1, l2⟩⟩
  have env : Env0 P w K mg (hidT s₁.heap H) callerA [] s₁ H :=
    { frames := rfl, mod := md, bs := fun b o e => of_hidT e, bsz := Nat.le_of_eq (hidT_size _ _), funs := trivial, frf := fun b h => (List.not_mem_nil h).elim, hok := hok, bare := .of_eq hg }
  apply codeAny_mono ((F _ kb (spaces _ _ hns) lv).goes callerA [] s₁ H ⟨[.ref a], []⟩ [.ref a] [.ref a] _ _ hr rfl env (bind s₁ (.ref a)) (.cons rfl .nil) sps)
  rintro (e | (_ | _ | _ | u)) s' h
  · exact (calm H e s' h).elim
  · exact h.elim
  · exact h.elim
  · exact h.elim
  · obtain ⟨v, H', os, bare, un, hok', rv, q⟩ := h
    obtain rfl : v = .bl true := q
    obtain rfl : u = Value.bool true := rv
    refine ⟨rfl, OldK.of_keep ?_, os, bare⟩
    intro b o e
    rcases only b with z | ⟨ob, xs, z⟩
    · exact un.keep b o e z (fun m => (List.not_mem_nil m).elim) (by simp)
    · have e1 := (hok b _ z).1
      rw [e] at e1
      cases e1
      exact (hok' b _ (un.frzs b _ _ z)).1
theorem lawL (sy : Live s₁.heap) (KX : K.In s₁.heap) (hns : s₁.heap.Ns mainGlobals mg) (hb : s₁.heap.Ns builtinsNs mb) (hbb : ∀ x : Str, x ≠ "__name__" → mb x = bootBuiltins x) (hlim : s₁.heap.NoLimit) (hg : s₁.gens = #[])
    (ha : s₁.heap.get? a = some { cls := .type "list", data := .seq vs.toArray }) (hi : IntsAre vs ns) (hl : ns.length ≤ sizeLine) (hr : Room k callerA)
    (F : ∀ base : Heap, K.In base → base.Ns mainGlobals mg → Live base → FnG P w K mg base CX k fa fd [x] sp) (bind : ∀ (s : Shared) (u : Value), BindsTo s fd ⟨[u], []⟩ [(x, u)])
    (calm : ∀ H e s', CX [] H s₁ (fun _ _ _ => False) e s' → False)
    (sps : ∀ H : Hp, Only H → SqL K H a (ns.map V.int) → sp [.ref a] H (fun v _ => v = .bl true) fun _ _ _ => False) :
    codeAny (model P w) callerA (.call (.ref fa) ⟨[.ref a], []⟩) (TrueEnd s₁) s₁ := by
  have rv : Vals (ns.map V.int) vs := vals_ints hi
  cases hk : K.lookup a with
  | some o =>
    have e := KX a o hk
    rw [ha] at e
    cases e
    have sq : SqL K (fun _ => none) a (ns.map V.int) := .inr ⟨_, vs.toArray, _, hk, rfl, rfl, rfl, by rw [List.size_toArray, hi.length]; exact hl, rv⟩
    exact lawL_at (H := fun _ => none) sy KX hns hb hbb hlim hg ha hr F bind calm (fun _ => .inl rfl) (fun b u z => nomatch z) (fun b z => absurd rfl z) (fun z => absurd rfl z) (sps _ (fun _ => .inl rfl) sq)
  | none =>
    let o : Obj := { cls := .type "list", data := .seq vs.toArray }
    let H : Hp := fun b => if b = a then some (.frz o (.lst (ns.map V.int))) else none
    have at_a : H a = some (.frz o (.lst (ns.map V.int))) := if_pos rfl
    have off : ∀ b, b ≠ a → H b = none := fun b hb => if_neg hb
    have on : Only H := fun b => by
      by_cases q : b = a
      · rw [q]; exact .inr ⟨_, _, at_a⟩
      · exact .inl (off b q)
    refine lawL_at (H := H) sy KX hns hb hbb hlim hg ha hr F bind calm on ?_ (fun b z => ?_) (fun _ => hk) (sps H on (.inl (.inr ⟨o, at_a⟩)))
    · intro b u z
      by_cases q : b = a
      · subst q
        rw [at_a] at z
        cases z
        exact ⟨ha, by rw [List.length_map]; exact hl, vs, _, rv, ha⟩
      · rw [off b q] at z
        cases z
    · by_cases q : b = a
      · exact q
      · exact absurd (off b q) z
end
theorem walkL {l : PySem.W.OpenLaw} {n k : Nat} {q : Program} {loose : List Str} {XP : (Str → Option Value) → Heap → Prop} {YP : World → Heap → Prop} {d : DefRec} {K : Params → PySem.W.Frag} {CX : World → CXT} {sp : World → Sp} {x : Str}
    (hn : l.most = some n) (hn2 : n ≤ sizeLine) (hdf : d.params.defaults = []) (hr : Room k callerA) (him : PyProof.Rows.importsNone q = true) (hY : ∀ (w : World) (h : Heap), YP w h → (K w.params).In h)
    (F : ∀ (w : World) (mg : Str → Option Value) (fa : Addr) (h : Heap), (K w.params).In h → h.Ns mainGlobals mg → mg d.name = some (.ref fa) →
      ∃ fd : FuncData, (∀ (s : Shared) (u : Value), BindsTo s fd ⟨[u], []⟩ [(x, u)]) ∧
        ∀ base : Heap, (K w.params).In base → base.Ns mainGlobals mg → Live base → FnG l.prog w (K w.params) mg base (CX w) k fa fd [x] (sp w))
    (sps : ∀ (w : World) (H : Hp) (a : Addr) (ns : List Int), ns.length ≤ n → Only H → SqL (K w.params) H a (ns.map V.int) → sp w [.ref a] H (fun v _ => v = .bl true) fun _ _ _ => False)
    (calm : ∀ (w : World) (H : Hp) (s : Shared) (e : Value) (s' : Shared), CX w [] H s (fun _ _ _ => False) e s' → False) :
    PySem.W.WalkO q loose XP YP l.row.toRowW d [] (fun f vs => PySem.call f vs) := by
  apply Att.attach_call hn hdf
  intro w s₀ s₁ mg mb fa o pm cd doc a vs ns G Y ho hd hcd hmg hobj hints hlen hg
  have KX := hY w _ Y
  obtain ⟨fd, hb, hF⟩ := F w mg fa _ KX G.T.g hmg
  have sy : Live s₁.heap := by
    obtain ⟨mm, hm, _⟩ := (G.T.seer him).mods
    exact ⟨mm, hm⟩
  exact lawL sy KX G.T.g G.T.b G.T.builtins G.T.nolimit hg hobj hints (Nat.le_trans hlen hn2) hr hF hb (fun H e s' => calm w H s₁ e s') (fun H hO hS => sps w H a ns hlen hO hS)
/-! ### repr of any data -/
section
variable {X : Cx} {pins : List (Addr × Obj)} {σ : L2.St} {H : Hp} {s : Shared}
theorem sqT_at (I : L2.Inv X pins σ H s) {a : Addr} {xs : List V} (h : SqT X.K H a xs) : ∃ o its n, s.heap.get? a = some o ∧ o.cls = .type "tuple" ∧ o.data = .seq its n ∧ Vals xs its.toList := by
  rcases h with (h | ⟨o, h⟩) | ⟨o, its, n, hl, hc, hd, _, hv⟩
  · obtain ⟨_, its, hv, o, h1, h2, n, h3⟩ := I.hok a _ h
    exact ⟨o, _, n, h1, h2, h3, hv⟩
  · obtain ⟨h1, _, its, hv, o2, h2, h3, n, h4⟩ := I.hok a _ h
    exact ⟨o2, _, n, h2, h3, h4, hv⟩
  · exact ⟨o, its, n, I.kIn a o hl, hc, hd, hv⟩
/-- the table of the modules is no object of the program's -/
theorem Live.ne (lv : Live X.base) (I : L2.Inv X pins σ H s) : H sysModules = none := by
  obtain ⟨mm, o, es, ep, h, _⟩ := lv
  obtain ⟨h1, h2⟩ := I.ok.bs _ o h
  exact I.base.free _ o h1 h2 (I.ok.noex _ o h)
theorem kv_reads (h : Heap) : ∀ (ds : List (PyData × PyData)) (kvs : List (Key × V)) (vs : List (Key × Value)) (es : List DictEntry) (_ : KV kvs vs) (_ : Pairs (mixKind X.prog X.w) es vs) (_ : kvs.map (fun p => keyD p.1) = ds.map (·.1)),
    ReadsAll h (es.map (·.key)) (ds.map (·.1)) [] := by
  intro ds
  induction ds with
  | nil =>
    intro kvs vs es r ps e
    cases kvs with
    | nil => cases r; cases ps; exact .nil
    | cons _ _ => cases e
  | cons d0 ds ih =>
    intro kvs vs es r ps e
    cases kvs with
    | nil => cases e
    | cons k0 kvs =>
      rw [List.map_cons, List.map_cons] at e
      obtain ⟨e0, e1⟩ := List.cons_eq_cons.mp e
      cases r with
      | cons r rt =>
        cases ps with
        | cons hk hv ps =>
          rename_i r0 rs e2 es
          have hk' : keyIs r0.1 e2.key = true := hk
          rw [← (r.1 : k0.1 = r0.1)] at hk'
          have t := ih _ _ _ rt ps e1
          show ReadsAll h (e2.key :: _) (d0.1 :: _) ([] ++ [])
          refine .cons ?_ t
          rw [← e0]
          rcases keyIs_shape hk' with ⟨i, u, e3, e4⟩ | ⟨x, u, e3, e4⟩
          · rw [e3, e4]; exact .int i u
          · rw [e3, e4]; exact .str x u
theorem kv_vals : ∀ {kvs : List (Key × V)} {vs : List (Key × Value)} {es : List DictEntry}, KV kvs vs → Pairs (mixKind X.prog X.w) es vs → Vals (kvs.map (·.2)) (es.map (·.val))
  | _, _, _, .nil, .nil => .nil
  | _, _, _, .cons r rt, .cons _ hv ps => .cons (by have h2 := r.2; rw [← hv] at h2; exact h2) (kv_vals rt ps)
mutual
theorem Dt.readsA (ns : H sysModules = none) (I : L2.Inv X pins σ H s) : ∀ (d : PyData) (v : V) (u : Value), Dt X.K H v d → RelV v u → ∃ as, Reads s.heap u d as ∧ ¬ sysModules ∈ as
  | .none, _, u, .non, r => ⟨[], by rw [show u = _ from r]; exact .none, nofun⟩
  | .bool b, _, u, .bl _, r => ⟨[], by rw [show u = _ from r]; exact .bool b, nofun⟩
  | .int i, _, u, .int _, r => by obtain ⟨t, e⟩ := r; rw [e]; exact ⟨[], .int i t, nofun⟩
  | .str x, _, u, .str _, r => by obtain ⟨t, e⟩ := r; rw [e]; exact ⟨[], .str x t, nofun⟩
  | .list ds, _, u, .lst h q, r => by
    cases r
    have ne : sysModules ≠ _ := fun z => by rw [z] at ns; rw [ns] at h; cases h
    obtain ⟨_, its, n, hv, e⟩ := I.hok _ _ h
    obtain ⟨as, h1, h2⟩ := DtAll.readsA ns I ds _ _ q hv
    exact ⟨_, .list e rfl rfl h1, fun m => (List.mem_cons.mp m).elim ne h2⟩
  | .tuple ds, _, u, .tup h q, r => by
    cases r
    obtain ⟨o, its, n, h1, h2, h3, h4⟩ := sqT_at I h
    obtain ⟨as, h5, h6⟩ := DtAll.readsA ns I ds _ _ q h4
    exact ⟨_, .tuple h1 h2 h3 h5, h6⟩
  | .dict ds, _, u, .dct h q, r => by
    cases r
    obtain ⟨_, nsys, vs, rv, o, es, ep, hget, hex, hdat, _, hp, _⟩ := I.hok _ _ h
    obtain ⟨as, h5, h6, h7⟩ := DtKv.readsA ns I ds _ _ q (kv_vals rv hp)
    refine ⟨_, .dict hget hex.1 hdat (kv_reads _ _ _ _ _ rv hp h7) h5, fun m => ?_⟩
    rcases List.mem_append.mp m with m | m
    · rcases List.mem_cons.mp m with m | m
      · rw [← m] at nsys
        simp at nsys
      · cases m
    · exact h6 m
theorem DtAll.readsA (ns : H sysModules = none) (I : L2.Inv X pins σ H s) : ∀ (ds : List PyData) (vs : List V) (us : List Value), DtAll X.K H vs ds → Vals vs us → ∃ as, ReadsAll s.heap us ds as ∧ ¬ sysModules ∈ as
  | [], _, _, .nil, .nil => ⟨[], .nil, nofun⟩
  | d :: ds, _, _, .cons h t, .cons r rt => by
    obtain ⟨as, h1, h2⟩ := Dt.readsA ns I d _ _ h r
    obtain ⟨bs, h3, h4⟩ := DtAll.readsA ns I ds _ _ t rt
    exact ⟨_, .cons h1 h3, fun m => (List.mem_append.mp m).elim h2 h4⟩
theorem DtKv.readsA (ns : H sysModules = none) (I : L2.Inv X pins σ H s) : ∀ (ds : List (PyData × PyData)) (kvs : List (Key × V)) (us : List Value), DtKv X.K H kvs ds → Vals (kvs.map (·.2)) us → ∃ as, ReadsAll s.heap us (ds.map (·.2)) as ∧ ¬ sysModules ∈ as ∧ kvs.map (fun p => keyD p.1) = ds.map (·.1)
  | [], _, _, .nil, .nil => ⟨[], .nil, nofun, rfl⟩
  | (_, d) :: ds, _, _, .cons h t, .cons r rt => by
    obtain ⟨as, h1, h2⟩ := Dt.readsA ns I d _ _ h r
    obtain ⟨bs, h3, h4, h5⟩ := DtKv.readsA ns I ds _ _ t rt
    exact ⟨_, .cons h1 h3, fun m => (List.mem_append.mp m).elim h2 h4, by rw [List.map_cons, List.map_cons, h5]⟩
end
end

section
def rReprA (K : PySem.W.Frag) : List V → Hp → VK → Prop := fun xs H Q => ∃ (a : Addr) (d : PyData), xs = [.ref a] ∧ Dt K H (.ref a) d ∧ d.showable = true ∧ d.depth ≤ 60 ∧ d.shown.length ≤ sizeLine ∧ Q (.str d.shown) H
theorem call_reprA {X : Cx} (lv : Live X.base) (ng : NoG X.A) (hu : X.A.units + 64 < cLine) : CallR X (.builtin "repr") (rReprA X.K) := by
  intro pins s σ H xs us Q I r h
  obtain ⟨a, d, rfl, hd, sh, dp, hw, q⟩ := h
  obtain ⟨u, rfl, ru⟩ := vals1 r
  cases ru
  obtain ⟨as, rd, nm⟩ := Dt.readsA (lv.ne I) I d _ _ hd rfl
  exact repr_of_reads' rd sh (fun _ => nm) ng (by omega) (fun _ _ e => e) (fun h' u tk hk => ⟨.str _, H, I.kept hk, ⟨_, rfl⟩, q⟩) hw
mutual
def wtA : PyData → Nat
  | .none => 10
  | .bool _ => 10
  | .int i => ((toString i : String) : Str).length + 10
  | .str x => (reprText x).length + 10
  | .list xs => wtsA xs + 10
  | .tuple xs => wtsA xs + 10
  | .dict kvs => wtkA kvs + 10
def wtsA : List PyData → Nat
  | [] => 0
  | x :: xs => wtA x + 2 + wtsA xs
def wtkA : List (PyData × PyData) → Nat
  | [] => 0
  | (k, x) :: r => wtA k + wtA x + 4 + wtkA r
end
mutual
theorem wtA_le : ∀ d : PyData, d.shown.length ≤ wtA d
  | .none => by simp only [PyData.shown, wtA]; decide
  | .bool b => by cases b <;> (simp only [PyData.shown, wtA]; decide)
  | .int i => by simp only [PyData.shown, wtA]; omega
  | .str x => by simp only [PyData.shown, wtA]; omega
  | .list xs => by
    have q := wtsA_le xs
    simp only [PyData.shown, wtA]
    have e := textFrom_len_le (PyData.shownAll xs) 0 "["
    have e2 : (listText (PyData.shownAll xs)).length = (textFrom 0 "[" (PyData.shownAll xs)).length + 1 := by
      unfold listText
      rw [strLen_append]; rfl
    have e3 : (("[" : String) : Str).length = 1 := rfl
    omega
  | .tuple xs => by
    have q := wtsA_le xs
    simp only [PyData.shown, wtA]
    have e := join_le (PyData.shownAll xs)
    have e2 : (tupleText (PyData.shownAll xs)).length ≤ 1 + (Str.join ", " (PyData.shownAll xs)).length + 2 := by
      unfold tupleText
      rw [strLen_append, strLen_append]
      by_cases q : ((PyData.shownAll xs).length == 1) = true
      · rw [if_pos q]; exact Nat.le_refl _
      · rw [if_neg q]; exact Nat.le_succ _
    omega
  | .dict kvs => by
    have q := wtkA_le kvs
    simp only [PyData.shown, wtA]
    have e := join_le (PyData.shownKv kvs)
    have e2 : (dictText (PyData.shownKv kvs)).length = 1 + (Str.join ", " (PyData.shownKv kvs)).length + 1 := by
      unfold dictText
      rw [strLen_append, strLen_append]; rfl
    omega
theorem wtsA_le : ∀ ds : List PyData, piled (PyData.shownAll ds) ≤ wtsA ds
  | [] => by simp [PyData.shownAll, piled, wtsA]
  | d :: ds => by
    have q1 := wtA_le d
    have q2 := wtsA_le ds
    simp only [PyData.shownAll, wtsA]
    have p : piled (d.shown :: PyData.shownAll ds) = d.shown.length + 2 + piled (PyData.shownAll ds) := by simp [piled]
    omega
theorem wtkA_le : ∀ ds : List (PyData × PyData), piled (PyData.shownKv ds) ≤ wtkA ds
  | [] => by simp [PyData.shownKv, piled, wtkA]
  | (k, d) :: ds => by
    have q0 := wtA_le k
    have q1 := wtA_le d
    have q2 := wtkA_le ds
    simp only [PyData.shownKv, wtkA]
    have p : piled ((k.shown ++ (": " : Str) ++ d.shown) :: PyData.shownKv ds) = (k.shown ++ (": " : Str) ++ d.shown).length + 2 + piled (PyData.shownKv ds) := by simp [piled]
    have e : (k.shown ++ (": " : Str) ++ d.shown).length = k.shown.length + 2 + d.shown.length := by rw [strLen_append, strLen_append]; rfl
    omega
end
variable {K : PySem.W.Frag} {W : Wd} {Δ : Env} {te tl : TE} {ts : TS} {N : Env → Prop} {Rt : A → Prop} {Bk Ct : Env → Prop} {xs : List PyData}
def isRefD : PyData → Bool
  | .list _ | .tuple _ | .dict _ => true
  | _ => false
theorem cx_reprA {d : PyData} (rd : isRefD d = true) (sh : d.showable = true) (dp : d.depth ≤ 60) (hw : wtA d ≤ 1000000) : CX1 K W (rReprA K) [.d d] (· = .d (.str d.shown)) := fun vs H j i Q q => by
  have hz : d.shown.length ≤ sizeLine := Nat.le_trans (wtA_le d) (Nat.le_trans hw (by decide))
  cases i with
  | cons h t =>
    cases t
    have h' : Dt K H _ d := Dt.ext hid_le d _ h
    cases h' with
    | lst a b => exact ⟨_, _, rfl, .lst a b, sh, dp, hz, q _ H _ (.refl j) rfl (.str _)⟩
    | tup a b => exact ⟨_, _, rfl, .tup a b, sh, dp, hz, q _ H _ (.refl j) rfl (.str _)⟩
    | dct a b => exact ⟨_, _, rfl, .dct a b, sh, dp, hz, q _ H _ (.refl j) rfl (.str _)⟩
    | _ => cases rd
/-! ### sorted texts -/
theorem dts_strs' {H : Hp} : ∀ ys : List Str, DtAll K H (ys.map V.str) (ys.map PyData.str)
  | [] => .nil
  | y :: r => .cons (.str y) (dts_strs' r)
theorem cx_sortedS {ys : List Str} (n : ys.length < 64) : CX1 K W (rSortedS K) [.d (.list (ys.map PyData.str))] (fun a => ∃ zs : List Str, zs.Perm ys ∧ sortedS zs = true ∧ a = .d (.list (zs.map PyData.str))) := fun vs H j i Q q => by
  cases i with
  | cons h t =>
    cases t
    cases h with
    | lst h1 d1 =>
      obtain rfl := dts_strs d1
      exact ⟨_, ys, rfl, .inl (.inl (hid_le _ _ h1)), n, fun zs p pm pw np => q _ _ _ (.new j np) ⟨zs, pm, pw, rfl⟩ (Dt.lst (hid_new j np) (dts_strs' zs))⟩
/-! ### the keys of a dict that stand for a text, under a lock -/
def keysS (kvs : List (Str × Str)) (kind : Str) : List Str := (kvs.filter fun p => decide (look kvs "" p.1 = kind)).map (·.1)
theorem xe_lockKeys {kvs : List (Str × Str)} {kind : Str} (small : kvs.length ≤ 1000) : XV K W (tLockE (tLc (iKeys (tVar 0)) (gName 3) (tTest (tOp rEq (tDGet (tVar 0) (tVar 3)) (tVar 1))) (tVar 3) [3])) [some (.d (KD kvs)), some (.d (.str kind)), none, none] (.d (.list ((keysS kvs kind).map PyData.str))) := fun σ H j s Q q => by
  obtain ⟨v0, e0, i0⟩ := s.get 0 _ rfl
  obtain ⟨v1, e1, i1⟩ := s.get 1 _ rfl
  cases i1
  cases i0 with
  | dct hd hk =>
    rename_i d es
    obtain rfl := dtkv_is hk
    have nM : ¬ W.M d := fun m => by rw [hid_in m] at hd; cases hd
    rw [hid_out nM] at hd
    refine ⟨d, .dK (KV2 kvs), hd, trivial, fun od => ?_⟩
    have jf : (W.fix (lockF d od kvs)).J (upd H d (.frz od (.dK (KV2 kvs)))) := ⟨W.loc H _ (fun a m => upd_ne fun z => nM (z ▸ m)) j, fun p hp => by rw [List.mem_singleton.mp hp]; exact upd_same⟩
    have sf : StOk K (W.fix (lockF d od kvs)).M (upd H d (.frz od (.dK (KV2 kvs)))) σ [some (.v (.ref d)), some (.d (.str kind)), none, none] := ⟨s.len, fun i a e => by
      match i, e with
      | 0, e => cases e; exact ⟨_, e0, rfl⟩
      | 1, e => cases e; exact ⟨_, e1, .str _⟩
      | 2, e => cases e
      | 3, e => cases e
      | n + 4, e => cases e⟩
    have comp : XV K (W.fix (lockF d od kvs)) (tLc (iKeys (tVar 0)) (gName 3) (tTest (tOp rEq (tDGet (tVar 0) (tVar 3)) (tVar 1))) (tVar 3) [3]) [some (.v (.ref d)), some (.d (.str kind)), none, none] (.d (.list (((kvs.map fun p => PyData.str p.1).filter fun x => match x with | .str k => decide (look kvs "" k = kind) | _ => false).map fun x => x))) := by
      refine xe_lcF (xi_keysF rfl) (by rw [List.length_map]; omega) fun x hx => ⟨_, gt_name, fun D φ mD => ?_, fun _ D φ mD => xe_var rfl⟩
      obtain ⟨p, hp, rfl⟩ := List.mem_map.mp hx
      refine XT.is (xt_test (xe_op (a := .d (.str (look kvs "" p.1))) (fun σ2 H2 j2 s2 Q2 q2 => ?_) (xe_var rfl) (ox_eq rfl rfl rfl))) ?_
      · obtain ⟨w0, f0, k0⟩ := s2.get 0 (.v (.ref d)) rfl
        obtain ⟨w2, f2, k2⟩ := s2.get 3 (.d (.str p.1)) rfl
        have k0 : w0 = .ref d := k0
        subst k0
        cases k2
        exact ⟨_, f0, _, f2, d, _, rfl, .inl ⟨KV2 kvs, .inr p.1, .inr ⟨od, j2.1.2 _ (.head _)⟩, rfl, (valV_key hp).symm⟩, q2 _ H2 _ (.refl j2) rfl (.str _)⟩
      · rw [eqF_strT]
    refine comp σ _ jf sf _ fun v H2 a f e i => ?_
    subst e
    have el : (((kvs.map fun p => PyData.str p.1).filter fun x => match x with | .str k => decide (look kvs "" k = kind) | _ => false).map fun x => x) = (keysS kvs kind).map PyData.str := by
      unfold keysS
      rw [List.map_id', List.filter_map, List.map_map]
      rfl
    rw [el] at i
    cases i with
    | lst hL dd =>
      rename_i L vs
      have evs := strs_vs dd
      subst evs
      have nL : ¬ (W.fix (lockF d od kvs)).M L := fun m => by rw [hid_in m] at hL; cases hL
      rw [hid_out nL] at hL
      have ne : L ≠ d := fun z => nL (.inr ⟨_, .head _, z.symm⟩)
      have nWL : ¬ W.M L := fun m => nL (.inl m)
      have fr : Fr W H (upd H2 d (.dK (KV2 kvs))) := ⟨fun a o nm e => by
        by_cases z : a = d
        · rw [z] at e ⊢
          rw [upd_same, ← hd, e]
        · rw [upd_ne z]
          exact f.keep a o (fun m => m.elim nm fun ⟨p, hp, ep⟩ => z (by rw [← ep, List.mem_singleton.mp hp])) (by rw [upd_ne z]; exact e), W.loc H2 _ (fun a m => upd_ne fun z => nM (z ▸ m)) f.j.1⟩
      exact ⟨f.j.2 _ (.head _), q (.ref L) _ _ fr rfl (Dt.lst (by rw [hid_out nWL, upd_ne ne]; exact hL) (dts_strs' _))⟩
/-! ### the head of sorted texts is the least -/
theorem ltS_one (a b : Nat) : (decide ((oneS a).cps.toList < (oneS b).cps.toList)) = decide (a < b) := by
  show decide (([a] : List Nat) < [b]) = _
  rw [← PyProof.Rows.ltCps_eq]
  simp [Spec.ltCps]
def fstC (x : Str) : Nat := x.cps.getD 0 0
theorem minS_cons (y z : Str) (r : List Str) : minS y (z :: r) = minS (if PySem.W.DatumOrd.lt z y = true then z else y) r := rfl
theorem minS_mem : ∀ (y : Str) (ys : List Str), minS y ys ∈ y :: ys
  | y, [] => .head _
  | y, z :: r => by
    rw [minS_cons]
    have h := minS_mem (if PySem.W.DatumOrd.lt z y = true then z else y) r
    rcases List.mem_cons.mp h with h | h
    · rw [h]
      split
      · exact .tail _ (.head _)
      · exact .head _
    · exact .tail _ (.tail _ h)
theorem minS_le : ∀ (y : Str) (ys : List Str), (∀ x ∈ y :: ys, ∃ c, x = oneS c) → ∀ x ∈ y :: ys, fstC (minS y ys) ≤ fstC x
  | y, [], _, x, hx => by
    rw [List.mem_singleton.mp hx]
    exact Nat.le_refl _
  | y, z :: r, h, x, hx => by
    rw [minS_cons]
    obtain ⟨cy, ey⟩ := h y (.head _)
    obtain ⟨cz, ez⟩ := h z (.tail _ (.head _))
    have hr : ∀ w, (w = y ∨ w = z) → ∀ x ∈ w :: r, ∃ c, x = oneS c := fun w hw x hx => by
      rcases List.mem_cons.mp hx with rfl | hx
      · rcases hw with rfl | rfl
        · exact ⟨_, ey⟩
        · exact ⟨_, ez⟩
      · exact h x (.tail _ (.tail _ hx))
    have e : PySem.W.DatumOrd.lt z y = decide (cz < cy) := by rw [ey, ez]; exact ltS_one cz cy
    have fy : fstC y = cy := by rw [ey]; rfl
    have fz : fstC z = cz := by rw [ez]; rfl
    rw [e]
    by_cases l : cz < cy
    · rw [decide_eq_true l, if_pos rfl]
      have ih := minS_le z r (hr z (.inr rfl))
      rcases List.mem_cons.mp hx with rfl | hx
      · have := ih z (.head _)
        omega
      · exact ih x hx
    · rw [decide_eq_false l, if_neg (by decide)]
      have ih := minS_le y r (hr y (.inl rfl))
      rcases List.mem_cons.mp hx with rfl | hx
      · exact ih x (.head _)
      · rcases List.mem_cons.mp hx with rfl | hx
        · have := ih y (.head _)
          omega
        · exact ih x (.tail _ hx)
theorem rising_le : ∀ (z : Str) (r : List Str), (∀ x ∈ z :: r, ∃ c, x = oneS c) → risingS z r = true → ∀ x ∈ r, fstC z ≤ fstC x
  | z, [], _, _, x, hx => nomatch hx
  | z, y :: r, h, s, x, hx => by
    rw [risingS.eq_2, Bool.and_eq_true] at s
    obtain ⟨cz, ez⟩ := h z (.head _)
    obtain ⟨cy, ey⟩ := h y (.tail _ (.head _))
    have l : cz ≤ cy := by
      have h1 := s.1
      rw [ey, ez] at h1
      have h2 : Spec.ltCps [cy] [cz] = false := (Bool.not_eq_true' _).mp h1
      simp [Spec.ltCps] at h2
      exact h2
    have fy : fstC y = cy := by rw [ey]; rfl
    have fz : fstC z = cz := by rw [ez]; rfl
    rcases List.mem_cons.mp hx with rfl | hx
    · omega
    · have := rising_le y r (fun x hx => h x (.tail _ hx)) s.2 x hx
      omega
theorem head_least {z y : Str} {r ys : List Str} (h : ∀ x ∈ y :: ys, ∃ c, x = oneS c) (pm : (z :: r).Perm (y :: ys)) (so : sortedS (z :: r) = true) : z = minS y ys := by
  have hz : ∀ x ∈ z :: r, ∃ c, x = oneS c := fun x hx => h x (pm.mem_iff.mp hx)
  have so : risingS z r = true := so
  have h1 := rising_le z r hz so
  have h2 := minS_le y ys h
  have m := minS_mem y ys
  have l1 : fstC (minS y ys) ≤ fstC z := h2 z (pm.mem_iff.mp (.head _))
  have l2 : fstC z ≤ fstC (minS y ys) := by
    rcases List.mem_cons.mp (pm.mem_iff.mpr m) with e | e
    · rw [e]
      exact Nat.le_refl _
    · exact h1 _ e
  obtain ⟨c1, e1⟩ := hz z (.head _)
  obtain ⟨c2, e2⟩ := h _ m
  have f1 : fstC z = c1 := by rw [e1]; rfl
  have f2 : fstC (minS y ys) = c2 := by rw [e2]; rfl
  rw [e1, e2]
  congr 1
  omega
/-! ### for target in enumerate(xs) -/
theorem xs_forEnG {g : TG} (hl : XV K W tl Δ (.d (.list xs))) (Inv : Nat → Env → Prop) (h0 : Inv 0 Δ)
    (hs : ∀ i x Δ1, xs[i]? = some x → Inv i Δ1 → ∃ Δ2, GX K W g (.d (.tuple [.int (i : Int), x])) Δ1 Δ2 ∧ XS K W ts Δ2 (Inv (i + 1)) Rt N (Inv (i + 1))) (hd : ∀ Δ1, Inv xs.length Δ1 → N Δ1) :
    XS K W (tFor (iEnum K (tCons tl tNil)) g ts) Δ N Rt Bk Ct := by
  intro σ H j s D nx rt bk ct
  unfold tFor iEnum
  refine (xa_cons hl xa_nil) σ H j s _ fun us H1 as f1 e ia => ?_
  subst e
  cases ia with
  | cons ia ib =>
    cases ib
    cases ia with
    | lst h1 d1 =>
      rename_i p vs
      have m : ¬ W.M p := fun m => by rw [hid_in m] at h1; cases h1
      have h1' := h1
      rw [hid_out m] at h1'
      have ga : ∀ H2, Fr W H1 H2 → SqL K H2 p vs := fun H2 f => .inl (.inl (f.keep p _ m h1'))
      refine ⟨p, vs, rfl, ga H1 (.refl f1.j), ?_⟩
      refine ⟨fun i k σ2 H2 => k = xs.length - i ∧ i ≤ xs.length ∧ ∃ Δ2, Fr W H1 H2 ∧ StOk K W.M H2 σ2 Δ2 ∧ Inv i Δ2, ⟨xs.length, (Nat.sub_zero _).symm, Nat.zero_le _, Δ, .refl f1.j, s.fr f1, h0⟩, ?_⟩
      rintro i k σ2 H2 ⟨rfl, hi, Δ2, f2, s2, v2⟩
      have len := d1.length
      by_cases l : i < xs.length
      · obtain ⟨v, hv, dv⟩ := d1.get (List.getElem?_eq_getElem l)
        refine .inr ⟨⟨vs, v, ga H2 f2, hv⟩, fun σ3 H3 => ∃ Δ3, Fr W H1 H3 ∧ StOk K W.M H3 σ3 Δ3 ∧ Inv (i + 1) Δ3, ?_, ?_⟩
        · rintro σ3 H3 ⟨Δ3, f3, s3, v3⟩
          exact ⟨xs.length - (i + 1), by omega, rfl, l, Δ3, f3, s3, v3⟩
        · rintro y H3 ⟨T, x, rfl, nT, rfl, hx⟩
          have ex := hx vs (ga H2 f2)
          rw [hv] at ex
          cases ex
          have f3 : Fr W H2 (upd H2 T (.tup [.int (i : Nat), v])) := .new f2.j nT
          have iT : Is K W.M (upd H2 T (.tup [.int (i : Nat), v])) (.ref T) (.d (.tuple [.int (i : Int), xs[i]])) := Dt.tup (.inl (.inl (hid_new f2.j nT))) (.cons (.int _) (.cons (Dt.ext (f2.trans f3).same _ _ dv) .nil))
          obtain ⟨Δ4, gx, hb⟩ := hs i xs[i] Δ2 (List.getElem?_eq_getElem l) v2
          refine gx (.ref T) σ2 _ f3.j (s2.fr f3) iT _ fun σ4 H4 f4 s4 => ?_
          have f := (f2.trans f3).trans f4
          exact hb σ4 H4 f4.j s4 _ (fun σ5 H5 Δ5 f5 s5 n5 => ⟨Δ5, f.trans f5, s5, n5⟩) (fun v H5 a f5 => rt v H5 a (f1.trans (f.trans f5)))
            (fun σ5 H5 Δ5 f5 s5 n5 => nx σ5 H5 Δ5 (f1.trans (f.trans f5)) s5 n5) (fun σ5 H5 Δ5 f5 s5 n5 => ⟨Δ5, f.trans f5, s5, n5⟩)
      · obtain rfl : i = xs.length := by omega
        exact .inl ⟨⟨vs, ga H2 f2, by omega⟩, nx σ2 H2 Δ2 (f1.trans f2) s2 (hd Δ2 v2)⟩
/-- a, (b, c) = .. -/
theorem gx_in2 {i j k : Nat} {a x y : PyData} : GX K W (gTup K 2 (gCons (gName i) (gCons (gTup K 2 (gCons (gName j) (gCons (gName k) gNil))) gNil))) (.d (.tuple [a, .tuple [x, y]])) Δ (((Δ.set i (some (.d a))).set j (some (.d x))).set k (some (.d y))) := fun v σ H jj s ii Q q => by
  cases ii with
  | tup h1 d1 =>
    cases d1 with
    | cons da d2 =>
      cases d2 with
      | cons dxy d3 =>
        cases d3
        cases dxy with
        | tup h2 d4 =>
          cases d4 with
          | cons dx d5 =>
            cases d5 with
            | cons dy d6 =>
              cases d6
              exact ⟨_, _, rfl, sqT_same hid_le h1, rfl, _, _, rfl, _, _, rfl, ⟨_, _, rfl, sqT_same hid_le h2, rfl, _, _, rfl, _, _, rfl, rfl, rfl, q _ H (.refl jj) (((s.set (a := .d a) i da).set (a := .d x) j dx).set (a := .d y) k dy)⟩⟩
end
/-! ### o.m(..) in a try's body, o of the fragment -/
section
variable {γ T : Type} {K : PySem.W.Frag} {W : Wd} {H0 H H' : Hp} {S S' : Frg} {x dx : Addr} {σ : L2.St} {Δ : Env} {te : TE} {ta : TA}
theorem fs_methE {C : Addr} {oo : Addr → T → HO} {pre : γ → T → List A → Prop} {post : γ → T → T → A → Prop} {postX : γ → T → T → Prop} {E : L2.St → XK} {t0 : T} (g : γ) {Cl : Addr} {m : Str} {as : List A} (s : FS K W H0 H σ Δ S) (h : (x, oo dx t0) ∈ S) (hv : XV K (W.fix S) te Δ (.v (.ref x))) (ho : ∀ t, ∃ fs, oo dx t = .ins Cl dx fs ∧ fs.lookup m = none) (ha : XAs K (W.fix S) ta Δ as) (p : pre g t0 as) {Q : VK}
    (q : ∀ v H' t a, post g t0 t a → FS K W H0 H' σ Δ (S.put x (oo dx t)) → Gr W H S H' (S.put x (oo dx t)) → Is K (W.fix (S.put x (oo dx t))).M H' v a → Q v H')
    (qx : ∀ H' t, postX g t0 t → FS K W H0 H' σ Δ (S.put x (oo dx t)) → Gr W H S H' (S.put x (oo dx t)) → E σ (.ref C) none H') : tMethE Cl m (spO K C oo pre post postX) E te ta σ H Q :=
  s.in hv fun v H1 a e s1 g1 i1 => by
    subst e
    have e : v = .ref x := i1
    subst e
    obtain ⟨fs, eo, el⟩ := ho t0
    refine ⟨x, dx, fs, rfl, by rw [s1.f.j.2 _ h, eo], el, ?_⟩
    refine ha σ H1 s1.f.j s1.st _ fun vs H2 as' f2 e i2 => ?_
    subst e
    have hx : (W.fix S).M x := .inr ⟨_, h, rfl⟩
    have s2 := s1.go f2
    refine ⟨g, T, SW.free (W.fix S) x (oo dx) t0 hx, t0, x, dx, fun t => t, fun _ t => t, as', free_j hx s2.f.j (s2.f.j.2 _ h), hasObj_free hx, p, .cons rfl i2, fun v H' t a f r i => ?_, fun H' t f z => ?_⟩
    · exact q v H' t a r (s2.to (s2.f.obj h hx f) (gr_obj hx f)) (gr_trans (gr_trans g1 f2.same) (gr_obj hx f)) (by rw [fix_M (put_dom S x (oo dx t))]; exact i)
    · exact qx H' t z (s2.to (s2.f.obj h hx f) (gr_obj hx f)) (gr_trans (gr_trans g1 f2.same) (gr_obj hx f))
end
end V2

set_option Elab.async false
set_option linter.all false
set_option maxRecDepth 100000
set_option maxHeartbeats 2000000
namespace V2
open PySem PySem.Spec PyProof.Rows L2
theorem paired_at {α β : Type} {R : α → β → Prop} : ∀ {l : List α} {m : List β} {i : Nat} {q : β}, Paired R l m → m[i]? = some q → ∃ p, l[i]? = some p ∧ R p q
  | _, _, i, q, .nil, h => by simp at h
  | _, _, 0, q, .cons r _, h => by simp at h; subst h; exact ⟨_, rfl, r⟩
  | _, _, i + 1, q, .cons _ t, h => by
    obtain ⟨p, h1, h2⟩ := paired_at (i := i) t (by simpa using h)
    exact ⟨p, by simpa using h1, h2⟩
/-! ### d.values(), and list(..) of it -/
def valsO (p d : Addr) : HO := .ext fun h => h.IsValuesView p d
def rVals : V → List V → Hp → VK → Prop := fun x xs H Q => ∃ (a : Addr) (kvs : List (Key × V)), x = .ref a ∧ xs = [] ∧ H a = some (.dK kvs) ∧ ∀ p, H p = none → Q (.ref p) (upd H p (valsO p a))
def kLstV (x : V) (H : Hp) (Q : VK) : Prop := ∃ (p d : Addr) (kvs : List (Key × V)), x = .ref p ∧ H p = some (valsO p d) ∧ H d = some (.dK kvs) ∧ ∀ q, H q = none → Q (.ref q) (upd H q (.lst (kvs.map (·.2))))
section
variable {X : Cx}
theorem mt_values : MtR X "dict.values" rVals := by
  intro pins s σ H x vs v us Q I rx rv h
  obtain ⟨a, kvs, ex, ev, e, q⟩ := h
  subst ex
  subst ev
  obtain rfl : v = Value.ref a := rx
  cases rv
  obtain ⟨z, hd, ws, rel, dd⟩ := dk_of I.hok e
  refine call_meetsIn PySem.F.slot_dict_values dd.typeIs PySem.F.entry_dict_values (PySem.F.args_dict_values_1 _) (meets_dict_values (mixKind X.prog X.w) a hd) ⟨⟨ws, dd⟩, ?_⟩
  have g := Heap.get?_push_size s.heap (o := { cls := Value.type "dict_values", data := Data.fields #[Value.ref a] }) rfl
  exact ⟨.ref s.heap.objs.size, upd H s.heap.objs.size (valsO s.heap.objs.size a), I.laid (t' := s.toks) (fun b u e => Heap.get?_push_of_some _ e) (Nat.le_refl _) ⟨⟨_, g, rfl, rfl⟩, ⟨_, g⟩, fun h1 h2 ⟨o, e1, e2, e3⟩ k => ⟨o, k o e1, e2, e3⟩⟩, rfl, q _ (I.hok.fresh (Nat.le_refl _))⟩
theorem rl_listV (hc : X.calm = true) (pins : List (Addr × Obj)) (s : Shared) (σ : L2.St) (H : Hp) (x : V) (v : Value) (Q : VK) (I : Inv X pins σ H s) (r : RelV x v) (h : kLstV x H Q) :
    wpAny (model X.prog X.w) X.A (call (.type "list") [v]) (EP X pins σ Q) X.xe s := by
  obtain ⟨p, d, kvs, rfl, hp, hd, q⟩ := h
  obtain rfl : v = Value.ref p := r
  obtain ⟨z, hsy, ws, rel, dd⟩ := dk_of I.hok hd
  have hv : s.heap.IsValuesView p d := (I.hok p _ hp).1
  obtain ⟨o, es, ep, g1, g2, g3, g4, g5, g6⟩ := dd
  refine PySem.W.kdl_call (PySem.W.kdl_values (knd := mixKind X.prog X.w) (kvs := ws) (ep := ep)) (I.ok.hd hc) ⟨hv, o, es, g1, g2, g3, g4, g5, g6⟩ (by rw [← rel.length]; exact z) fun h' tk acc c' hk e hi => ?_
  refine ⟨.ref s.heap.objs.size, upd H s.heap.objs.size (.lst (kvs.map (·.2))), I.laid hk (Nat.le_refl _) ⟨by rw [List.length_map]; exact z, acc.toList, c', ?_, by rw [Array.toArray_toList]; exact e⟩, rfl, q _ (I.hok.fresh (Nat.le_refl _))⟩
  refine vals_of_idx _ _ (by rw [List.length_map, Array.length_toList, rel.length]; exact hi.1) fun j u hj => ?_
  obtain ⟨k, hk2⟩ := hi.2 j u (by rw [← Array.getElem?_toList]; exact hj)
  obtain ⟨kv, h1, h2, h3⟩ := paired_at rel hk2
  exact ⟨kv.2, by rw [List.getElem?_map, h1]; rfl, h3⟩
theorem pe_listOfV {a : Expr} {ta : TE} {p pos : Pos} (hc : X.calm = true) (hg : Gl X "list") (hm : X.mg "list" = none) (ha : PE X a ta) (na : starEach [a] X.env = (false, eval a X.env) :: starEach [] X.env := by rfl) :
    PE X (.Call (.Name "list" p) [a] [] pos) (tThenZ ta kLstV) := pe_callTy (call_r1 (rl_listV hc)) hg hm (by decide +kernel) (pa_cons ha pa_nil na) (he := na)
end
section
variable {K : PySem.W.Frag} {W : Wd} {Δ : Env} {te : TE}
theorem xe_listVals {kvs : List (Str × Str)} (h : XV K W te Δ (.d (KD kvs))) : XV K W (tThenZ (tBM0 K "dict" rVals te) kLstV) Δ (.d (.list (kvs.map fun p => PyData.str p.2))) := fun σ H j s Q q =>
  h σ H j s _ fun v H1 a f1 e i => by
    subst e
    cases i with
    | dct hd hk =>
      rename_i d es
      obtain rfl := dtkv_is hk
      have hd' := hid_le _ _ hd
      refine ⟨.inr (.inr (.inl ⟨rfl, .inl ⟨_, hd'⟩⟩)), d, _, rfl, rfl, hd', fun p np => ?_⟩
      have f2 : Fr W H1 (upd H1 p (valsO p d)) := .new f1.j np
      refine ⟨p, d, KV2 kvs, rfl, upd_same, by rw [upd_ne (ne_of_none hd' np)]; exact hd', fun q' nq => ?_⟩
      have f3 := f2.trans (.new (o := .lst ((KV2 kvs).map (·.2))) f2.j nq)
      refine q (.ref q') _ _ (f1.trans f3) rfl (Dt.lst (hid_new f2.j nq) ?_)
      have e : (kvs.map fun p => PyData.str p.2) = (kvs.map (·.2)).map PyData.str := by rw [List.map_map]; rfl
      have ev : (KV2 kvs).map (·.2) = (kvs.map (·.2)).map V.str := by unfold KV2; rw [List.map_map, List.map_map]; rfl
      rw [e, ev]
      exact dts_strs' _
end
section
variable {K : PySem.W.Frag} {W : Wd} {Δ : Env} {te : TE} {tt : TT}
theorem xt_BR {B : Bool → Prop} (h : XE K W te Δ fun a => ∃ b, a = .d (.bool b) ∧ B b) : XT K W (tB te) Δ B := fun σ H j s Q q =>
  h σ H j s _ fun v H1 a f ⟨b, e, hb⟩ i => by
    subst e
    cases i
    exact ⟨b, rfl, q b H1 f hb⟩
theorem xt_notR {B C : Bool → Prop} (h : XT K W tt Δ B) (m : ∀ b, B b → C (!b)) : XT K W (tNot tt) Δ C := fun σ H j s Q q =>
  h σ H j s _ fun b H1 f hb => q (!b) H1 f (m b hb)
end
end V2

set_option Elab.async false
set_option linter.all false
set_option maxRecDepth 100000
set_option maxHeartbeats 4000000
namespace V2
open PySem PySem.Spec PyProof.Rows L2
/-! ### dict comprehensions whose keys are tuples -/
theorem d_dictSetT {X : Cx} {pins : List (Addr × Obj)} {σ : L2.St} {H : Hp} {s : Shared} {E : Value → Shared → Prop} {D b : Addr} {kvs : List (List Key × V)} {k : List Key} {v : V} {r : Value} {Q : Unit → Shared → Prop} (hu : X.A.units < cLine) (I : L2.Inv X pins σ H s) (hD : H D = some (.dT kvs)) (hb : H b = some (.tup (k.map kV))) (sz : kvs.length < sizeLine) (rv : RelV v r)
    (q : ∀ s' : Shared, L2.Inv X pins σ (upd H D (.dT (putK kvs k v))) s' → Q () s') : wpAny (model X.prog X.w) X.A (dictSet D (.ref b) r) Q E s := by
  obtain ⟨_, nsy, xs, kt, dd⟩ := dt_of I.hok hD
  have lx : xs.length ≤ sizeLine := by rw [← Paired.length kt]; exact Nat.le_of_lt sz
  refine wpAny_dictSet_heap (knd := tupleKind (mixKind X.prog X.w)) hu (key_of I.hok hb) dd (fun h' dd' sb => ?_) lx
  have dd2 := dd'
  obtain ⟨o, es, ep, g1, g2, g3, g4, g5, g6⟩ := dd'
  have lp : (putK kvs k v).length ≤ sizeLine := Nat.le_trans (length_putK kvs k v) sz
  have kp : KT (upd H D (.dT (putK kvs k v))) (putK kvs k v) (storedH xs k b r) := (kt.put k hb rv).keeps fun c ys e => by rw [upd_ne (ne_of e hD (by intro z; cases z))]; exact e
  exact q _ (d_write (t' := s.toks + (tupleKind (mixKind X.prog X.w)).draws k) I (by rw [hD]; exact True.intro) sb ⟨o, g1⟩ ⟨lp, nsy, _, kp, o, es, ep, g1, g2, g3, g4, g6⟩)
def tDcT (wi : TI) (g : TG) (tt : TT) (tk tv : TE) (vs : List Nat) : TE := fun σ H Q => wi σ H fun J H1 => ∀ D, H1 D = none → ∃ W : Nat → Nat → Hp → Prop, (∃ m, W 0 m (upd H1 D (.dT []))) ∧ ∀ i m H, W i m H → (J.stop i H ∧ Q (.ref D) H) ∨ (J.go i H ∧ ∃ Nx : Hp → Prop, (∀ H', Nx H' → ∃ m', m' < m ∧ W (i + 1) m' H') ∧
  ∀ x H', J.yld i H x H' → g x (wipe σ vs) H' fun σ2 H2 => wipe σ2 vs = wipe σ vs ∧ tt σ2 H2 fun b H3 => if b = true then tk σ2 H3 fun y H4 => tv σ2 H4 fun z H5 => ∃ kvs k c, y = .ref c ∧ H5 c = some (.tup (List.map kV k)) ∧ H5 D = some (.dT kvs) ∧ kvs.length < sizeLine ∧ Nx (upd H5 D (.dT (putK kvs k z))) else Nx H3)
theorem dc_coreT {X : Cx} {pins : List (Addr × Obj)} {s : Shared} {σ : L2.St} {H : Hp} {Q : VK} {kx vx tg iter : Expr} {ifs : List Expr} {scope : Scope} {own : List (Str × Nat)} {pos pos' : Pos} {wi : TI} {g : TG} {tt : TT} {tk tv : TE} {use : Option (Value → Sem Unit)} {Qf : Value → Shared → Prop} (hu : X.A.units < cLine) (hc : X.calm = true) (hN : X.N.Nodup) (I : L2.Inv X pins σ H s) (hi : PI X tg iter wi) (ok : BlkOk X.N X.env.scope scope own)
    (hg : ∀ (s : Shared) (H : Hp) (C : Addr) (cl : List (Str × Addr)) (fp : List Addr), PG (X.blk s H scope (compEnvC scope cl C X.env) fp) tg g) (ht : ∀ (s : Shared) (H : Hp) (C : Addr) (cl : List (Str × Addr)) (fp : List Addr), PTs (X.blk s H scope (compEnvC scope cl C X.env) fp) ifs tt)
    (hk : ∀ (s : Shared) (H : Hp) (C : Addr) (cl : List (Str × Addr)) (fp : List Addr), PE (X.blk s H scope (compEnvC scope cl C X.env) fp) kx tk)
    (he : ∀ (s : Shared) (H : Hp) (C : Addr) (cl : List (Str × Addr)) (fp : List Addr), PE (X.blk s H scope (compEnvC scope cl C X.env) fp) vx tv) (hs : ∀ x, foldedSetIterable iter X.env x = pure x)
    (h : tDcT wi g tt tk tv (own.map (·.2)) σ H Q)
    (hR : ∀ (D C : Addr) (s' : Shared) (m : Str → Option Value) (H' : Hp), L2.Inv X pins σ H' s' → Q (.ref D) H' → s'.heap.Ns C m → FpOk X pins H' C → compPost (model X.prog X.w) X.A X.xe use Qf (.ref D) C (.ok .next) s') :
    wpAny (model X.prog X.w) X.A (comprehension (.DictComp kx vx [⟨tg, iter, ifs, 0⟩] scope pos) scope X.env pos' newDict false (eval iter X.env) use) Qf X.xe s := by
  have hfree : ∀ y : Str × NameKind, y ∈ scope.names → y.2 = .free → ∃ c, X.env.cells.lookup y.1 = some c := fun y hy e => (ok.free y hy e).elim (fun k => I.ok.has y.1 (.inl k)) fun k => I.ok.has y.1 (.inr k)
  refine wpAny_comprehension_free rfl hs (closure_ok hfree) ok.kind (fun y hy e => by rw [ok.uniq y hy, e]) ?_
  refine thn (hi.run pins s σ H _ I h) fun xv s1 hx => ?_
  refine thn hx fun itv s2 h2 => ?_
  obtain ⟨it, fp, tn, J, H2, rfl, I2, T, st2, f2, q⟩ := h2
  refine wpAny_newObj_type (newEnv_comp ?_)
  have hDn := I2.hok.fresh (Nat.le_refl s2.heap.objs.size)
  obtain ⟨W, ⟨m0, w0⟩, turn⟩ := q s2.heap.objs.size hDn
  generalize hD : s2.heap.objs.size = D at hDn w0 turn
  generalize hs3 : ({ heap := s2.heap.push { cls := Value.type "dict", data := Data.dict #[] }, gens := s2.gens, drawn := s2.drawn, toks := s2.toks, os := s2.os } : Shared) = s3
  have h3 : s3.heap = s2.heap.push { cls := Value.type "dict", data := Data.dict #[] } := by rw [← hs3]
  generalize hH3 : upd H2 D (.dT []) = H3 at w0
  have I3 : L2.Inv X pins σ H3 s3 := by
    rw [← hs3, ← hH3, ← hD]
    exact I2.laid (fun b o e => Heap.get?_push_of_some _ e) (Nat.le_refl _) (dt_empty s2.heap I2.big)
  have sz : ∀ b ∈ fp, b < s2.heap.objs.size := fun b hb => by
    obtain ⟨o, e, _⟩ := T.obj 0 _ st2 b hb
    exact Heap.lt_size e
  have f3 : ∀ b ∈ fp, FpOk X pins H3 b ∧ b < s3.heap.objs.size := fun b hb => by
    have l := sz b hb
    obtain ⟨a1, a2⟩ := f2 b hb
    refine ⟨⟨?_, a2⟩, by rw [h3, Heap.size_push]; exact Nat.lt_succ_of_lt l⟩
    rw [← hH3, upd_ne (fun z => by rw [z, ← hD] at l; exact Nat.lt_irrefl _ l)]
    exact a1
  have st3 : tn 0 s3.heap := T.keep 0 _ _ st2 fun b _ o e => by rw [h3]; exact Heap.get?_push_of_some _ e
  have I4 := block_start I3 ok hN f3
  generalize hce : compEnvC scope (cellsFrom (s3.heap.objs.size + 1) scope.names (cloFrom X.env.cells scope.names [])) s3.heap.objs.size X.env = ce at I4
  have pg : PG (X.blk s3 H3 scope ce fp) tg g := by rw [← hce]; exact hg s3 H3 _ _ fp
  have pt : PTs (X.blk s3 H3 scope ce fp) ifs tt := by rw [← hce]; exact ht s3 H3 _ _ fp
  have pk : PE (X.blk s3 H3 scope ce fp) kx tk := by rw [← hce]; exact hk s3 H3 _ _ fp
  have pe : PE (X.blk s3 H3 scope ce fp) vx tv := by rw [← hce]; exact he s3 H3 _ _ fp
  have cL : ce.locals = s3.heap.objs.size := by rw [← hce]; rfl
  generalize hs4 : ({ heap := pushCells (s3.heap.push { cls := Value.type "dict", data := Data.dict #[] }) scope.names, gens := s3.gens, drawn := s3.drawn, toks := s3.toks, os := s3.os } : Shared) = s4 at I4
  have st4 : tn 0 s4.heap := T.keep 0 _ _ st3 fun b _ o e => by rw [← hs4]; exact pushCells_keeps _ _ b o (Heap.get?_push_of_some _ e)
  have stat : ∀ {σ' : L2.St} {H' : Hp} {s' : Shared}, L2.Inv (X.blk s3 H3 scope ce fp) [] σ' H' s' → (∀ b ∈ fp, H' b = none) → ∀ b ∈ fp, FpOk (X.blk s3 H3 scope ce fp) [] H' b := fun {σ' H' s'} I' hn b hb => ⟨hn b hb, (I'.ok.exf b hb).1, I'.ok.exfs b hb, .inl hb, fun x c e => (I'.ok.exf b hb).2 x c e, fun p hp => by simp at hp⟩
  have n3 : ∀ b ∈ fp, H3 b = none := fun b hb => (f3 b hb).1.1
  have loop : codeAny (model X.prog X.w) X.A (Code.compLoop (.DictComp kx vx [⟨tg, iter, ifs, 0⟩] scope pos) 0 (.ref it) (.ref D) ce) (compPost (model X.prog X.w) X.A X.xe use Qf (.ref D) s3.heap.objs.size) s4 := by
    refine compLoop_anyD (fun n s' => ∃ i H', L2.Inv (X.blk s3 H3 scope ce fp) [] (wipe σ (own.map (·.2))) H' s' ∧ tn i s'.heap ∧ (∀ b ∈ fp, H' b = none) ∧ W i n H') ?_ m0 ⟨0, H3, I4, st4, n3, w0⟩
    rintro n s5 ⟨i, H5, I5, st5, n5, w5⟩
    rcases turn i n H5 w5 with ⟨stop, qq⟩ | ⟨go, Nx, hNx, step⟩
    · refine thnF (T.done (X.blk s3 H3 scope ce fp) rfl rfl rfl hc i [] s5 _ H5 _ I5 (stat I5 n5) st5 stop) fun r s6 ⟨er, I6⟩ => ?_
      subst er
      have I7 : L2.Inv X pins σ H5 s6 := I3.call' (ch := fp) I6.os I6.base I6.hok I6.bare fun b hb => by
        obtain ⟨_, a1, a2, a3, a4, a5⟩ := (f3 b hb).1
        exact ⟨a3, a1, a4, a5⟩
      obtain ⟨m, hn, _⟩ := I6.loc
      have hn : s6.heap.Ns ce.locals m := hn
      rw [cL] at hn
      have nC : H5 s3.heap.objs.size = none := by
        have := I6.free
        have this : H5 ce.locals = none := this
        rwa [cL] at this
      exact hR D _ s6 m H5 I7 qq hn (I3.fpOk (Nat.le_refl _) nC)
    · refine thnF (T.item (X.blk s3 H3 scope ce fp) rfl rfl rfl hc i [] s5 _ H5 _ I5 (stat I5 n5) st5 go) fun r s6 ⟨u, er, h6⟩ => ?_
      subst er
      refine thnF h6 fun _ s7 ⟨x, H7, I7, rx, yl, st7, n7⟩ => ?_
      have I7' := I7.pinned (stat I7 n7) (T.obj _ _ st7)
      refine thnF (pg.run _ s7 _ H7 x u _ I7' rx (step x H7 yl)) fun _ s8 ⟨σ8, H8, I8, hw8, ht8⟩ => ?_
      refine thnF (pt.run _ s8 σ8 H8 _ I8 ht8) fun b s9 ⟨H9, I9, h9⟩ => ?_
      have fin : ∀ {s' : Shared} {H' : Hp}, L2.Inv (X.blk s3 H3 scope ce fp) ([] ++ pinsAt fp s7.heap) σ8 H' s' → Nx H' → ∃ m, m < n ∧ ∃ i H', L2.Inv (X.blk s3 H3 scope ce fp) [] (wipe σ (own.map (·.2))) H' s' ∧ tn i s'.heap ∧ (∀ b ∈ fp, H' b = none) ∧ W i m H' := fun {s' H'} I' nx => by
        obtain ⟨m', hm, w'⟩ := hNx H' nx
        have pin' : ∀ b ∈ fp, ∀ o, s7.heap.get? b = some o → s'.heap.get? b = some o ∧ H' b = none := fun b hb o e => by
          have := I'.pin (b, o) (List.mem_append_right _ (List.mem_append_right _ (mem_pinsAt hb e)))
          exact ⟨this.1, this.2.1⟩
        refine ⟨m', hm, i + 1, H', ?_, T.keep (i + 1) _ _ st7 fun b hb o e => (pin' b hb o e).1, fun b hb => ?_, w'⟩
        · rw [← hw8]
          exact I'.unpinned.weak (wipe_length _ _) fun j v e => (wipe_some e).1
        · obtain ⟨o, e, _⟩ := T.obj _ _ st7 b hb
          exact (pin' b hb o e).2
      cases b with
      | false => exact fin I9 h9
      | true =>
        refine thnF (pk.run _ s9 σ8 H9 _ I9 h9) fun kv s10 ⟨y, H10, I10, ry, h10⟩ => ?_
        refine thnF (pe.run _ s10 σ8 H10 _ I10 h10) fun vv s11 ⟨z, H11, I11, rz, kvs, k, c, ey, hb, hDD, sz', nx⟩ => ?_
        subst ey
        have ry : kv = .ref c := ry
        subst ry
        exact d_dictSetT (X := X.blk s3 H3 scope ce fp) hu I11 hDD hb sz' rz fun s12 I12 => fin I12 nx
  subst hce
  exact codeAny_compStart_dict loop (T.self X.A 0 s4 _ _ st4 loop)
section
variable {X : Cx} {kx vx tg iter : Expr} {ifs : List Expr} {scope : Scope} {own : List (Str × Nat)} {pos : Pos} {wi : TI} {g : TG} {tt : TT} {tk tv : TE}
theorem pe_dcT (hu : X.A.units < cLine) (hc : X.calm = true) (hN : X.N.Nodup) (hi : PI X tg iter wi) (ok : BlkOk X.N X.env.scope scope own)
    (hg : ∀ (s : Shared) (H : Hp) (C : Addr) (cl : List (Str × Addr)) (fp : List Addr), PG (X.blk s H scope (compEnvC scope cl C X.env) fp) tg g) (ht : ∀ (s : Shared) (H : Hp) (C : Addr) (cl : List (Str × Addr)) (fp : List Addr), PTs (X.blk s H scope (compEnvC scope cl C X.env) fp) ifs tt)
    (hk : ∀ (s : Shared) (H : Hp) (C : Addr) (cl : List (Str × Addr)) (fp : List Addr), PE (X.blk s H scope (compEnvC scope cl C X.env) fp) kx tk)
    (he : ∀ (s : Shared) (H : Hp) (C : Addr) (cl : List (Str × Addr)) (fp : List Addr), PE (X.blk s H scope (compEnvC scope cl C X.env) fp) vx tv) (hs : ∀ x, foldedSetIterable iter X.env x = pure x := by intro _; rfl) :
    PE X (.DictComp kx vx [⟨tg, iter, ifs, 0⟩] scope pos) (tDcT wi g tt tk tv (own.map (·.2))) := by
  refine ⟨fun pins s σ H Q I h => ?_⟩
  show wpAny _ X.A (comprehension (.DictComp kx vx [⟨tg, iter, ifs, 0⟩] scope pos) scope X.env (firstIterPos [⟨tg, iter, ifs, 0⟩] pos) newDict false (eval iter X.env) none) _ _ s
  refine dc_coreT hu hc hN I hi ok hg ht hk he hs h fun D C s' m H' I' q hn f => ⟨m, hn, fun h' sb => ?_⟩
  obtain ⟨f0, f1, f2, f3, f4, f5⟩ := f
  exact ⟨.ref D, H', I'.turned (t' := s'.toks) (fun b o hb e => (sb.2 b hb).trans e) f0 f1 f3 f4 f5, rfl, q⟩
theorem ps_setDcT {i : Nat} {y : Str} {py spos : Pos} (hu : X.A.units < cLine) (hc : X.calm = true) (hN : X.N.Nodup) (hy : X.N[i]? = some y) (hyl : X.env.scope.names.lookup y = some .local)
    (hsw : swapsWith (.DictComp kx vx [⟨tg, iter, ifs, 0⟩] scope pos) (some (.Name y py)) spos.line X.env = pure true) (hi : PI X tg iter wi) (ok : BlkOk X.N X.env.scope scope own)
    (hg : ∀ (s : Shared) (H : Hp) (C : Addr) (cl : List (Str × Addr)) (fp : List Addr), PG (X.blk s H scope (compEnvC scope cl C X.env) fp) tg g) (ht : ∀ (s : Shared) (H : Hp) (C : Addr) (cl : List (Str × Addr)) (fp : List Addr), PTs (X.blk s H scope (compEnvC scope cl C X.env) fp) ifs tt)
    (hk : ∀ (s : Shared) (H : Hp) (C : Addr) (cl : List (Str × Addr)) (fp : List Addr), PE (X.blk s H scope (compEnvC scope cl C X.env) fp) kx tk)
    (he : ∀ (s : Shared) (H : Hp) (C : Addr) (cl : List (Str × Addr)) (fp : List Addr), PE (X.blk s H scope (compEnvC scope cl C X.env) fp) vx tv) (hs : ∀ x, foldedSetIterable iter X.env x = pure x := by intro _; rfl) :
    PS X (.Assign [.Name y py] (.DictComp kx vx [⟨tg, iter, ifs, 0⟩] scope pos) spos) (tAsg (tDcT wi g tt tk tv (own.map (·.2))) (gName i)) := by
  refine ⟨fun pins s σ H D I h => ?_⟩
  rw [exec_Assign_Name_used _ _ _ _ hsw]
  refine wpAny_bind (wpAny_standAt (wpAny_bind ?_))
  show wpAny _ X.A (do let _ ← comprehension (.DictComp kx vx [⟨tg, iter, ifs, 0⟩] scope pos) scope X.env (firstIterPos [⟨tg, iter, ifs, 0⟩] pos) newDict false (eval iter X.env) (some (assign (.Name y py) X.env))) _ _ s
  have h : tDcT wi g tt tk tv (own.map (·.2)) σ H (fun x H1 => gName i x σ H1 D.nx) := h
  refine wpAny_bind (thn (dc_coreT (Qf := fun _ s' => SP X pins D .next s') hu hc hN I hi ok hg ht hk he hs h fun L C s' m H' I' q hn f => ?_) fun _ s' hq => wpAny_pure (wpAny_pure hq))
  show wpAny _ _ (assign (.Name y py) X.env (.ref L)) _ _ _
  refine wpAny_assign_Name (store_ok2 (v := V.ref L) I' hN hy (.inl hyl) rfl (fun s2 I2 ⟨a, sb, ha⟩ => ?_) (.inr hyl))
  obtain ⟨f0, f1, f2, f3, f4, f5⟩ := f
  have haC : C ≠ a := by
    rcases ha with z | z
    · rw [z]; exact f1
    · exact fun e => f4 y a z e.symm
  refine ⟨m, hn.sameBut sb haC, fun h3 sb3 => ?_⟩
  exact ⟨_, H', I2.turned (t' := s2.toks) (fun b o hb e => (sb3.2 b hb).trans e) f0 f1 f3 f4 f5, q⟩
end
/-! ### d.pop(key, default), a dict whose keys are texts or numbers -/
def rPopK : V → List V → Hp → VK → Prop := fun x xs H Q => ∃ (a : Addr) (kvs : List (Key × V)) (k : Key) (d : V), x = .ref a ∧ xs = [kV k, d] ∧ H a = some (.dK kvs) ∧ (∀ v, valV kvs k = some v → Q v (upd H a (.dK (dropK kvs k)))) ∧ (valV kvs k = none → Q d H)
theorem mt_popK {X : Cx} : MtR X "dict.pop" rPopK := by
  intro pins s σ H x vs v us Q I rx rv h
  obtain ⟨a, kvs, k, d, ex, ev, e, q1, q2⟩ := h
  subst ex
  subst ev
  obtain rfl : v = Value.ref a := rx
  cases rv with
  | @cons _ u _ us' r1 r2 =>
    cases r2 with
    | @cons _ u2 _ us2 r2 r3 =>
      cases r3
      cases hv : valV kvs k with
      | none => exact d_popD I e r1 hv fun s' I' => ⟨d, H, I', r2, q2 hv⟩
      | some v => exact d_pop I e r1 hv (.inr ⟨_, rfl⟩) fun w s' I' rw' => ⟨v, _, I', rw', q1 v hv⟩
end V2

set_option Elab.async false
set_option linter.all false
set_option maxRecDepth 100000
set_option maxHeartbeats 2000000
namespace V2
open PySem PySem.Spec PyProof.Rows L2
/-! ### a, *b = t, t a tuple -/
theorem unpack_hdT {prog : Program} {w : World} {A : Around} {E : Value → Shared → Prop} {s : Shared} {l : Addr} {items : Array Value} {x : Value} {r : List Value} (ht : IsTup s.heap l items) (hi : items.toList = x :: r) (hh : A.handled = none) (sz : items.size ≤ sizeLine) {Q : List Value → Shared → Prop}
    (q : ∀ (h' : Heap) (tk : Nat), (∀ b o, s.heap.get? b = some o → h'.get? b = some o) → Q [x, .ref h'.objs.size] ⟨h'.push { cls := .type "list", data := .seq r.toArray }, s.gens, s.drawn, tk, s.os⟩) :
    wpAny (model prog w) A (unpackItems (.ref l) 2 (some 1)) Q E s := by
  have n1 : items.size = r.length + 1 := by rw [← Array.length_toList, hi]; rfl
  unfold unpackItems
  refine wpAny_bind ?_
  unfold notIterableAtAll
  refine wpAny_bind (wpAny_specialOf ht.typeIs slot_tuple_iter.lookup ?_)
  dsimp only [Option.isSome]
  rw [if_pos rfl]
  refine wpAny_pure ?_
  rw [if_neg (by decide)]
  refine wpAny_bind (wpAny_holding (iter_tuple ht ?_))
  obtain ⟨ot, e1, e2, e3⟩ := ht
  have hlt : l < s.heap.objs.size := Heap.lt_size e1
  have ne : l ≠ s.heap.objs.size := Nat.ne_of_lt hlt
  have ht : IsTup s.heap l items := ⟨ot, e1, e2, e3⟩
  generalize hI : s.heap.objs.size = I at ne hlt
  have gI : (s.heap.push { cls := Value.type "tuple_iterator", data := Data.fields #[Value.ref l, Value.int 0 0] }).get? I = some { cls := Value.type "tuple_iterator", data := Data.fields #[Value.ref l, Value.int 0 0] } := by rw [← hI]; exact Heap.get?_push_size s.heap rfl
  generalize hp : s.heap.push { cls := Value.type "tuple_iterator", data := Data.fields #[Value.ref l, Value.int 0 0] } = hp1 at gI
  have keep1 : ∀ b o, s.heap.get? b = some o → hp1.get? b = some o := fun b o e => by rw [← hp]; exact Heap.get?_push_of_some _ e
  have it1 : IsTupIter hp1 I l 0 := ⟨_, gI, rfl, rfl⟩
  have t1 : IsTup hp1 l items := ⟨ot, keep1 _ _ e1, e2, e3⟩
  refine wpAny_bind (wpAny_holding (draw_tuple ne 1 0 _ _ it1 t1 (by omega) fun h2 it2 sb2 => ?_))
  have f1 : List.take 1 (List.drop 0 items.toList) = [x] := by rw [hi]; rfl
  rw [f1]
  dsimp only
  rw [if_neg (show ¬ ([x] : List Value).length < 1 from Nat.lt_irrefl 1)]
  have keep2 : ∀ b o, b ≠ I → hp1.get? b = some o → h2.get? b = some o := fun b o nb e => (sb2.2 b nb).trans e
  have t2 : h2.IsTuple l items := ⟨ot, keep2 _ _ ne (keep1 _ _ e1), e2, e3⟩
  have l2 : l < h2.objs.size := by obtain ⟨o, e, _⟩ := t2; exact Heap.lt_size e
  have i2 : I < h2.objs.size := by obtain ⟨o, e, _⟩ := it2; exact Heap.lt_size e
  refine wpAny_bind (wpAny_holding (PySem.W.kun_collect (I := I) (ax := l) (k := 1) (items := items) (T := "tuple_iterator") (.inr (.inr (.inr rfl))) (Walks.tuple (A := A.in1) hh I l ne items) (fun i u hu => hu.1.typeIs) (by omega) ⟨it2, t2⟩ i2 l2 (fun h3 tk keep3 => ?_) sz))
  have f2 : List.drop 1 items.toList = r := by rw [hi]; rfl
  rw [f2]
  rw [if_neg (by show ¬ r.length < 0; exact Nat.not_lt_zero _)]
  have f3 : List.take (r.length - (2 - 1 - 1)) r = r := List.take_of_length_le (by show r.length ≤ r.length - 0; exact Nat.le_refl _)
  have f4 : List.drop (r.length - (2 - 1 - 1)) r = [] := List.drop_eq_nil_of_le (by show r.length ≤ r.length - 0; exact Nat.le_refl _)
  rw [f3, f4]
  refine wpAny_bind (wpAny_newList ?_ (by omega))
  refine wpAny_pure ?_
  have keep : ∀ b o, s.heap.get? b = some o → h3.get? b = some o := fun b o e => by
    have nb : b ≠ I := by rw [← hI]; exact Nat.ne_of_lt (Heap.lt_size e)
    exact keep3 b o nb (keep2 b o nb (keep1 b o e))
  exact q h3 tk keep
def gHd (K : PySem.W.Frag) (t : TGs) : TG := fun v σ H Q => ∃ (a : Addr) (x : V) (xs : List V), v = .ref a ∧ SqT K H a (x :: xs) ∧ xs.length ≤ 10000 ∧ ∀ D, H D = none → t [x, .ref D] σ (upd H D (.lst xs)) Q
theorem pg_hdT {X : Cx} {es : List PySem.Expr} {k : Nat} {pos : Pos} {t : TGs} (hc : X.calm = true) (hp : PGs X es t) (h2 : (assignEach es X.env).length = 2 := by rfl) (h1 : List.findIdx? (fun x => x.1) (assignEach es X.env) = some 1 := by rfl) : PG X (.Tuple es k pos) (gHd X.K t) := by
  refine ⟨fun pins s σ H v u Q I r h => ?_⟩
  obtain ⟨a, x, xs, rfl, sq, lx, q⟩ := h
  have r : u = .ref a := r
  subst r
  obtain ⟨o, its, n, g1, g2, g3, g4⟩ := sqT_at I sq
  cases hits : its.toList with
  | nil => rw [hits] at g4; cases g4
  | cons y ys =>
    rw [hits] at g4
    cases g4 with
    | cons rx rxs =>
      rw [arm_assign_Tuple]
      refine wpAny_bind (wpAny_standAt ?_)
      unfold unpack
      rw [h2, h1]
      have lz : its.size = ys.length + 1 := by rw [← Array.length_toList, hits]; rfl
      have ly : ys.length = xs.length := (Paired.length rxs).symm
      refine wpAny_bind (wpAny_holding (unpack_hdT ⟨o, g1, g2, n, g3⟩ hits (I.ok.hd hc) (Nat.le_trans (m := 10001) (by omega) (by decide)) fun h' tk keep => ?_))
      have I2 : L2.Inv X pins σ H ⟨h', s.gens, s.drawn, tk, s.os⟩ := I.kept keep
      have I3 := I2.laid (t' := tk) (o := .lst xs) (h' := h'.push { cls := .type "list", data := .seq ys.toArray }) (fun b u e => Heap.get?_push_of_some _ e) (Nat.le_refl _) ⟨Nat.le_trans lx (by decide), ys, _, rxs, Heap.get?_push_size h' rfl⟩
      exact hp.run pins _ σ _ _ _ _ I3 (.cons rx (.cons (show RelV (.ref h'.objs.size) (.ref h'.objs.size) from rfl) .nil)) (q _ (I2.hok.fresh (Nat.le_refl _)))
theorem pgs_star {X : Cx} {e : PySem.Expr} {p : Pos} {es : List PySem.Expr} {t : TG} {u : TGs} (h : PG X e t) (hs : PGs X es u) (e1 : List.map (fun x => x.2) (assignEach (e :: es) X.env) = assign e X.env :: List.map (fun x => x.2) (assignEach es X.env) := by rfl) (e2 : List.map (fun x => x.2) (assignEach (.Starred e p :: es) X.env) = assign e X.env :: List.map (fun x => x.2) (assignEach es X.env) := by rfl) : PGs X (.Starred e p :: es) (gCons t u) := by
  refine ⟨fun pins s σ H vs us Q I r q => ?_⟩
  have := (pgs_cons h hs e1).run pins s σ H vs us Q I r q
  rw [e1] at this
  rw [e2]
  exact this
section
variable {K : PySem.W.Frag} {W : Wd} {Δ : Env} {i j : Nat} {x : PyData} {xs : List PyData}
theorem gx_hd (l : xs.length ≤ 10000) : GX K W (gHd K (gCons (gName i) (gCons (gName j) gNil))) (.d (.tuple (x :: xs))) Δ ((Δ.set i (some (.d x))).set j (some (.d (.list xs)))) := fun v σ H jj s ii Q q => by
  cases ii with
  | tup h1 d1 =>
    cases d1 with
    | cons dx dxs =>
      rename_i a v1 vs
      refine ⟨_, v1, vs, rfl, sqT_same hid_le h1, by rw [dxs.length]; exact l, fun D nD => ⟨_, _, rfl, _, _, rfl, rfl, ?_⟩⟩
      have f : Fr W H (upd H D (.lst vs)) := .new jj nD
      exact q _ _ f (((s.fr f).set (a := .d x) i (Dt.ext f.same _ _ dx)).set (a := .d (.list xs)) j (Dt.lst (hid_new jj nD) (DtAll.ext f.same _ _ dxs)))
end
end V2

set_option Elab.async false
set_option linter.all false
set_option maxRecDepth 100000
set_option maxHeartbeats 2000000
namespace V2
open PySem PySem.Spec PyProof.Rows L2
/-! ### a walk over a list or a tuple -/
def iSeq (K : PySem.W.Frag) (tl : TE) : TI := fun σ H R => iList K tl σ H R ∨ iTup K tl σ H R
theorem pi_seq {X : Cx} {tg l : Expr} {tl : TE} (hl : PE X l tl) : PI X tg l (iSeq X.K tl) := ⟨fun pins s σ H R I h => h.elim ((pi_list hl).run pins s σ H R I) ((pi_tup hl).run pins s σ H R I)⟩
section
variable {K : PySem.W.Frag} {W : Wd} {Δ : Env} {ta tb tc te tl : TE} {R S T : A → Prop} {t : TA} {xs : List PyData}
theorem xi_seqL (h : XV K W tl Δ (.d (.list xs))) : XI K W (iSeq K tl) Δ (· = xs.length) fun i a => ∃ d, xs[i]? = some d ∧ a = .d d := fun σ H j s R q => .inl (xi_list h σ H j s R q)
theorem xi_seqT (h : XV K W tl Δ (.d (.tuple xs))) : XI K W (iSeq K tl) Δ (· = xs.length) fun i a => ∃ d, xs[i]? = some d ∧ a = .d d := fun σ H j s R q => .inr (xi_tup h σ H j s R q)
theorem xt_truL (h : XV K W te Δ (.d (.list xs))) : XB K W (tTruS K te) Δ (!xs.isEmpty) := fun σ H j s Q q =>
  h σ H j s _ fun v H1 a f e i => by
    subst e
    cases i with
    | lst h1 d1 => exact ⟨_, .inl ⟨_, .inl (.inl (hid_le _ _ h1)), rfl⟩, q _ H1 f (by cases d1 <;> rfl)⟩
theorem xe_notTL (h : XV K W te Δ (.d (.list xs))) : XV K W (tNotT K te) Δ (.d (.bool xs.isEmpty)) := fun σ H j s Q q =>
  h σ H j s _ fun v H1 a f e i => by
    subst e
    cases i with
    | lst h1 d1 =>
      refine ⟨_, .inl ⟨_, .inl (.inl (hid_le _ _ h1)), rfl⟩, ?_⟩
      rw [Bool.not_not]
      rename_i p vs
      have e : vs.isEmpty = xs.isEmpty := by cases d1 <;> rfl
      rw [e]
      exact q _ H1 _ f rfl (show Dt K _ (.bl xs.isEmpty) (.bool xs.isEmpty) from .bl _)
/-! ### data whose tuples are tracked -/
theorem TkAll.length {H : Hp} : ∀ {vs : List V} {ds : List PyData}, TkAll H vs ds → vs.length = ds.length
  | _, _, .nil => rfl
  | _, _, .cons _ q => congrArg (· + 1) q.length
theorem TkAll.get {H : Hp} : ∀ {vs : List V} {ds : List PyData} {i : Nat} {d : PyData}, TkAll H vs ds → ds[i]? = some d → ∃ v, vs[i]? = some v ∧ Tk H v d
  | _, _, i, d, .nil, h => by simp at h
  | _, _, 0, d, .cons h _, e => by simp at e; subst e; exact ⟨_, rfl, h⟩
  | _, _, i + 1, d, .cons _ q, e => by
    obtain ⟨v, h1, h2⟩ := TkAll.get (i := i) (d := d) q (by simpa using e)
    exact ⟨v, by simpa using h1, h2⟩
theorem TkAll.append {H : Hp} : ∀ {vs us : List V} {ds es : List PyData}, TkAll H vs ds → TkAll H us es → TkAll H (vs ++ us) (ds ++ es)
  | _, _, _, _, .nil, s => s
  | _, _, _, _, .cons r t, s => .cons r (TkAll.append t s)
theorem Is.td {M : Addr → Prop} {H : Hp} {v : V} {x : PyData} (h : Is K M H v (.t x)) : Is K M H v (.d x) := Tk.dt x v h
theorem xe_td {x : PyData} (h : XV K W te Δ (.t x)) : XV K W te Δ (.d x) := fun σ H j s Q q => h σ H j s Q fun v H1 a f e i => by
  subst e
  exact q v H1 _ f rfl (Is.td i)
theorem Tk.ofFlat {H : Hp} {d : PyData} (f : V2.flat d = true) : Tk H (vOf d) d := by
  cases d <;> first | constructor | (simp [V2.flat] at f)
theorem xe_tf {d : PyData} (h : XV K W te Δ (.d d)) (f : flat d = true) : XV K W te Δ (.t d) := fun σ H j s Q q => h σ H j s Q fun v H1 a f1 e i => by
  subst e
  obtain rfl := Dt.flat i f
  exact q _ H1 _ f1 rfl (Tk.ofFlat f)
def tAll : List PyData → List A := List.map A.t
theorem tks_of {M : Addr → Prop} {H : Hp} : ∀ {ds : List PyData} {vs : List V}, IsAll K M H vs (tAll ds) → TkAll (hid M H) vs ds
  | [], _, .nil => .nil
  | d :: ds, _, .cons h t => .cons h (tks_of t)
theorem xe_tupK {ds : List PyData} (h : XAs K W t Δ (tAll ds)) (n : ds.length ≤ 10000 := by decide) : XV K W (tTup t) Δ (.t (.tuple ds)) := fun σ H j s Q q =>
  h σ H j s _ fun vs H1 as f1 e i => by
    subst e
    have d := tks_of i
    refine ⟨by rw [d.length]; exact Nat.le_trans n (by decide), fun p np => q _ _ _ (f1.trans (.new f1.j np)) rfl ?_⟩
    exact Tk.tup (hid_new f1.j np) (TkAll.ext (Fr.same (.new f1.j np)) _ _ d)
theorem xe_lstK {ds : List PyData} (h : XAs K W t Δ (tAll ds)) (n : ds.length ≤ 10000 := by decide) : XV K W (tLst t) Δ (.t (.list ds)) := fun σ H j s Q q =>
  h σ H j s _ fun vs H1 as f1 e i => by
    subst e
    have d := tks_of i
    refine ⟨by rw [d.length]; exact Nat.le_trans n (by decide), fun p np => q _ _ _ (f1.trans (.new f1.j np)) rfl ?_⟩
    exact Tk.lst (hid_new f1.j np) (TkAll.ext (Fr.same (.new f1.j np)) _ _ d)
theorem ox_catK {xs ys : List PyData} (n : xs.length + ys.length ≤ 100000) : OX K W rCat (.t (.list xs)) (.t (.list ys)) (· = .t (.list (xs ++ ys))) := fun v w H j i1 i2 Q q => by
  cases i1 with
  | lst h1 d1 =>
    cases i2 with
    | lst h2 d2 =>
      refine ⟨_, _, _, _, rfl, rfl, hid_le _ _ h1, hid_le _ _ h2, by rw [d1.length, d2.length]; exact Nat.le_trans n (by decide), fun p np => ?_⟩
      exact q _ _ _ (.new j np) rfl (Tk.lst (hid_new j np) (TkAll.append (TkAll.ext (Fr.same (.new j np)) _ _ d1) (TkAll.ext (Fr.same (.new j np)) _ _ d2)))
theorem xe_ixLRK {xs : List PyData} (ha : XV K W ta Δ (.t (.list xs))) (hb : XE K W tb Δ fun a => ∃ i : Int, a = .d (.int i) ∧ 0 ≤ i ∧ i < xs.length) : XE K W (tOp (rIxL K) ta tb) Δ fun a => ∃ z ∈ xs, a = .t z :=
  xe_opR ha hb fun a b e ⟨i, e', h0, h1⟩ => by
    subst e e'
    have l : i.toNat < xs.length := by omega
    intro v w H j i1 i2 Q q
    cases i2
    cases i1 with
    | lst h1 d1 =>
      obtain ⟨u, hu, du⟩ := d1.get (List.getElem?_eq_getElem l)
      exact ⟨_, _, _, u, rfl, rfl, .inl (.inl (hid_le _ _ h1)), at_of (j := i.toNat) (by omega) hu, q _ H _ (.refl j) ⟨_, List.getElem_mem l, rfl⟩ du⟩
theorem ox_ixTK {xs : List PyData} {i : Int} {z : PyData} (h0 : 0 ≤ i) (h : xs[i.toNat]? = some z) : OX K W (rIxT K) (.t (.tuple xs)) (.d (.int i)) (· = .t z) := fun v w H j i1 i2 Q q => by
  cases i2
  cases i1 with
  | tup h1 d1 =>
    obtain ⟨u, hu, du⟩ := d1.get h
    exact ⟨_, _, _, u, rfl, rfl, .inl (.inl (hid_le _ _ h1)), at_of (j := i.toNat) (by omega) hu, q _ H _ (.refl j) rfl du⟩
theorem xi_listK {xs : List PyData} (h : XV K W tl Δ (.t (.list xs))) : XI K W (iList K tl) Δ (· = xs.length) fun i a => ∃ d, xs[i]? = some d ∧ a = .t d := fun σ H j s R q =>
  h σ H j s _ fun v H1 a f e i => by
    subst e
    cases i with
    | lst h1 d1 =>
      rename_i p vs
      have m : ¬ W.M p := fun m => by rw [hid_in m] at h1; cases h1
      rw [hid_out m] at h1
      refine ⟨p, rfl, ⟨vs, .inl (.inl h1)⟩, q _ H1 _ f rfl fun H2 f2 i => ?_⟩
      have g : SqL K H2 p vs := .inl (.inl (f2.keep p _ m h1))
      refine ⟨fun l => ?_, fun l => ⟨vs, g, by rw [d1.length]; exact l⟩⟩
      obtain ⟨v, hv, dv⟩ := d1.get (List.getElem?_eq_getElem l)
      refine ⟨⟨vs, v, g, hv⟩, fun x H3 y => ⟨y.1, .t xs[i], ⟨_, List.getElem?_eq_getElem l, rfl⟩, ?_⟩⟩
      have e := y.2 vs g
      rw [hv] at e
      cases e
      exact dv
end
/-! ### keys of a book -/
abbrev kD2 (w : Str) (p : Key) : PyData := .tuple [.str w, keyD p]
theorem tk_key {H : Hp} {v : V} {w : Str} {p : Key} (h : Tk H v (kD2 w p)) : ∃ b, v = .ref b ∧ H b = some (.tup (List.map kV [.inr w, p])) := by
  cases h with
  | tup h d =>
    cases d with
    | cons h1 d =>
      cases d with
      | cons h2 d =>
        cases d
        cases h1
        refine ⟨_, rfl, ?_⟩
        rw [h]
        cases p with
        | inl i => cases h2; rfl
        | inr x => cases h2; rfl
/-! ### a dict of the module whose values differ in kind -/
def KMix (K : PySem.W.Frag) (w : World) (d : Addr) (kvs : List (Str × V)) : Prop := ∀ (i : Nat) (k : Str) (v : V), kvs[i]? = some (k, v) → KDct K w d k v
def mEnt (P : Params) (p : Str × Tok × Value) : DictEntry := ⟨PyData.keyHash P p.1, .str p.1 p.2.1, p.2.2⟩
theorem keysLit_m {P : Params} : ∀ es : List (Str × Tok × Value), PySem.W.KeysLit P (es.map (mEnt P))
  | [] => trivial
  | p :: es => ⟨⟨p.1, p.2.1, rfl, rfl⟩, keysLit_m es⟩
theorem find_m {P : Params} : ∀ {es : List (Str × Tok × Value)} {i : Nat} {p : Str × Tok × Value}, (es.map (·.1)).Nodup → es[i]? = some p → (es.map (mEnt P)).find? (fun x => x.key.isStr p.1) = some (mEnt P p)
  | [], i, p, _, e => by simp at e
  | a :: es, 0, p, nd, e => by
    have e : a = p := by simpa using e
    subst e
    rw [List.map_cons, List.find?_cons]
    have : (mEnt P a).key.isStr a.1 = true := by
      show (a.1 == a.1) = true
      exact beq_self_eq_true _
    rw [this]
  | a :: es, i + 1, p, nd, e => by
    have e : es[i]? = some p := by simpa using e
    rw [List.map_cons, List.nodup_cons] at nd
    have ne : a.1 ≠ p.1 := fun z => nd.1 (List.mem_map.mpr ⟨p, List.mem_of_getElem? e, z.symm⟩)
    rw [List.map_cons, List.find?_cons]
    have : (mEnt P a).key.isStr p.1 = false := by
      show (a.1 == p.1) = false
      exact beq_eq_false_iff_ne.mpr ne
    rw [this]
    exact find_m nd.2 e
theorem paired_at2 {α β : Type} {R : α → β → Prop} : ∀ {l : List α} {m : List β} {i : Nat} {q : α}, Paired R l m → l[i]? = some q → ∃ p, m[i]? = some p ∧ R q p
  | _, _, i, q, .nil, e => by simp at e
  | _, _, 0, q, .cons h _, e => by simp at e; subst e; exact ⟨_, rfl, h⟩
  | _, _, i + 1, q, .cons _ t, e => by
    obtain ⟨p, h1, h2⟩ := paired_at2 (i := i) t (by simpa using e)
    exact ⟨p, by simpa using h1, h2⟩
theorem kmix_mk {K : PySem.W.Frag} {w : World} {d : Addr} {n : Nat} {kvs : List (Str × V)} (es : List (Str × Tok × Value)) (nd : (es.map (·.1)).Nodup) (hl : K.lookup d = some ⟨.type "dict", none, .dict (es.map (mEnt w.params)).toArray n, #[]⟩) (h : Paired (fun (a : Str × V) (b : Str × Tok × Value) => a.1 = b.1 ∧ RelV a.2 b.2.2) kvs es) : KMix K w d kvs := fun i k v e => by
  obtain ⟨p, q, e1, e2⟩ := paired_at2 h e
  have e1 : k = p.1 := e1
  subst e1
  refine ⟨_, n, p.2.2, hl, by simpa using keysLit_m (P := w.params) es, ?_, e2⟩
  unfold PySem.W.nsIn
  rw [hl]
  show (match (es.map (mEnt w.params)).toArray.toList.find? (fun x => x.key.isStr p.1) with | some e => some (some e.val) | none => _) = _
  rw [List.toList_toArray, find_m nd q]
  rfl
/-- an item of such a dict -/
theorem ox_kmix {K : PySem.W.Frag} {w : World} {W : Wd} {d : Addr} {kvs : List (Str × V)} {k : Str} {v : V} {i : Nat} {x : PyData} (h : KMix K w d kvs) (e : kvs[i]? = some (k, v)) (dv : ∀ H, Dt K H v x) : OX K W (rIxD K w) (.v (.ref d)) (.d (.str k)) (· = .d x) := fun u z H j i1 i2 Q q => by
  have i1 : u = .ref d := i1
  subst i1
  cases i2
  exact ⟨d, k, v, rfl, rfl, h i k v e, q _ H _ (.refl j) rfl (dv _)⟩
end V2

set_option Elab.async false
set_option linter.all false
set_option maxRecDepth 100000
set_option maxHeartbeats 2000000
namespace V2
open PySem PySem.Spec PyProof.Rows L2
/-! ### a fragment that grows by another one's new things -/
section
variable {K : PySem.W.Frag} {W : Wd} {H0 H H' : Hp} {S S2 : Frg} {σ : L2.St} {Δ : Env}
theorem fix_app : (W.fix (S2 ++ S)).M = ((W.fix S).fix S2).M := by
  funext a
  refine propext ⟨fun z => ?_, fun z => ?_⟩
  · rcases z with z | ⟨p, hp, e⟩
    · exact .inl (.inl z)
    · rcases List.mem_append.mp hp with h | h
      · exact .inr ⟨p, h, e⟩
      · exact .inl (.inr ⟨p, h, e⟩)
  · rcases z with (z | ⟨p, hp, e⟩) | ⟨p, hp, e⟩
    · exact .inl z
    · exact .inr ⟨p, List.mem_append_right _ hp, e⟩
    · exact .inr ⟨p, List.mem_append_left _ hp, e⟩
theorem FX.join (f : FX W H0 H S) (g : FX (W.fix S) H H' S2) : FX W H0 H' (S2 ++ S) := by
  refine ⟨fun a o n e => ?_, ⟨g.j.1.1, fun p hp => ?_⟩, fun p hp => ?_, ?_⟩
  · rw [fix_app] at n
    exact g.keep a o n (f.keep a o (fun z => n (.inl z)) e)
  · rcases List.mem_append.mp hp with h | h
    · exact g.j.2 p h
    · exact g.j.1.2 p h
  · rcases List.mem_append.mp hp with h | h
    · obtain ⟨n0, nm⟩ := f.none0 (g.new p h).1
      exact ⟨n0, fun z => nm (.inl z)⟩
    · exact f.new p h
  · rw [List.map_append, List.nodup_append]
    refine ⟨g.nd, f.nd, fun a ha b hb e => ?_⟩
    obtain ⟨p, hp, rfl⟩ := List.mem_map.mp ha
    obtain ⟨q, hq, rfl⟩ := List.mem_map.mp hb
    exact (g.new p hp).2 (.inr ⟨q, hq, e.symm⟩)
theorem gr_join (g : FX (W.fix S) H H' S2) : Gr W H S H' (S2 ++ S) := fun a o e => by
  by_cases m : (W.fix S).M a
  · rw [hid_in m] at e; cases e
  · rw [hid_out m] at e
    have n2 : ¬ (W.fix (S2 ++ S)).M a := by
      rw [fix_app]
      rintro (z | ⟨p, hp, q⟩)
      · exact m z
      · have := (g.new p hp).1
        rw [q, e] at this
        cases this
    rw [hid_out n2]
    exact g.keep a o (fun z => n2 (by rw [fix_app]; exact z)) e
theorem FS.join (s : FS K W H0 H σ Δ S) (g : FX (W.fix S) H H' S2) : FS K W H0 H' σ Δ (S2 ++ S) := s.to (s.f.join g) (gr_join g)
end
/-! ### what a book keeps: keys are tuples, worths are data -/
abbrev Kept := List (List Key × PyData)
def getT (kp : Kept) (k : List Key) : Option PyData := (kp.find? fun p => decide (p.1 = k)).map (·.2)
def putT (kp : Kept) (k : List Key) (d : PyData) : Kept := if (kp.any fun p => decide (p.1 = k)) = true then kp.map (fun p => if p.1 = k then (p.1, d) else p) else kp ++ [(k, d)]
def dropT (kp : Kept) (k : List Key) : Kept := kp.filter fun p => decide (p.1 ≠ k)
inductive DtT (K : PySem.W.Frag) (H : Hp) : List (List Key × V) → Kept → Prop
  | nil : DtT K H [] []
  | cons {k : List Key} {v : V} {d : PyData} {kv : List (List Key × V)} {kp : Kept} : Dt K H v d → DtT K H kv kp → DtT K H ((k, v) :: kv) ((k, d) :: kp)
section
variable {K : PySem.W.Frag} {H H' : Hp} {kv : List (List Key × V)} {kp : Kept} {k : List Key} {v : V} {d : PyData}
theorem DtT.ext (s : Same H H') (h : DtT K H kv kp) : DtT K H' kv kp := by
  induction h with
  | nil => exact .nil
  | cons h _ ih => exact .cons (Dt.ext s _ _ h) ih
theorem DtT.len (h : DtT K H kv kp) : kv.length = kp.length := by
  induction h with
  | nil => rfl
  | cons _ _ ih => rw [List.length_cons, List.length_cons, ih]
theorem DtT.val (h : DtT K H kv kp) : (valV kv k = none ∧ getT kp k = none) ∨ ∃ v d, valV kv k = some v ∧ getT kp k = some d ∧ Dt K H v d := by
  induction h with
  | nil => exact .inl ⟨rfl, rfl⟩
  | @cons k1 v1 d1 kv1 kp1 hd _ ih =>
    by_cases e : k1 = k
    · exact .inr ⟨v1, d1, by simp [valV, List.find?_cons, e], by simp [getT, List.find?_cons, e], hd⟩
    · have e1 : valV ((k1, v1) :: kv1) k = valV kv1 k := by simp [valV, List.find?_cons, e]
      have e2 : getT ((k1, d1) :: kp1) k = getT kp1 k := by simp [getT, List.find?_cons, e]
      rw [e1, e2]
      exact ih
theorem DtT.any (h : DtT K H kv kp) : (kv.any fun p => decide (p.1 = k)) = kp.any fun p => decide (p.1 = k) := by
  induction h with
  | nil => rfl
  | cons _ _ ih => rw [List.any_cons, List.any_cons, ih]
theorem DtT.snoc (h : DtT K H kv kp) (hd : Dt K H v d) : DtT K H (kv ++ [(k, v)]) (kp ++ [(k, d)]) := by
  induction h with
  | nil => exact .cons hd .nil
  | cons h1 _ ih => exact .cons h1 ih
theorem DtT.put (h : DtT K H kv kp) (hd : Dt K H v d) : DtT K H (putK kv k v) (putT kp k d) := by
  unfold putK putT
  rw [h.any]
  by_cases z : (kp.any fun p => decide (p.1 = k)) = true
  · rw [if_pos z, if_pos z]
    clear z
    induction h with
    | nil => exact .nil
    | @cons k1 v1 d1 kv1 kp1 h1 _ ih =>
      rw [List.map_cons, List.map_cons]
      by_cases e : k1 = k
      · rw [if_pos e, if_pos e]
        exact .cons hd ih
      · rw [if_neg e, if_neg e]
        exact .cons h1 ih
  · rw [if_neg z, if_neg z]
    exact h.snoc hd
theorem DtT.drop (h : DtT K H kv kp) : DtT K H (dropK kv k) (dropT kp k) := by
  unfold dropK dropT
  induction h with
  | nil => exact .nil
  | @cons k1 v1 d1 kv1 kp1 h1 _ ih =>
    by_cases e : k1 = k
    · rw [List.filter_cons_of_neg (by simp [e]), List.filter_cons_of_neg (by simp [e])]
      exact ih
    · rw [List.filter_cons_of_pos (by simp [e]), List.filter_cons_of_pos (by simp [e])]
      exact .cons h1 ih
end
theorem getT_put (kp : Kept) (k j : List Key) (d : PyData) : getT (putT kp k d) j = if j = k then some d else getT kp j := by
  unfold putT
  by_cases z : (kp.any fun p => decide (p.1 = k)) = true
  · rw [if_pos z]
    induction kp with
    | nil => simp at z
    | cons p r ih =>
      rw [List.map_cons]
      by_cases e : p.1 = k
      · rw [if_pos e]
        by_cases ej : j = k
        · rw [if_pos ej]
          simp [getT, List.find?_cons, e, ej]
        · rw [if_neg ej]
          have e' : ¬ p.1 = j := fun q => ej (q.symm.trans e)
          have h1 : getT (p :: r) j = getT r j := by simp [getT, List.find?_cons, e']
          have h2 : ∀ r' : Kept, getT ((p.1, d) :: r') j = getT r' j := fun r' => by simp [getT, List.find?_cons, e']
          rw [h1, h2]
          by_cases zr : (r.any fun p => decide (p.1 = k)) = true
          · have := ih zr
            rw [if_neg ej] at this
            exact this
          · have : (r.map fun p => if p.1 = k then (p.1, d) else p) = r := by
              refine (List.map_congr_left (g := id) fun q hq => ?_).trans (List.map_id r)
              by_cases eq : q.1 = k
              · exact absurd (List.any_eq_true.mpr ⟨q, hq, decide_eq_true eq⟩) zr
              · rw [if_neg eq]; rfl
            rw [this]
      · rw [if_neg e]
        have zr : (r.any fun p => decide (p.1 = k)) = true := by
          rw [List.any_cons, decide_eq_false e, Bool.false_or] at z
          exact z
        have := ih zr
        by_cases ej : p.1 = j
        · have ne : ¬ j = k := fun q => e (ej.trans q)
          rw [if_neg ne]
          simp [getT, List.find?_cons, ej]
        · have h1 : ∀ r' : Kept, getT (p :: r') j = getT r' j := fun r' => by simp [getT, List.find?_cons, ej]
          rw [h1, h1, this]
  · rw [if_neg z]
    induction kp with
    | nil =>
      by_cases ej : j = k
      · rw [if_pos ej]; simp [getT, ej]
      · rw [if_neg ej]; simp [getT]; exact fun q => ej q.symm
    | cons p r ih =>
      have z1 : ¬ p.1 = k := fun e => z (by rw [List.any_cons, decide_eq_true e]; rfl)
      have z2 : ¬ (r.any fun p => decide (p.1 = k)) = true := fun e => z (by rw [List.any_cons, e, Bool.or_true])
      by_cases ej : p.1 = j
      · have ne : ¬ j = k := fun q => z1 (ej.trans q)
        rw [if_neg ne]
        simp [getT, List.find?_cons, ej]
      · have h1 : ∀ r' : Kept, getT (p :: r') j = getT r' j := fun r' => by simp [getT, List.find?_cons, ej]
        rw [List.cons_append, h1, h1, ih z2]
theorem getT_drop (kp : Kept) (k j : List Key) : getT (dropT kp k) j = if j = k then none else getT kp j := by
  unfold dropT
  induction kp with
  | nil => split <;> rfl
  | cons p r ih =>
    by_cases e : p.1 = k
    · rw [List.filter_cons_of_neg (by simp [e]), ih]
      by_cases ej : j = k
      · rw [if_pos ej, if_pos ej]
      · rw [if_neg ej, if_neg ej]
        have : ¬ p.1 = j := fun q => ej (q.symm.trans e)
        simp [getT, List.find?_cons, this]
    · rw [List.filter_cons_of_pos (by simp [e])]
      by_cases ej : p.1 = j
      · have ne : ¬ j = k := fun q => e (ej.trans q)
        rw [if_neg ne]
        simp [getT, List.find?_cons, ej]
      · have h1 : ∀ r' : Kept, getT (p :: r') j = getT r' j := fun r' => by simp [getT, List.find?_cons, ej]
        rw [h1, h1, ih]
theorem putT_len (kp : Kept) (k : List Key) (d : PyData) : (putT kp k d).length ≤ kp.length + 1 := by
  unfold putT
  split
  · rw [List.length_map]; omega
  · rw [List.length_append]; exact Nat.le_refl _
theorem dropT_len (kp : Kept) (k : List Key) : (dropT kp k).length ≤ kp.length := List.length_filter_le _ _
/-! ### a book that is seen -/
structure Bk where
  tab : List (Str × Str)
  kp : Kept
def visD (K : PySem.W.Frag) (d : PyData) : Vis := ⟨fun v H => Dt K H v d, fun v H H' s h => Dt.ext s d v h⟩
def keptV (K : PySem.W.Frag) (kp : Kept) : Vis := ⟨fun v H => ∃ k kv, v = .ref k ∧ H k = some (.dT kv) ∧ DtT K H kv kp, fun v H H' s ⟨k, kv, e, h, d⟩ => ⟨k, kv, e, s _ _ h, d.ext s⟩⟩
def bkF (t k g : Addr) : List (Str × V) := [("table", .ref t), ("kept", .ref k), ("groups", .ref g)]
def bkV (K : PySem.W.Frag) (C : Addr) (s : Bk) (G : Vis) : Vis :=
  ⟨fun v H => ∃ b dx t k g, v = .ref b ∧ H b = some (.ins C dx (bkF t k g)) ∧ Dt K H (.ref t) (KD s.tab) ∧ (keptV K s.kp).r (.ref k) H ∧ G.r (.ref g) H,
   fun v H H' s ⟨b, dx, t, k, g, e, h, h1, h2, h3⟩ => ⟨b, dx, t, k, g, e, s _ _ h, Dt.ext s _ _ h1, (keptV K _).ext _ _ _ s h2, G.ext _ _ _ s h3⟩⟩
section
variable {K : PySem.W.Frag} {W : Wd} {Δ : Env} {C : Addr} {s : Bk} {G : Vis} {te td ty tx : TE} {ta : TA} {d : PyData}
theorem xe_od (h : XV K W te Δ (.o (visD K d))) : XV K W te Δ (.d d) := fun σ H j st Q q => h σ H j st Q fun v H1 a f e i => by
  subst e
  exact q v H1 _ f rfl i
theorem hid_some {M : Addr → Prop} {H : Hp} {a : Addr} {o : HO} (h : hid M H a = some o) : ¬ M a ∧ H a = some o := by
  by_cases m : M a
  · rw [hid_in m] at h; cases h
  · rw [hid_out m] at h; exact ⟨m, h⟩
theorem xe_bkTab (c : Cls K C) (n : NoAttr K C "table") (h : XV K W te Δ (.o (bkV K C s G))) : XV K W (tFld K te "table") Δ (.d (KD s.tab)) := fun σ H j st Q q =>
  h σ H j st _ fun v H1 a f e i => by
    subst e
    obtain ⟨b, dx, t, k, g, rfl, hb, h1, h2, h3⟩ := i
    exact ⟨b, C, dx, _, _, rfl, (hid_some hb).2, c, n, rfl, q _ H1 _ f rfl h1⟩
theorem xe_bkKept (c : Cls K C) (n : NoAttr K C "kept") (h : XV K W te Δ (.o (bkV K C s G))) : XV K W (tFld K te "kept") Δ (.o (keptV K s.kp)) := fun σ H j st Q q =>
  h σ H j st _ fun v H1 a f e i => by
    subst e
    obtain ⟨b, dx, t, k, g, rfl, hb, h1, h2, h3⟩ := i
    exact ⟨b, C, dx, _, _, rfl, (hid_some hb).2, c, n, rfl, q _ H1 _ f rfl h2⟩
theorem xe_bkGr (c : Cls K C) (n : NoAttr K C "groups") (h : XV K W te Δ (.o (bkV K C s G))) : XV K W (tFld K te "groups") Δ (.o G) := fun σ H j st Q q =>
  h σ H j st _ fun v H1 a f e i => by
    subst e
    obtain ⟨b, dx, t, k, g, rfl, hb, h1, h2, h3⟩ := i
    exact ⟨b, C, dx, _, _, rfl, (hid_some hb).2, c, n, rfl, q _ H1 _ f rfl h3⟩
/-- kept.get(key, x) -/
theorem xe_keptGet {kp : Kept} {w : Str} {p : Key} (h : XV K W td Δ (.o (keptV K kp))) (hy : XV K W ty Δ (.t (kD2 w p))) (hx : XV K W tx Δ (.d d)) : XV K W (tDGet2 td ty tx) Δ (.d ((getT kp [.inr w, p]).getD d)) := fun σ H j s Q q =>
  h σ H j s _ fun v H1 a f1 e i1 => by
    subst e
    obtain ⟨k, kv, rfl, hk, hd⟩ := i1
    have hk1 := hid_some hk
    refine ⟨k, rfl, .inr ⟨_, .inl hk1.2⟩, hy σ H1 f1.j (s.fr f1) _ fun w2 H2 b f2 e i2 => ?_⟩
    subst e
    refine hx σ H2 f2.j (s.fr (f1.trans f2)) _ fun u H3 c f3 e i3 => ?_
    subst e
    obtain ⟨kb, rfl, hkb⟩ := tk_key (Tk.ext f3.same _ _ i2)
    have hk3 := f3.keep _ _ hk1.1 (f2.keep _ _ hk1.1 hk1.2)
    have F := (f1.trans f2).trans f3
    refine ⟨_, DGet.t hk3 (hid_some hkb).2, ?_⟩
    rcases (DtT.ext (f2.trans f3).same hd).val (k := [.inr w, p]) with ⟨e1, e2⟩ | ⟨v, d', e1, e2, hv⟩
    · rw [e1]
      exact q _ H3 _ F rfl (by rw [e2]; exact i3)
    · rw [e1]
      exact q _ H3 _ F rfl (by rw [e2]; exact hv)
/-- a method of a book that is only read -/
theorem xe_bkMeth {γ : Type} {pre : γ → Wd → List A → Prop} {post : γ → A → Prop} {E : XK} {m : Str} {as : List A} (g : γ) (h : XV K W te Δ (.o (bkV K C s G))) (hm : ∀ t k g, (bkF t k g).lookup m = none) (ha : XAs K W ta Δ as) (p : pre g W (.o (bkV K C s G) :: as)) : XE K W (tMeth C m (spG K pre post) [] E te ta) Δ (post g) := fun σ H j st Q q =>
  h σ H j st _ fun v H1 a f1 e i => by
    subst e
    have i0 := i
    obtain ⟨b, dx, t, k, gg, rfl, hb, h1, h2, h3⟩ := i
    refine ⟨b, dx, _, rfl, (hid_some hb).2, hm t k gg, ha σ H1 f1.j (st.fr f1) _ fun vs H2 as' f2 e i2 => ?_⟩
    subst e
    rw [List.append_nil]
    exact ⟨g, W, _, f2.j, p, .cons (Is.fr f2 i0) i2, fun v H' a f r i => q v H' a ((f1.trans f2).trans f) r i⟩
end
/-! ### a dict whose keys are tuples, made of a tuple of texts -/
section
variable {K : PySem.W.Frag} {W : Wd} {H0 H H' : Hp} {S : Frg} {σ : L2.St} {Δ : Env} {tl : TE}
theorem FX.pre (f : Fr W H0 H) (g : FX W H H' S) : FX W H0 H' S := by
  refine ⟨fun a o n e => g.keep a o n (f.keep a o (fun z => n (.inl z)) e), g.j, fun p hp => ?_, g.nd⟩
  obtain ⟨h1, h2⟩ := g.new p hp
  refine ⟨?_, h2⟩
  cases e : H0 p.1 with
  | none => rfl
  | some o =>
    rw [f.keep _ _ h2 e] at h1
    cases h1
theorem dcT_in {ws : List Str} {a b : Str} {k : Nat} (nd : ws.Nodup) (j : W.J H) (st : StOk K W.M H σ Δ) (h : XV K W tl Δ (.d (.tuple (ws.map PyData.str)))) (small : ws.length ≤ 10000) (hk : k < Δ.length) {Q : VK}
    (q : ∀ D H' kv, FX W H H' [(D, .dT kv)] → DtT K (hid (W.fix [(D, .dT kv)]).M H') kv (ws.map fun w => ([.inr a, .inr w], PyData.tuple [.str b, .str w])) → Q (.ref D) H') :
    tDcT (iTup K tl) (gName k) tYes (tTup (tCons (tC (.str a)) (tCons (tVar k) tNil))) (tTup (tCons (tC (.str b)) (tCons (tVar k) tNil))) [k] σ H Q := by
  refine xi_tup h σ H j st _ fun J H1 n f1 hn w => ?_
  subst hn
  rw [List.length_map] at w
  intro D nD
  have mD : ¬ W.M D := W.fresh f1.j nD
  have lk : k < σ.length := by rw [st.len]; exact hk
  let md : Nat → Kept := fun i => (ws.take i).map fun w => ([.inr a, .inr w], PyData.tuple [.str b, .str w])
  refine ⟨fun i m H2 => m = ws.length - i ∧ i ≤ ws.length ∧ ∃ kv, FX W H1 H2 [(D, .dT kv)] ∧ DtT K (hid (W.fix [(D, .dT kv)]).M H2) kv (md i), ⟨_, rfl, Nat.zero_le _, [], (FX.nil f1.j).cons nD, .nil⟩, ?_⟩
  rintro i m H2 ⟨rfl, hi, kv, fx, hd⟩
  by_cases l : i < ws.length
  · obtain ⟨go, yl⟩ := (w H2 fx.fr i).1 l
    refine .inr ⟨go, fun H3 => ∃ kv, FX W H1 H3 [(D, .dT kv)] ∧ DtT K (hid (W.fix [(D, .dT kv)]).M H3) kv (md (i + 1)), fun H3 r => ⟨_, by omega, rfl, l, r⟩, fun z H3 y => ?_⟩
    obtain ⟨e, c, ⟨d, hc, ec⟩, ia⟩ := yl z H3 y
    subst e
    subst ec
    rw [List.getElem?_map, List.getElem?_eq_getElem l] at hc
    have hc : PyData.str ws[i] = d := Option.some.inj hc
    subst hc
    cases ia
    generalize hw : ws[i] = u at *
    refine ⟨(show ((σ.set k none).set k (some (.str u))).set k none = σ.set k none by rw [List.set_set, List.set_set]), ?_⟩
    unfold tYes
    dsimp only
    rw [if_pos rfl]
    have gk : ((σ.set k none).set k (some (V.str u)))[k]? = some (some (V.str u)) := by rw [List.set_set, List.getElem?_set, if_pos rfl, if_pos lk]
    refine ⟨_, gk, (by decide : 2 ≤ sizeLine), fun c nc => ⟨_, gk, (by decide : 2 ≤ sizeLine), fun z nz => ?_⟩⟩
    have g1 : Fr (W.fix [(D, .dT kv)]) H3 (upd H3 c (.tup [.str a, .str u])) := .new fx.j nc
    have x1 := fx.go g1
    have g2 : Fr (W.fix [(D, .dT kv)]) (upd H3 c (.tup [.str a, .str u])) (upd (upd H3 c (.tup [.str a, .str u])) z (.tup [.str b, .str u])) := .new x1.j nz
    have x2 := x1.go g2
    have cz : c ≠ z := fun e => by rw [← e, upd_same] at nz; cases nz
    have hc5 : (upd (upd H3 c (.tup [.str a, .str u])) z (.tup [.str b, .str u])) c = some (.tup [.str a, .str u]) := by rw [upd_ne cz, upd_same]
    have ll : kv.length = i := by rw [hd.len, List.length_map, List.length_take]; omega
    refine ⟨kv, [.inr a, .inr u], c, rfl, hc5, x2.j.2 _ (.head _), by rw [ll]; exact Nat.lt_of_le_of_lt (Nat.le_trans hi small) (by decide), putK kv [.inr a, .inr u] (.ref z), ?_, ?_⟩
    · have := x2.put (o' := .dT (putK kv [.inr a, .inr u] (.ref z))) (.head _)
      rwa [put_hdN x2.nd] at this
    · have dz : Dt K (hid (W.fix [(D, .dT kv)]).M (upd (upd H3 c (.tup [.str a, .str u])) z (.tup [.str b, .str u]))) (.ref z) (.tuple [.str b, .str u]) := .tup (.inl (.inl (hid_new x1.j nz))) (.cons (.str _) (.cons (.str _) .nil))
      have h1 := DtT.put (k := [.inr a, .inr u]) (hd.ext (g1.trans g2).same) dz
      have h2 := h1.ext (gr_put (W := W) (S := [(D, .dT kv)]) (o' := .dT (putK kv [.inr a, .inr u] (.ref z))) (.head _))
      rw [put_hdN x2.nd] at h2
      have e : md (i + 1) = putT (md i) [.inr a, .inr u] (.tuple [.str b, .str u]) := by
        have nin : u ∉ ws.take i := fun hm => by
          obtain ⟨jj, hj⟩ := List.getElem?_of_mem hm
          rw [List.getElem?_take] at hj
          split at hj
          · rename_i lj
            have h3 : ws[jj]? = ws[i]? := by rw [hj, List.getElem?_eq_getElem l, hw]
            have := (List.getElem?_inj (i := jj) (by omega) nd).mp h3
            omega
          · cases hj
        show (ws.take (i + 1)).map _ = _
        rw [List.take_add_one, List.getElem?_eq_getElem l, hw, List.map_append]
        unfold putT
        rw [if_neg]
        · rfl
        · intro hany
          obtain ⟨p, hp, ep⟩ := List.any_eq_true.mp hany
          obtain ⟨x, hx, rfl⟩ := List.mem_map.mp hp
          have ep : [Sum.inr a, Sum.inr x] = ([Sum.inr a, Sum.inr u] : List Key) := of_decide_eq_true ep
          simp at ep
          exact nin (ep ▸ hx)
      rw [e]
      exact h2
  · obtain rfl : i = ws.length := by omega
    have e : md ws.length = ws.map fun w => ([.inr a, .inr w], PyData.tuple [.str b, .str w]) := by
      show (ws.take ws.length).map _ = _
      rw [List.take_length]
    rw [e] at hd
    exact .inl ⟨(w H2 fx.fr _).2 (Nat.le_refl _), q D H2 kv (FX.pre f1 fx) hd⟩
end
end V2

set_option Elab.async false
set_option linter.all false
set_option maxRecDepth 100000
set_option maxHeartbeats 2000000
namespace V2
open PySem PySem.Spec PyProof.Rows L2
/-! ### what is seen at a known place -/
def atV (x : V) (R : Vis) : Vis := ⟨fun v H => v = x ∧ R.r v H, fun v H H' s h => ⟨h.1, R.ext _ _ _ s h.2⟩⟩
section
variable {K : PySem.W.Frag} {W : Wd} {H0 H H' : Hp} {S S1 : Frg} {σ : L2.St} {Δ Δ' : Env} {te td ty : TE} {ts : TS} {D : Ends} {x : V} {R : Vis} {N : Env → Prop} {Rt : A → Prop}
theorem xe_at (h : XV K W te Δ (.o (atV x R))) : XV K W te Δ (.o R) := fun σ H j st Q q => h σ H j st Q fun v H1 a f e i => by
  subst e
  exact q v H1 _ f rfl i.2
theorem is_at {M : Addr → Prop} {v : V} (h : Is K M H v (.o (atV x R))) : v = x := h.1
/-- a statement over a part of the fragment, the rest seen -/
theorem FS.partS (s : FS K W H0 H σ Δ S) (h1 : ∀ p ∈ S1, p ∈ S) (st' : StOk K (W.fix S1).M H σ Δ') (hx : XS K (W.fix S1) ts Δ' N Rt No No)
    (nx : ∀ σ' H' Δ2, N Δ2 → StOk K (W.fix S1).M H' σ' Δ2 → FX W H0 H' S → Gr W H S H' S → D.nx σ' H') (rt : ∀ v H' a, Rt a → Is K (W.fix S1).M H' v a → FX W H0 H' S → Gr W H S H' S → D.rt v H') : ts D σ H :=
  hx σ H ⟨s.f.j.1, fun p hp => s.f.j.2 p (h1 p hp)⟩ st' D (fun σ' H' Δ2 f s2 n => nx σ' H' Δ2 n s2 (s.f.sub h1 f) (gr_sub h1 f)) (fun v H' a f r i => rt v H' a r i (s.f.sub h1 f) (gr_sub h1 f)) (fun _ _ _ _ _ z => z.elim) fun _ _ _ _ _ z => z.elim
/-- .. what it makes anew joins the whole -/
theorem FX.joinP {S2 : Frg} (f : FX W H0 H S) (h1 : ∀ p ∈ S1, p ∈ S) (g : FX (W.fix S1) H H' S2) : FX W H0 H' (S2 ++ S) := by
  have nn : ∀ p ∈ S2, H p.1 = none := fun p hp => (g.new p hp).1
  have ns : ∀ p ∈ S, ∀ q ∈ S2, q.1 ≠ p.1 := fun p hp q hq e => by
    have a := nn q hq
    rw [e, f.j.2 p hp] at a
    cases a
  have kp : ∀ p ∈ S, H' p.1 = some p.2 := fun p hp => by
    by_cases z : (W.fix S1).M p.1
    · rcases z with z | ⟨r, hr, e⟩
      · exact absurd z (f.new p hp).2
      · have a1 := g.j.1.2 r hr
        have a2 := f.j.2 r (h1 r hr)
        have a3 := f.j.2 p hp
        rw [e] at a1 a2
        rw [a2] at a3
        rw [a1, a3]
    · exact g.keep _ _ (fun w => w.elim z fun ⟨q, hq, e⟩ => ns p hp q hq e) (f.j.2 p hp)
  refine ⟨fun a o n e => ?_, ⟨g.j.1.1, fun p hp => ?_⟩, fun p hp => ?_, ?_⟩
  · rw [fix_app] at n
    refine g.keep a o (fun z => n ?_) (f.keep a o (fun z => n (.inl z)) e)
    rcases z with (z | ⟨q, hq, e⟩) | ⟨q, hq, e⟩
    · exact .inl (.inl z)
    · exact .inl (.inr ⟨q, h1 q hq, e⟩)
    · exact .inr ⟨q, hq, e⟩
  · rcases List.mem_append.mp hp with h | h
    · exact g.j.2 p h
    · exact kp p h
  · rcases List.mem_append.mp hp with h | h
    · obtain ⟨n0, nm⟩ := f.none0 (nn p h)
      exact ⟨n0, fun z => nm (.inl z)⟩
    · exact f.new p h
  · rw [List.map_append, List.nodup_append]
    refine ⟨g.nd, f.nd, fun a ha b hb e => ?_⟩
    obtain ⟨p, hp, rfl⟩ := List.mem_map.mp ha
    obtain ⟨q, hq, rfl⟩ := List.mem_map.mp hb
    exact ns q hq p hp e
end
/-! ### a dict whose keys are texts, its values data -/
abbrev Sdt := List (Str × PyData)
inductive DtS (K : PySem.W.Frag) (H : Hp) : List (Key × V) → Sdt → Prop
  | nil : DtS K H [] []
  | cons {k : Str} {v : V} {d : PyData} {kv : List (Key × V)} {sd : Sdt} : Dt K H v d → DtS K H kv sd → DtS K H ((.inr k, v) :: kv) ((k, d) :: sd)
def getS (sd : Sdt) (k : Str) : Option PyData := (sd.find? fun p => decide (p.1 = k)).map (·.2)
def putD (sd : Sdt) (k : Str) (d : PyData) : Sdt := if (sd.any fun p => decide (p.1 = k)) = true then sd.map (fun p => if p.1 = k then (p.1, d) else p) else sd ++ [(k, d)]
section
variable {K : PySem.W.Frag} {H H' : Hp} {kv : List (Key × V)} {sd : Sdt} {k : Str} {v : V} {d : PyData}
theorem DtS.ext (s : Same H H') (h : DtS K H kv sd) : DtS K H' kv sd := by
  induction h with
  | nil => exact .nil
  | cons h _ ih => exact .cons (Dt.ext s _ _ h) ih
theorem DtS.len (h : DtS K H kv sd) : kv.length = sd.length := by
  induction h with
  | nil => rfl
  | cons _ _ ih => rw [List.length_cons, List.length_cons, ih]
theorem inr_eq {a b : Str} : ((Sum.inr a : Key) = Sum.inr b) ↔ a = b := ⟨Sum.inr.inj, fun e => by rw [e]⟩
theorem DtS.val (h : DtS K H kv sd) : (valV kv (.inr k) = none ∧ getS sd k = none) ∨ ∃ v d, valV kv (.inr k) = some v ∧ getS sd k = some d ∧ Dt K H v d := by
  induction h with
  | nil => exact .inl ⟨rfl, rfl⟩
  | @cons k1 v1 d1 kv1 kp1 hd _ ih =>
    by_cases e : k1 = k
    · exact .inr ⟨v1, d1, by simp [valV, List.find?_cons, e], by simp [getS, List.find?_cons, e], hd⟩
    · have e1 : valV ((.inr k1, v1) :: kv1) (.inr k) = valV kv1 (.inr k) := valV_neg fun z => e (Sum.inr.inj z)
      have e2 : getS ((k1, d1) :: kp1) k = getS kp1 k := by simp [getS, List.find?_cons, e]
      rw [e1, e2]
      exact ih
theorem DtS.any (h : DtS K H kv sd) : (kv.any fun p => decide (p.1 = (.inr k : Key))) = sd.any fun p => decide (p.1 = k) := by
  induction h with
  | nil => rfl
  | @cons k1 v1 d1 kv1 kp1 hd _ ih =>
    rw [List.any_cons, List.any_cons, ih]
    congr 1
    by_cases e : k1 = k
    · rw [decide_eq_true e, decide_eq_true (by rw [e])]
    · rw [decide_eq_false e, decide_eq_false fun z => e (Sum.inr.inj z)]
theorem DtS.snoc (h : DtS K H kv sd) (hd : Dt K H v d) : DtS K H (kv ++ [(.inr k, v)]) (sd ++ [(k, d)]) := by
  induction h with
  | nil => exact .cons hd .nil
  | cons h1 _ ih => exact .cons h1 ih
theorem DtS.put (h : DtS K H kv sd) (hd : Dt K H v d) : DtS K H (putK kv (.inr k) v) (putD sd k d) := by
  unfold putK putD
  rw [h.any]
  by_cases z : (sd.any fun p => decide (p.1 = k)) = true
  · rw [if_pos z, if_pos z]
    clear z
    induction h with
    | nil => exact .nil
    | @cons k1 v1 d1 kv1 kp1 h1 _ ih =>
      rw [List.map_cons, List.map_cons]
      by_cases e : k1 = k
      · rw [if_pos (by rw [e]), if_pos e]
        exact .cons hd ih
      · rw [if_neg fun z => e (Sum.inr.inj z), if_neg e]
        exact .cons h1 ih
  · rw [if_neg z, if_neg z]
    exact h.snoc hd
end
def dictV (K : PySem.W.Frag) (sd : Sdt) : Vis := ⟨fun v H => ∃ a kv, v = .ref a ∧ H a = some (.dK kv) ∧ DtS K H kv sd, fun v H H' s ⟨a, kv, e, h, d⟩ => ⟨a, kv, e, s _ _ h, d.ext s⟩⟩
section
variable {K : PySem.W.Frag} {W : Wd} {H0 H : Hp} {S : Frg} {σ : L2.St} {Δ : Env} {te td ty tv to tk : TE} {ta : TA} {sd : Sdt} {c : Str} {d : PyData} {D : Ends} {t : Addr}
/-- kept[c] -/
theorem xe_dgetS (h : XV K W td Δ (.o (dictV K sd))) (hy : XV K W ty Δ (.d (.str c))) (hd : getS sd c = some d) : XV K W (tDGet td ty) Δ (.d d) := fun σ H j s Q q =>
  h σ H j s _ fun v H1 a f1 e i1 => by
    subst e
    obtain ⟨k, kv, rfl, hk, dt⟩ := i1
    have hk1 := hid_some hk
    refine hy σ H1 f1.j (s.fr f1) _ fun w2 H2 b f2 e i2 => ?_
    subst e
    cases i2
    rcases (DtS.ext f2.same dt).val (k := c) with ⟨e1, e2⟩ | ⟨v, d', e1, e2, hv⟩
    · rw [hd] at e2; cases e2
    · rw [hd] at e2
      cases e2
      have g := DGet.k (k := Sum.inr c) (f2.keep _ _ hk1.1 hk1.2)
      rw [e1] at g
      exact ⟨k, v, rfl, g, q _ H2 _ (f1.trans f2) rfl hv⟩
/-- kept[c] = e, of the fragment -/
theorem fs_dputS {kv : List (Key × V)} (s : FS K W H0 H σ Δ S) (h : (t, HO.dK kv) ∈ S) (l : kv.length < sizeLine) (dt : DtS K (hid (W.fix S).M H) kv sd) (hv : XV K (W.fix S) tv Δ (.d d)) (ho : XV K (W.fix S) to Δ (.v (.ref t))) (hk : XV K (W.fix S) tk Δ (.d (.str c)))
    (q : ∀ H' kv', FS K W H0 H' σ Δ (S.put t (.dK kv')) → Gr W H S H' (S.put t (.dK kv')) → DtS K (hid (W.fix (S.put t (.dK kv'))).M H') kv' (putD sd c d) → D.nx σ H') : sDPut to tk tv D σ H :=
  s.in hv fun u H1 a e s1 g1 i1 => by
    subst e
    refine s1.in ho fun u2 H2 a e s2 g2 i2 => ?_
    subst e
    have e : u2 = .ref t := i2
    subst e
    refine s2.in hk fun u3 H3 a e s3 g3 i3 => ?_
    subst e
    cases i3
    refine ⟨t, _, rfl, DPut.k (k := .inr c) (s3.f.j.2 _ h) l, q _ (putK kv (.inr c) u) (s3.to (s3.f.put h) (gr_put h)) (gr_trans (gr_trans (gr_trans g1 g2) g3) (gr_put h)) ?_⟩
    exact (DtS.put (dt.ext (gr_trans (gr_trans g1 g2) g3)) (Dt.ext (gr_trans g2 g3) _ _ i1)).ext (gr_put h)
/-- isinstance and list of a list of one's own -/
theorem xe_isiO {p : Addr} {vs : List V} {ds : List PyData} {k : Nat} {T : String} {b : Bool} (h : (p, HO.lst vs) ∈ S) (hk : Δ[k]? = some (some (.w (.ref p) vs ds))) (kt : kitB "list" T = some b) : XV K (W.fix S) (tCB (rIsi K) (tCons (tVar k) (tCons (tC (.ty T)) tNil))) Δ (.d (.bool b)) := fun σ H j st Q q => by
  obtain ⟨v0, e0, i0⟩ := st.get k _ hk
  obtain ⟨e, dd⟩ := is_w i0
  subst e
  exact ⟨_, e0, _, _, _, _, b, rfl, .ty T, .base (.lst (j.2 _ h)), kit_ty kt, q _ H _ (.refl j) rfl (.bl _)⟩
theorem xe_lstO {p : Addr} {vs : List V} {ds : List PyData} {k : Nat} (h : (p, HO.lst vs) ∈ S) (hk : Δ[k]? = some (some (.w (.ref p) vs ds))) : XV K (W.fix S) (tCB (rLstOf K) (tCons (tVar k) tNil)) Δ (.d (.list ds)) := fun σ H j st Q q => by
  obtain ⟨v0, e0, i0⟩ := st.get k _ hk
  obtain ⟨e, dd⟩ := is_w i0
  subst e
  exact ⟨_, e0, p, _, rfl, .inl (.inl (.inl (j.2 _ h))), fun l nl => q _ _ _ (.new j nl) rfl (Dt.lst (hid_new j nl) (DtAll.ext (Fr.same (.new j nl)) _ _ dd))⟩
end
end V2

set_option Elab.async false
set_option linter.all false
set_option maxRecDepth 100000
set_option maxHeartbeats 2000000
namespace V2
open PySem PySem.Spec PyProof.Rows L2
/-! ### data stays where only dicts with tuple keys go -/
theorem nd_lst {xs : List V} (kv : List (List Key × V)) : HO.lst xs ≠ .dT kv := fun z => by cases z
theorem nd_tup {xs : List V} (kv : List (List Key × V)) : HO.tup xs ≠ .dT kv := fun z => by cases z
theorem nd_frz {o : Obj} {u : HO} (kv : List (List Key × V)) : HO.frz o u ≠ .dT kv := fun z => by cases z
theorem nd_dK {xs : List (Key × V)} (kv : List (List Key × V)) : HO.dK xs ≠ .dT kv := fun z => by cases z
abbrev SameD (H H' : Hp) : Prop := ∀ a o, (∀ kv, o ≠ HO.dT kv) → H a = some o → H' a = some o
theorem sqT_sameD {K : PySem.W.Frag} {H H' : Hp} (e : SameD H H') {a : Addr} {xs : List V} (h : SqT K H a xs) : SqT K H' a xs := by
  rcases h with (h | ⟨o, h⟩) | h
  · exact .inl (.inl (e _ _ nd_tup h))
  · exact .inl (.inr ⟨o, e _ _ nd_frz h⟩)
  · exact .inr h
section
variable {K : PySem.W.Frag} {H H' : Hp}
mutual
theorem Dt.extD (e : SameD H H') : ∀ (d : PyData) (v : V), Dt K H v d → Dt K H' v d
  | .none, _, .non => .non
  | .bool _, _, .bl b => .bl b
  | .int _, _, .int i => .int i
  | .str _, _, .str x => .str x
  | .list ds, _, .lst h q => .lst (e _ _ nd_lst h) (DtAll.extD e ds _ q)
  | .tuple ds, _, .tup h q => .tup (sqT_sameD e h) (DtAll.extD e ds _ q)
  | .dict ds, _, .dct h q => .dct (e _ _ nd_dK h) (DtKv.extD e ds _ q)
theorem DtAll.extD (e : SameD H H') : ∀ (ds : List PyData) (vs : List V), DtAll K H vs ds → DtAll K H' vs ds
  | [], _, .nil => .nil
  | d :: ds, _, .cons h q => .cons (Dt.extD e d _ h) (DtAll.extD e ds _ q)
theorem DtKv.extD (e : SameD H H') : ∀ (ds : List (PyData × PyData)) (vs : List (Key × V)), DtKv K H vs ds → DtKv K H' vs ds
  | [], _, .nil => .nil
  | _ :: ds, _, .cons h q => .cons (Dt.extD e _ _ h) (DtKv.extD e ds _ q)
end
mutual
theorem Tk.extD (e : SameD H H') : ∀ (d : PyData) (v : V), Tk H v d → Tk H' v d
  | .none, _, .non => .non
  | .bool _, _, .bl b => .bl b
  | .int _, _, .int i => .int i
  | .str _, _, .str x => .str x
  | .list ds, _, .lst h q => .lst (e _ _ nd_lst h) (TkAll.extD e ds _ q)
  | .tuple ds, _, .tup h q => .tup (e _ _ nd_tup h) (TkAll.extD e ds _ q)
theorem TkAll.extD (e : SameD H H') : ∀ (ds : List PyData) (vs : List V), TkAll H vs ds → TkAll H' vs ds
  | [], _, .nil => .nil
  | d :: ds, _, .cons h q => .cons (Tk.extD e d _ h) (TkAll.extD e ds _ q)
end
theorem DtT.extD {kv : List (List Key × V)} {kp : Kept} (e : SameD H H') (h : DtT K H kv kp) : DtT K H' kv kp := by
  induction h with
  | nil => exact .nil
  | cons h _ ih => exact .cons (Dt.extD e _ _ h) ih
end
theorem SameD.of {H H' : Hp} (s : Same H H') : SameD H H' := fun a o _ e => s a o e
/-! ### a dict with tuple keys that is locked for a walk -/
section
variable {K : PySem.W.Frag} {W : Wd} {H0 H H' : Hp} {S S' : Frg} {o : Addr} {u : HO} {od : Obj}
abbrev lockT (o : Addr) (od : Obj) (u : HO) : Frg := [(o, .frz od u)]
abbrev memS (S : Frg) : Addr → Prop := fun a => ∃ p ∈ S, p.1 = a
theorem lock_fx (f : FX W H0 H S) (ho : hid (W.fix S).M H o = some u) : FX (W.fix (lockT o od u)) (hid (memS S) (upd H o (.frz od u))) (upd H o (.frz od u)) S := by
  obtain ⟨nM, hH⟩ := hid_some ho
  refine ⟨fun a c _ e => hid_le a c e, ⟨⟨W.loc H _ (fun a m => upd_ne fun z => nM (.inl (z ▸ m))) f.j.1, fun p hp => by rw [List.mem_singleton.mp hp]; exact upd_same⟩, fun p hp => ?_⟩, fun p hp => ⟨hid_in ⟨p, hp, rfl⟩, ?_⟩, f.nd⟩
  · rw [upd_ne fun z => nM (.inr ⟨p, hp, z⟩)]
    exact f.j.2 p hp
  · rintro (z | ⟨q, hq, e⟩)
    · exact (f.new p hp).2 z
    · rw [List.mem_singleton.mp hq] at e
      exact nM (.inr ⟨p, hp, e.symm⟩)
theorem unlock_fx (f : FX W H0 H S) (ho : hid (W.fix S).M H o = some u) (g : FX (W.fix (lockT o od u)) (hid (memS S) (upd H o (.frz od u))) H' S') : H' o = some (.frz od u) ∧ FX W H0 (upd H' o u) S' ∧ Gr W H S (upd H' o u) S' := by
  obtain ⟨nM, hH⟩ := hid_some ho
  have nS' : ∀ p ∈ S', p.1 ≠ o := fun p hp z => (g.new p hp).2 (.inr ⟨_, .head _, z.symm⟩)
  have stays : ∀ a c, a ≠ o → ¬ (W.fix S').M a → ¬ (W.fix S).M a → H a = some c → H' a = some c := fun a c ne n1 n2 e => by
    refine g.keep a c ?_ (by rw [hid_out fun z => n2 (.inr z), upd_ne ne]; exact e)
    rintro ((z | ⟨q, hq, e⟩) | z)
    · exact n1 (.inl z)
    · rw [List.mem_singleton.mp hq] at e
      exact ne e.symm
    · exact n1 (.inr z)
  have newS : ∀ p ∈ S', ∀ c, ¬ (W.fix S).M p.1 → H p.1 = some c → False := fun p hp c n2 e => by
    have h := (g.new p hp).1
    rw [hid_out fun z => n2 (.inr z), upd_ne (nS' p hp), e] at h
    cases h
  have n0 : ∀ a c, H0 a = some c → ¬ W.M a → ¬ (W.fix S).M a := fun a c e nm => by
    rintro (z | ⟨p, hp, q⟩)
    · exact nm z
    · have := (f.new p hp).1
      rw [q, e] at this
      cases this
  refine ⟨g.j.1.2 _ (.head _), ⟨fun a c n e => ?_, ⟨W.loc H' _ (fun a m => upd_ne fun z => nM (.inl (z ▸ m))) g.j.1.1, fun p hp => ?_⟩, fun p hp => ⟨?_, fun z => (g.new p hp).2 (.inl z)⟩, g.nd⟩, fun a c e => ?_⟩
  · have n2 := n0 a c e fun z => n (.inl z)
    have e2 := f.keep a c n2 e
    by_cases z : a = o
    · subst z
      rw [hH] at e2
      rw [upd_same]
      exact e2
    · rw [upd_ne z]
      exact stays a c z n n2 e2
  · rw [upd_ne (nS' p hp)]
    exact g.j.2 p hp
  · cases e : H0 p.1 with
    | none => rfl
    | some c =>
      have nm : ¬ W.M p.1 := fun z => (g.new p hp).2 (.inl z)
      have n2 := n0 _ c e nm
      exact (newS p hp c n2 (f.keep _ _ n2 e)).elim
  · obtain ⟨n2, e2⟩ := hid_some e
    have n3 : ¬ (W.fix S').M a := by
      rintro (z | ⟨p, hp, q⟩)
      · exact n2 (.inl z)
      · subst q
        exact newS p hp c n2 e2
    rw [hid_out n3]
    by_cases z : a = o
    · subst z
      rw [hH] at e2
      rw [upd_same]
      exact e2
    · rw [upd_ne z]
      exact stays a c z n3 n2 e2
/-- what is seen ahead of the lock, dicts with tuple keys aside, is seen within -/
theorem lock_same {kv : List (List Key × V)} (ho : hid (W.fix S).M H o = some (.dT kv)) : SameD (hid (W.fix S).M H) (hid ((W.fix (lockT o od (.dT kv))).fix S).M (upd H o (.frz od (.dT kv)))) := fun a c nd e => by
  obtain ⟨n2, e2⟩ := hid_some e
  have ne : a ≠ o := fun z => by
    subst z
    rw [(hid_some ho).2] at e2
    cases e2
    exact nd kv rfl
  rw [hid_out, upd_ne ne]
  · exact e2
  · rintro ((z | ⟨q, hq, e⟩) | z)
    · exact n2 (.inl z)
    · rw [List.mem_singleton.mp hq] at e
      exact ne e.symm
    · exact n2 (.inr z)
/-- what is seen within is seen behind it -/
theorem unlock_same (nS : ∀ p ∈ S', p.1 ≠ o) : Same (hid ((W.fix (lockT o od u)).fix S').M H') (hid (W.fix S').M (upd H' o u)) := fun a c e => by
  obtain ⟨n2, e2⟩ := hid_some e
  rw [hid_out fun z => n2 (z.elim (fun z => .inl (.inl z)) .inr), upd_ne fun z => n2 (.inl (.inr ⟨_, .head _, z.symm⟩))]
  exact e2
end
/-! ### worlds that hide no tuple -/
def NoTup (W : Wd) : Prop := ∀ H a xs, W.J H → W.M a → H a ≠ some (.tup xs)
def NoTupS (S : Frg) : Prop := ∀ p ∈ S, ∀ xs, p.2 ≠ .tup xs
theorem NoTup.fix {W : Wd} {S : Frg} (h : NoTup W) (s : NoTupS S) : NoTup (W.fix S) := fun H a xs j m e => by
  rcases m with m | ⟨p, hp, q⟩
  · exact h H a xs j.1 m e
  · rw [← q, j.2 p hp] at e
    exact s p hp xs (Option.some.inj e)
theorem NoTup.add {W : Wd} {D : Addr} {φ : HO → Prop} (h : NoTup W) (s : ∀ xs, ¬ φ (.tup xs)) : NoTup (W.add D φ) := fun H a xs j m e => by
  rcases m with m | m
  · exact h H a xs j.1 m e
  · obtain ⟨u, hu, pu⟩ := j.2
    rw [← m, e] at hu
    cases hu
    exact s xs pu
theorem NoTup.see {W : Wd} {H : Hp} {a : Addr} {xs : List V} (h : NoTup W) (j : W.J H) (e : H a = some (.tup xs)) : hid W.M H a = some (.tup xs) := by
  rw [hid_out fun m => h H a xs j m e]
  exact e
/-- a key that a dict keeps, as a key that is seen -/
theorem tk_of {H : Hp} {q : Addr} {w : Str} {p : Key} (h : H q = some (.tup (([.inr w, p] : List Key).map kV))) : Tk H (.ref q) (kD2 w p) := by
  cases p with
  | inl i => exact .tup h (.cons (.str w) (.cons (.int i) .nil))
  | inr c => exact .tup h (.cons (.str w) (.cons (.str c) .nil))
/-! ### groups that are seen -/
structure Grp where
  w : Str
  olds : Kept
  left : List PyData
def grF (w : Str) (o l : Addr) : List (Str × V) := [("word", .str w), ("olds", .ref o), ("left", .ref l)]
def grV (K : PySem.W.Frag) (C : Addr) (x : Grp) : Vis :=
  ⟨fun v H => ∃ b dx o l, v = .ref b ∧ H b = some (.ins C dx (grF x.w o l)) ∧ (keptV K x.olds).r (.ref o) H ∧ Dt K H (.ref l) (.list x.left),
   fun v H H' s ⟨b, dx, o, l, e, h, h1, h2⟩ => ⟨b, dx, o, l, e, s _ _ h, (keptV K _).ext _ _ _ s h1, Dt.ext s _ _ h2⟩⟩
inductive GrAll (K : PySem.W.Frag) (C : Addr) (H : Hp) : List V → List Grp → Prop
  | nil : GrAll K C H [] []
  | cons {v : V} {vs : List V} {x : Grp} {xs : List Grp} : (grV K C x).r v H → GrAll K C H vs xs → GrAll K C H (v :: vs) (x :: xs)
section
variable {K : PySem.W.Frag} {C : Addr} {H H' : Hp} {vs ws : List V} {xs ys : List Grp} {v : V} {x : Grp} {i : Nat}
theorem GrAll.ext (s : Same H H') (h : GrAll K C H vs xs) : GrAll K C H' vs xs := by
  induction h with
  | nil => exact .nil
  | cons h _ ih => exact .cons ((grV K C _).ext _ _ _ s h) ih
theorem GrAll.len (h : GrAll K C H vs xs) : vs.length = xs.length := by
  induction h with
  | nil => rfl
  | cons _ _ ih => rw [List.length_cons, List.length_cons, ih]
theorem GrAll.snoc (h : GrAll K C H vs xs) (hx : (grV K C x).r v H) : GrAll K C H (vs ++ [v]) (xs ++ [x]) := by
  induction h with
  | nil => exact .cons hx .nil
  | cons h1 _ ih => exact .cons h1 ih
theorem GrAll.get (h : GrAll K C H vs xs) : ∀ {i : Nat} {x : Grp}, xs[i]? = some x → ∃ v, vs[i]? = some v ∧ (grV K C x).r v H := by
  induction h with
  | nil => exact fun e => nomatch e
  | @cons v vs y ys hv _ ih =>
    intro i x e
    cases i with
    | zero => cases e; exact ⟨v, rfl, hv⟩
    | succ i => exact ih e
theorem GrAll.last (h : GrAll K C H vs (xs ++ [x])) : ∃ us u, vs = us ++ [u] ∧ GrAll K C H us xs ∧ (grV K C x).r u H := by
  induction xs generalizing vs with
  | nil =>
    cases h with
    | cons h t => cases t; exact ⟨[], _, rfl, .nil, h⟩
  | cons y ys ih =>
    cases h with
    | cons h t =>
      obtain ⟨us, u, e, t1, t2⟩ := ih t
      exact ⟨_ :: us, u, by rw [e]; rfl, .cons h t1, t2⟩
theorem GrAll.set (h : GrAll K C H vs xs) (hx : (grV K C x).r v H) : ∀ {i : Nat}, GrAll K C H (vs.set i v) (xs.set i x) := by
  induction h with
  | nil => exact .nil
  | cons h1 t ih =>
    intro i
    cases i with
    | zero => exact .cons hx t
    | succ i => exact .cons h1 ih
end
def grsV (K : PySem.W.Frag) (C : Addr) (xs : List Grp) : Vis := ⟨fun v H => ∃ g gv, v = .ref g ∧ H g = some (.lst gv) ∧ GrAll K C H gv xs, fun v H H' s ⟨g, gv, e, h, t⟩ => ⟨g, gv, e, s _ _ h, t.ext s⟩⟩
section
variable {K : PySem.W.Frag} {W : Wd} {Δ : Env} {C : Addr} {x : Grp} {te td ty : TE} {ta : TA} {kp : Kept} {w : Str} {p : Key} {d : PyData} {xs : List Grp}
theorem xe_grWord (c : Cls K C) (n : NoAttr K C "word") (h : XV K W te Δ (.o (grV K C x))) : XV K W (tFld K te "word") Δ (.d (.str x.w)) := fun σ H j st Q q =>
  h σ H j st _ fun v H1 a f e i => by
    subst e
    obtain ⟨b, dx, o, l, rfl, hb, h1, h2⟩ := i
    exact ⟨b, C, dx, _, _, rfl, (hid_some hb).2, c, n, rfl, q _ H1 _ f rfl (.str _)⟩
theorem xe_grOlds (c : Cls K C) (n : NoAttr K C "olds") (h : XV K W te Δ (.o (grV K C x))) : XV K W (tFld K te "olds") Δ (.o (keptV K x.olds)) := fun σ H j st Q q =>
  h σ H j st _ fun v H1 a f e i => by
    subst e
    obtain ⟨b, dx, o, l, rfl, hb, h1, h2⟩ := i
    exact ⟨b, C, dx, _, _, rfl, (hid_some hb).2, c, n, rfl, q _ H1 _ f rfl h1⟩
theorem xe_grLeft (c : Cls K C) (n : NoAttr K C "left") (h : XV K W te Δ (.o (grV K C x))) : XV K W (tFld K te "left") Δ (.d (.list x.left)) := fun σ H j st Q q =>
  h σ H j st _ fun v H1 a f e i => by
    subst e
    obtain ⟨b, dx, o, l, rfl, hb, h1, h2⟩ := i
    exact ⟨b, C, dx, _, _, rfl, (hid_some hb).2, c, n, rfl, q _ H1 _ f rfl h2⟩
theorem keptIn_core {H : Hp} {M : Addr → Prop} {v u : V} (h : (keptV K kp).r v (hid M H)) (hk : Tk (hid M H) u (kD2 w p)) : ∃ a o, v = .ref a ∧ DGet H a u o ∧ o.isSome = (getT kp [.inr w, p]).isSome := by
  obtain ⟨k, kv, rfl, hk1, dt⟩ := h
  obtain ⟨kb, rfl, hkb⟩ := tk_key hk
  refine ⟨k, _, rfl, DGet.t (hid_some hk1).2 (hid_some hkb).2, ?_⟩
  rcases dt.val (k := [.inr w, p]) with ⟨e1, e2⟩ | ⟨v, d', e1, e2, _⟩
  · rw [e1, e2]; rfl
  · rw [e1, e2]; rfl
/-- key in kept -/
theorem xe_keptIn (hy : XV K W ty Δ (.t (kD2 w p))) (h : XV K W td Δ (.o (keptV K kp))) : XV K W (tDIn ty td) Δ (.d (.bool (getT kp [.inr w, p]).isSome)) := fun σ H j s Q q =>
  hy σ H j s _ fun u H1 a f1 e i1 => by
    subst e
    refine h σ H1 f1.j (s.fr f1) _ fun v H2 b f2 e i2 => ?_
    subst e
    obtain ⟨a, o, e, g, eo⟩ := keptIn_core i2 (Tk.ext f2.same _ _ i1)
    exact ⟨a, o, e, g, by rw [eo]; exact q _ H2 _ (f1.trans f2) rfl (.bl _)⟩
/-- key not in kept -/
theorem xe_keptNotIn (hy : XV K W ty Δ (.t (kD2 w p))) (h : XV K W td Δ (.o (keptV K kp))) : XV K W (tDNotIn ty td) Δ (.d (.bool (!(getT kp [.inr w, p]).isSome))) := fun σ H j s Q q =>
  hy σ H j s _ fun u H1 a f1 e i1 => by
    subst e
    refine h σ H1 f1.j (s.fr f1) _ fun v H2 b f2 e i2 => ?_
    subst e
    obtain ⟨a, o, e, g, eo⟩ := keptIn_core i2 (Tk.ext f2.same _ _ i1)
    exact ⟨a, o, e, g, by rw [eo]; exact q _ H2 _ (f1.trans f2) rfl (.bl _)⟩
/-- kept[key] -/
theorem xe_keptAt (h : XV K W td Δ (.o (keptV K kp))) (hy : XV K W ty Δ (.t (kD2 w p))) (hd : getT kp [.inr w, p] = some d) : XV K W (tDGet td ty) Δ (.d d) := fun σ H j s Q q =>
  h σ H j s _ fun v H1 a f1 e i1 => by
    subst e
    refine hy σ H1 f1.j (s.fr f1) _ fun u H2 b f2 e i2 => ?_
    subst e
    obtain ⟨k, kv, rfl, hk1, dt⟩ := (keptV K kp).ext _ _ _ f2.same i1
    obtain ⟨kb, rfl, hkb⟩ := tk_key i2
    rcases dt.val (k := [.inr w, p]) with ⟨e1, e2⟩ | ⟨v, d', e1, e2, hv⟩
    · rw [hd] at e2; cases e2
    · rw [hd] at e2
      cases e2
      have g := DGet.t (hid_some hk1).2 (hid_some hkb).2
      rw [e1] at g
      exact ⟨k, v, rfl, g, q _ H2 _ (f1.trans f2) rfl hv⟩
/-- {}, whose keys are to be tuples -/
theorem xe_dnewT : XV K W tDNewT Δ (.o (keptV K [])) := fun σ H j st Q q => fun p np => q _ _ _ (.new j np) rfl ⟨p, [], rfl, hid_new j np, .nil⟩
theorem cx_lenGs : CX1 K W (rLen K) [.o (grsV K C xs)] (· = .d (.int xs.length)) := fun vs H j i Q q => by
  cases i with
  | cons h t =>
    cases t
    obtain ⟨g, gv, rfl, hg, ga⟩ := h
    exact ⟨g, gv, rfl, .inl (.inl (.inl (hid_some hg).2)), by rw [ga.len]; exact q _ H _ (.refl j) rfl (.int _)⟩
/-- Group(word, olds, left) -/
def spIniG (K : PySem.W.Frag) (C : Addr) : Sp := fun us H Q _ => ∃ (b dx : Addr) (w o l : V), us = [.ref b, w, o, l] ∧ H b = some (.ins C dx []) ∧ Q .non (upd H b (.ins C dx [("word", w), ("olds", o), ("left", l)]))
theorem xe_mkGr {E : XK} {ds : List PyData} (ha : XAs K W ta Δ [.d (.str w), .o (keptV K kp), .d (.list ds)]) : XV K W (tMake C (spIniG K C) [] E ta) Δ (.o (grV K C ⟨w, kp, ds⟩)) := fun σ H j st Q q =>
  ha σ H j st _ fun us H1 as f1 e i => by
    subst e
    cases i with
    | cons i1 i =>
      cases i with
      | cons i2 i =>
        cases i with
        | cons i3 i =>
          cases i
          cases i1
          obtain ⟨o, kv, rfl, ho, dk⟩ := i2
          cases i3 with
          | lst hl dl =>
            rename_i l vs
            intro x dx nx ndx ne
            have f2 : Fr W H1 (upd H1 dx (.own x)) := .new f1.j ndx
            have nx1 : (upd H1 dx (.own x)) x = none := by rw [upd_ne ne.symm]; exact nx
            refine ⟨x, dx, _, _, _, rfl, upd_same, rfl, ?_⟩
            rw [upd_upd]
            have f3 : Fr W (upd H1 dx (.own x)) (upd (upd H1 dx (.own x)) x (.ins C dx (grF w o l))) := .new f2.j nx1
            have sm := (f2.trans f3).same
            exact q _ _ _ ((f1.trans f2).trans f3) rfl ⟨x, dx, o, _, rfl, hid_new f2.j nx1, (keptV K kp).ext _ _ _ sm ⟨o, kv, rfl, ho, dk⟩, Dt.ext sm _ _ (.lst hl dl)⟩
end
/-! ### a copy of what a group gives back, some keys left out -/
def onlyT (Δ : Env) : Env := Δ.map fun | some (.t d) => some (.t d) | _ => none
theorem stOk_onlyT {K : PySem.W.Frag} {M M' : Addr → Prop} {H H' : Hp} {σ : L2.St} {Δ : Env} (st : StOk K M H σ Δ) (s : SameD (hid M H) (hid M' H')) : StOk K M' H' σ (onlyT Δ) := by
  refine ⟨by unfold onlyT; rw [List.length_map]; exact st.len, fun i a e => ?_⟩
  unfold onlyT at e
  rw [List.getElem?_map] at e
  cases h : Δ[i]? with
  | none => rw [h] at e; cases e
  | some b =>
    rw [h] at e
    match b, h, e with
    | some (.t d), h, e =>
      cases e
      obtain ⟨v, h1, h2⟩ := st.get i _ h
      exact ⟨v, h1, Tk.extD s _ _ h2⟩
def shp (d : PyData) : Prop := d.hasDict = false ∧ SeqAt.shaped d = true
def KeysOk (kp : Kept) : Prop := (kp.map (·.1)).Nodup ∧ ∀ q ∈ kp, ∃ w p, q.1 = ([.inr w, p] : List Key) ∧ shp (kD2 w p)
theorem kD2_eqv (w w' : Str) (p p' : Key) : PyData.eqv (kD2 w p) (kD2 w' p') = decide (([.inr w, p] : List Key) = [.inr w', p']) := by
  have e : decide (([Sum.inr w, p] : List Key) = [Sum.inr w', p']) = (decide (w = w') && decide (p = p')) := by
    by_cases a : w = w' <;> by_cases b : p = p' <;> simp [a, b]
  rw [e]
  cases p <;> cases p' <;> simp [kD2, keyD, PyData.eqv, PyData.eqvAll] <;> rw [Bool.eq_iff_iff] <;> simp
theorem valV_at {κ : Type} [DecidableEq κ] : ∀ {kvs : List (κ × V)} {i : Nat} {k : κ} {v : V}, (kvs.map (·.1)).Nodup → kvs[i]? = some (k, v) → valV kvs k = some v
  | [], i, k, v, _, e => nomatch e
  | p :: r, i, k, v, nd, e => by
    rw [List.map_cons, List.nodup_cons] at nd
    cases i with
    | zero => cases e; simp [valV]
    | succ i =>
      have e : r[i]? = some (k, v) := e
      have ne : ¬ p.1 = k := fun z => nd.1 (List.mem_map.mpr ⟨(k, v), List.mem_of_getElem? e, z.symm⟩)
      have h : valV (p :: r) k = valV r k := by simp [valV, List.find?_cons, ne]
      rw [h]
      exact valV_at nd.2 e
theorem DtT.get {K : PySem.W.Frag} {H : Hp} {kv : List (List Key × V)} {kp : Kept} (h : DtT K H kv kp) : ∀ {i : Nat} {k : List Key} {v : V}, kv[i]? = some (k, v) → ∃ d, kp[i]? = some (k, d) ∧ Dt K H v d := by
  induction h with
  | nil => exact fun e => nomatch e
  | cons hd _ ih =>
    intro i k v e
    cases i with
    | zero => cases e; exact ⟨_, rfl, hd⟩
    | succ i => exact ih e
theorem DtT.keys {K : PySem.W.Frag} {H : Hp} {kv : List (List Key × V)} {kp : Kept} (h : DtT K H kv kp) : kv.map (·.1) = kp.map (·.1) := by
  induction h with
  | nil => rfl
  | cons _ _ ih => rw [List.map_cons, List.map_cons, ih]
theorem putT_new {kp : Kept} {k : List Key} {d : PyData} (h : ∀ q ∈ kp, q.1 ≠ k) : putT kp k d = kp ++ [(k, d)] := by
  unfold putT
  rw [if_neg]
  intro z
  obtain ⟨q, hq, e⟩ := List.any_eq_true.mp z
  exact h q hq (of_decide_eq_true e)
theorem FX.seen {W : Wd} {H0 H : Hp} {S : Frg} (f : FX W H0 H S) : Same (hid W.M H0) (hid (W.fix S).M H) := fun a c e => by
  obtain ⟨n, e⟩ := hid_some e
  have n2 : ¬ (W.fix S).M a := by
    rintro (z | ⟨p, hp, q⟩)
    · exact n z
    · have := (f.new p hp).1
      rw [q, e] at this
      cases this
  rw [hid_out n2]
  exact f.keep a c n2 e
theorem hid_memS_nil {H : Hp} : hid (memS []) H = H := by
  funext a
  exact hid_out fun ⟨_, h, _⟩ => nomatch h
section
variable {K : PySem.W.Frag} {W : Wd} {H0 H H' : Hp} {S : Frg} {σ : L2.St} {Δ : Env} {C : Addr}
theorem dcO_in {x : Grp} {i0 k : Nat} {tt : TT} {f : List Key → Bool} (hn : NoTup W) (c : Cls K C) (n : NoAttr K C "olds") (j : W.J H) (st : StOk K W.M H σ Δ) (e0 : Δ[i0]? = some (some (.o (grV K C x)))) (ko : KeysOk x.olds) (small : x.olds.length ≤ 10000) (hk : k < Δ.length) (ik : k ≠ i0)
    (ht : ∀ (W2 : Wd) (b : Addr) (w : Str) (p : Key), shp (kD2 w p) → XT K W2 tt ((((onlyT Δ).set i0 (some (.v (.ref b)))).set k none).set k (some (.t (kD2 w p)))) (· = f [.inr w, p])) {Q : VK}
    (q : ∀ D H' kv, FX W H H' [(D, .dT kv)] → DtT K (hid (W.fix [(D, .dT kv)]).M H') kv (x.olds.filter fun q => f q.1) → Q (.ref D) H') :
    tLockE (tDcT (iKeys (tFld K (tVar i0) "olds")) (gName k) tt (tVar k) (tDGet (tFld K (tVar i0) "olds") (tVar k)) [k]) σ H Q := by
  obtain ⟨v0, g0, z0⟩ := st.get i0 _ e0
  obtain ⟨b, dx, o, l, rfl, hb, ⟨o', kv, eo, ho, dk⟩, _⟩ := z0
  cases eo
  have lk : k < σ.length := by rw [st.len]; exact hk
  refine ⟨o, .dT kv, (hid_some ho).2, trivial, fun od => ?_⟩
  have f0 : FX W H H [] := FX.nil j
  have ho' : hid (W.fix []).M H o = some (.dT kv) := same_nil _ _ ho
  have lf := lock_fx (od := od) f0 ho'
  rw [hid_memS_nil] at lf
  let L := lockT o od (.dT kv)
  have j1 : (W.fix L).J (upd H o (.frz od (.dT kv))) := lf.j.1
  have sl : SameD (hid W.M H) (hid (W.fix L).M (upd H o (.frz od (.dT kv)))) := fun a c nd e => same_out _ _ (lock_same (od := od) (S := []) ho' a c nd (same_nil _ _ e))
  have bo : b ≠ o := fun z => by rw [z, ho] at hb; cases hb
  have hb1 := (hid_some (sl b _ (fun kv z => by cases z) hb))
  refine ⟨_, g0, b, C, dx, _, _, rfl, hb1.2, c, n, rfl, o, od, rfl, .inr ⟨kv, upd_same, ?_⟩⟩
  intro D nD
  let md : Nat → Kept := fun i => (x.olds.take i).filter fun q => f q.1
  have ll : kv.length = x.olds.length := dk.len
  refine ⟨fun i m H2 => m = kv.length - i ∧ i ≤ kv.length ∧ ∃ kv', FX (W.fix L) (upd H o (.frz od (.dT kv))) H2 [(D, .dT kv')] ∧ DtT K (hid ((W.fix L).fix [(D, .dT kv')]).M H2) kv' (md i), ⟨_, rfl, Nat.zero_le _, [], (FX.nil j1).cons nD, .nil⟩, ?_⟩
  rintro i m H2 ⟨rfl, hi, kv', fx, hd⟩
  have fo : H2 o = some (.frz od (.dT kv)) := fx.j.1.2 _ (.head _)
  by_cases li : i < kv.length
  · refine .inr ⟨⟨fo, li⟩, fun H3 => ∃ kv', FX (W.fix L) (upd H o (.frz od (.dT kv))) H3 [(D, .dT kv')] ∧ DtT K (hid ((W.fix L).fix [(D, .dT kv')]).M H3) kv' (md (i + 1)), fun H3 r => ⟨_, by omega, rfl, li, r⟩, ?_⟩
    rintro y H3 ⟨e3, kk, v, qa, hkv, rfl, hq⟩
    subst e3
    obtain ⟨d, hd', dv⟩ := dk.get hkv
    obtain ⟨w, p, ek, esh⟩ := ko.2 _ (List.mem_of_getElem? hd')
    dsimp only at ek
    subst ek
    refine ⟨(show ((σ.set k none).set k (some (.ref qa))).set k none = σ.set k none by rw [List.set_set, List.set_set]), ?_⟩
    have nt : NoTup ((W.fix L).fix [(D, .dT kv')]) := (hn.fix fun p hp xs z => by rw [List.mem_singleton.mp hp] at z; cases z).fix fun p hp xs z => by rw [List.mem_singleton.mp hp] at z; cases z
    have vq := nt.see fx.j hq
    have sH : SameD (hid W.M H) (hid ((W.fix L).fix [(D, .dT kv')]).M H3) := fun a c nd e => fx.seen _ _ (sl a c nd e)
    have stk := (((stOk_onlyT st sH).setSelf (k := i0) (a := .v (.ref b)) g0 rfl).unset k none).set (a := .t (kD2 w p)) k (v := .ref qa) (tk_of vq)
    refine ht _ b w p esh _ _ fx.j stk _ fun c2 H4 f4 ec => ?_
    subst ec
    have fx4 := fx.go f4
    have hd4 := hd.ext f4.same
    have hq4 : H4 qa = some (.tup (([.inr w, p] : List Key).map kV)) := f4.keep _ _ (hid_some vq).1 hq
    have tk1 : x.olds.take (i + 1) = x.olds.take i ++ [([.inr w, p], d)] := by rw [List.take_add_one, hd']; rfl
    cases hf : f [.inr w, p] with
    | false =>
      rw [if_neg (by decide)]
      refine ⟨kv', fx4, ?_⟩
      have e : md (i + 1) = md i := by
        show (x.olds.take (i + 1)).filter _ = _
        rw [tk1, List.filter_append, List.filter_cons_of_neg (by rw [hf]; decide)]
        simp [md]
      rw [e]
      exact hd4
    | true =>
      rw [if_pos rfl]
      have gk : ((σ.set k none).set k (some (V.ref qa)))[k]? = some (some (V.ref qa)) := by rw [List.set_set, List.getElem?_set, if_pos rfl, if_pos lk]
      have gi : ((σ.set k none).set k (some (V.ref qa)))[i0]? = some (some (V.ref b)) := by rw [List.set_set, List.getElem?_set_ne ik]; exact g0
      have nb : ¬ ((W.fix L).fix [(D, .dT kv')]).M b := (hid_some (sH b _ (fun kv z => by cases z) hb)).1
      have hb3 : H4 b = some (.ins C dx (grF x.w o l)) := f4.keep _ _ nb (hid_some (sH b _ (fun kv z => by cases z) hb)).2
      have hv : valV kv [.inr w, p] = some v := valV_at (by rw [dk.keys]; exact ko.1) hkv
      have lkv : kv'.length ≤ 10000 := by
        rw [hd.len]
        exact Nat.le_trans (List.length_filter_le _ _) (Nat.le_trans (by rw [List.length_take]; omega) small)
      refine ⟨_, gk, _, gi, b, C, dx, _, _, rfl, hb3, c, n, rfl, _, gk, o, v, rfl, .inr ⟨kv, _, qa, .inr ⟨od, fx4.j.1.2 _ (.head _)⟩, rfl, hq4, hv.symm⟩, kv', [.inr w, p], qa, rfl, hq4, fx4.j.2 _ (.head _), Nat.lt_of_le_of_lt lkv (by decide), putK kv' [.inr w, p] v, ?_, ?_⟩
      · have := fx4.put (o' := .dT (putK kv' [.inr w, p] v)) (.head _)
        rwa [put_hdN fx4.nd] at this
      · have h1 := DtT.put (k := [.inr w, p]) hd4 (Dt.ext f4.same _ _ (Dt.extD sH _ _ dv))
        have h2 := h1.ext (gr_put (W := W.fix L) (S := [(D, .dT kv')]) (o' := .dT (putK kv' [.inr w, p] v)) (.head _))
        rw [put_hdN fx4.nd] at h2
        have e : md (i + 1) = putT (md i) [.inr w, p] d := by
          rw [putT_new]
          · show (x.olds.take (i + 1)).filter _ = _
            rw [tk1, List.filter_append, List.filter_cons_of_pos (by rw [hf])]
            rfl
          · intro r hr e
            obtain ⟨jj, hj⟩ := List.getElem?_of_mem (List.mem_filter.mp hr).1
            rw [List.getElem?_take] at hj
            split at hj
            · rename_i lj
              have h3 : (x.olds.map (·.1))[jj]? = (x.olds.map (·.1))[i]? := by rw [List.getElem?_map, List.getElem?_map, hj, hd', Option.map_some, Option.map_some, e]
              have := (List.getElem?_inj (i := jj) (by rw [List.length_map]; omega) ko.1).mp h3
              omega
            · cases hj
        rw [e]
        exact h2
  · obtain rfl : i = kv.length := by omega
    refine .inl ⟨⟨fo, Nat.le_refl _⟩, ?_⟩
    have u := unlock_fx (od := od) f0 ho' (by rw [hid_memS_nil]; exact fx)
    have nD' : ∀ p ∈ [(D, HO.dT kv')], p.1 ≠ o := fun p hp z => (fx.new p hp).2 (.inr ⟨_, .head _, z.symm⟩)
    have e : md kv.length = x.olds.filter fun q => f q.1 := by
      show (x.olds.take kv.length).filter _ = _
      rw [ll, List.take_length]
    rw [e] at hd
    exact ⟨u.1, q D _ kv' u.2.1 (hd.ext (unlock_same nD'))⟩
end
theorem via_lock {te : TE} {k : Nat} {D : Ends} {σ : L2.St} {H : Hp} (h : tLockE te σ H fun x H1 => D.nx (σ.set k (some x)) H1) : tLock (tAsg te (gName k)) D σ H := h
/-- a dict of one's own, seen -/
theorem FS.free1 {K : PySem.W.Frag} {W : Wd} {H0 H : Hp} {σ : L2.St} {Δ Δ' : Env} {S : Frg} (s : FS K W H0 H σ Δ S) (l : Δ'.length = Δ.length) (h : ∀ (i : Nat) (a : A), Δ'[i]? = some (some a) → Δ[i]? = some (some a) ∨ ∃ v, σ[i]? = some (some v) ∧ Is K W.M H v a) : StOk K W.M H σ Δ' := ⟨by rw [l]; exact s.st.len, fun i a e => by
  rcases h i a e with h | h
  · exact s.out.get i a h
  · exact h⟩
theorem stOk_blank {K : PySem.W.Frag} {M : Addr → Prop} {H : Hp} {σ : L2.St} (n : Nat) (l : σ.length = n) : StOk K M H σ (List.replicate n none) := ⟨by rw [l, List.length_replicate], fun i a e => by
  rw [List.getElem?_replicate] at e
  split at e <;> cases e⟩
theorem StOk.forget {K : PySem.W.Frag} {M : Addr → Prop} {H : Hp} {σ : L2.St} {Δ : Env} (s : StOk K M H σ Δ) (k : Nat) : StOk K M H σ (Δ.set k none) := ⟨by rw [List.length_set]; exact s.len, fun i a e => by
  by_cases z : k = i
  · subst z
    rw [List.getElem?_set] at e
    split at e
    · split at e <;> cases e
    · exact s.get _ a e
  · rw [List.getElem?_set_ne z] at e
    exact s.get i a e⟩
/-! ### a method's call with keywords -/
def tMethN (C : Addr) (m : Str) (n mk : Nat) (sp : Sp) (gV : List V → List V → List V) (E : XK) (ta : TE) (t tk : TA) : TE := fun σ H Q => ta σ H fun x H1 => ∃ a dx fs, x = .ref a ∧ H1 a = some (.ins C dx fs) ∧ fs.lookup m = none ∧ t σ H1 fun vs H2 => tk σ H2 fun zs H3 => vs.length = n ∧ zs.length = mk ∧ sp (gV (x :: vs) zs) H3 Q E
section
variable {X : Cx} {CX : CXT} {k n : Nat} {f C : Addr} {fd : FuncData} {ps ks : List Str} {sp : Sp} {E : XK} {m : Str} {pos apos : Pos} {e o : Expr} {es : List Expr} {kws : List Keyword} {ta : TE} {t tk : TA} {pl : Sem Bool} {g : List Value → List Value → List Value} {gV : List V → List V → List V}
theorem pe_methN (he : PE X o ta) (c : Cls X.K C) (hm : Meth X.K C m f) (F : FnOk X.prog X.w X.K X.mg X.base CX k f fd ps sp) (hr : Room k X.A) (hb : KBn X.K fd ps (n + 1) ks g gV) (hx : Passes CX X E) (ha : PA X (e :: es) t) (hkw : PK X kws tk)
    (hall : (backToKw pos (keywordEach kws X.env)).all (·.1.isSome) = true := by rfl) (hks : (backToKw pos (keywordEach kws X.env)).filterMap (·.1) = ks := by rfl)
    (hs : starEach (e :: es) X.env = (false, eval e X.env) :: starEach es X.env := by rfl) (hpl : ((backTo pos (starEach (e :: es) X.env)).any (·.1) || (backToKw pos (keywordEach kws X.env)).any (·.1.isNone)) = false := by rfl)
    (ht : eval (.Call (.Attribute o m apos) (e :: es) kws pos) X.env = (eval o X.env >>= fun u => standAt apos.atName >>= fun _ => holding [u] (getMethod u m pl) >>= fun q => callWith pos q.1 q.2 (backTo pos (starEach (e :: es) X.env)) (backToKw pos (keywordEach kws X.env))) := by rfl) :
    PE X (.Call (.Attribute o m apos) (e :: es) kws pos) (tMethN C m n ks.length sp gV E ta t tk) := ⟨fun pins s σ H Q I h =>
  PySem.W.methodCall_KW (pl := pl) (thn (he.run pins s σ H _ I h) fun u s1 ⟨x, H1, I1, rx, a, dx, fs, ex, ea, l, q⟩ => by
    subst ex
    cases (show u = Value.ref a from rx)
    exact getmeth_ok I1 ea c hm l (PySem.W.callWith_KW (first := [.ref a]) (h₀ := X.base) I.ok.mod.kin hm.kp hall (thn (ha.run pos pins s1 σ H1 _ I1 q) fun us s2 ⟨vs, H2, I2, r, q2⟩ => thn (hkw.run pos pins s2 σ H2 _ I2 q2) fun ws s3 ⟨zs, H3, I3, rz, l1, l2, q3⟩ => ⟨I3.kIn, by
      rw [hks]
      exact run_fnN (us := .ref a :: us) (vs := .ref a :: vs) F hr hb hx I3 (.cons rfl r) rz (congrArg (· + 1) l1) l2 q3⟩) hpl hs)) ht⟩
end
/-! ### a part of the fragment as a fragment of its own -/
section
variable {K : PySem.W.Frag} {W : Wd} {H0 H H' : Hp} {S S1 S1' : Frg} {σ : L2.St} {Δ : Env}
theorem FX.split (f : FX W H0 H (S1 ++ S)) : FX (W.fix S) (hid (memS S1) H) H S1 := by
  refine ⟨fun a o _ e => hid_le a o e, ⟨⟨f.j.1, fun p hp => f.j.2 p (List.mem_append_right _ hp)⟩, fun p hp => f.j.2 p (List.mem_append_left _ hp)⟩, fun p hp => ⟨hid_in ⟨p, hp, rfl⟩, ?_⟩, ?_⟩
  · rintro (z | ⟨q, hq, e⟩)
    · exact (f.new p (List.mem_append_left _ hp)).2 z
    · have nd := f.nd
      rw [List.map_append, List.nodup_append] at nd
      exact nd.2.2 p.1 (List.mem_map.mpr ⟨p, hp, rfl⟩) q.1 (List.mem_map.mpr ⟨q, hq, rfl⟩) e.symm
  · have nd := f.nd
    rw [List.map_append, List.nodup_append] at nd
    exact nd.1
theorem FX.unsplit (f : FX W H0 H (S1 ++ S)) (g : FX (W.fix S) (hid (memS S1) H) H' S1') : FX W H0 H' (S1' ++ S) := by
  have nS : ∀ a o, H0 a = some o → ¬ W.M a → ¬ (W.fix (S1 ++ S)).M a := fun a o e n => by
    rintro (z | ⟨p, hp, q⟩)
    · exact n z
    · have := (f.new p hp).1
      rw [q, e] at this
      cases this
  have n1 : ∀ {a}, ¬ (W.fix (S1 ++ S)).M a → ¬ memS S1 a := fun n ⟨p, hp, e⟩ => n (.inr ⟨p, List.mem_append_left _ hp, e⟩)
  refine ⟨fun a o n e => ?_, ⟨g.j.1.1, fun p hp => ?_⟩, fun p hp => ?_, ?_⟩
  · have n2 := nS a o e fun z => n (.inl z)
    rw [fix_app] at n
    exact g.keep a o n (by rw [hid_out (n1 n2)]; exact f.keep a o n2 e)
  · rcases List.mem_append.mp hp with h | h
    · exact g.j.2 p h
    · exact g.j.1.2 p h
  · rcases List.mem_append.mp hp with h | h
    · have nw : ¬ W.M p.1 := fun z => (g.new p h).2 (.inl z)
      refine ⟨?_, nw⟩
      cases e : H0 p.1 with
      | none => rfl
      | some o =>
        have n2 := nS p.1 o e nw
        have h1 := (g.new p h).1
        rw [hid_out (n1 n2), f.keep p.1 o n2 e] at h1
        cases h1
    · exact f.new p (List.mem_append_right _ h)
  · have nd := f.nd
    rw [List.map_append, List.nodup_append] at nd
    rw [List.map_append, List.nodup_append]
    refine ⟨g.nd, nd.2.1, fun a ha b hb e => ?_⟩
    obtain ⟨p, hp, rfl⟩ := List.mem_map.mp ha
    obtain ⟨q, hq, rfl⟩ := List.mem_map.mp hb
    exact (g.new p hp).2 (.inr ⟨q, hq, e.symm⟩)
theorem gr_unsplit (g : Gr (W.fix S) H S1 H' S1') : Gr W H (S1 ++ S) H' (S1' ++ S) := by
  have h : Same (hid ((W.fix S).fix S1).M H) (hid ((W.fix S).fix S1').M H') := g
  rw [← fix_app, ← fix_app] at h
  exact h
theorem FS.split (s : FS K W H0 H σ Δ (S1 ++ S)) : FS K (W.fix S) (hid (memS S1) H) H σ Δ S1 := ⟨s.f.split, by rw [← fix_app]; exact s.st⟩
theorem app_swap : ∀ p ∈ S1 ++ S, p ∈ S ++ S1 := fun p hp => by
  rcases List.mem_append.mp hp with h | h
  · exact List.mem_append_right _ h
  · exact List.mem_append_left _ h
theorem FX.swap (f : FX W H0 H (S1 ++ S)) : FX W H0 H (S ++ S1) := f.as app_swap app_swap (by
  have nd := f.nd
  rw [List.map_append, List.nodup_append] at nd
  rw [List.map_append, List.nodup_append]
  exact ⟨nd.2.1, nd.1, fun a ha b hb e => nd.2.2 b hb a ha e.symm⟩)
theorem swap_M : (W.fix (S ++ S1)).M = (W.fix (S1 ++ S)).M := perm_M app_swap app_swap
theorem FS.swap (s : FS K W H0 H σ Δ (S1 ++ S)) : FS K W H0 H σ Δ (S ++ S1) := ⟨s.f.swap, by rw [swap_M]; exact s.st⟩
theorem gr_swap2 (g : Gr W H (S1 ++ S) H' (S1' ++ S)) : Gr W H (S ++ S1) H' (S ++ S1') := by
  have h : Same (hid (W.fix (S1 ++ S)).M H) (hid (W.fix (S1' ++ S)).M H') := g
  rw [← swap_M, ← swap_M (S := S) (S1 := S1')] at h
  exact h
theorem Wd.ext' {A B : Wd} (h : A.M = B.M) (j : A.J = B.J) : A = B := by
  cases A
  cases B
  cases h
  cases j
  rfl
theorem fix_nil : W.fix [] = W := Wd.ext' (by
  funext a
  exact propext ⟨fun z => z.elim id fun ⟨_, h, _⟩ => (nomatch h), .inl⟩) (by
  funext H
  exact propext ⟨fun z => z.1, fun z => ⟨z, fun _ h => nomatch h⟩⟩)
end
end V2

set_option Elab.async false
set_option linter.all false
set_option maxRecDepth 100000
set_option maxHeartbeats 1000000
/-! VAs: a try with any number of clauses `except C as n`, all of one name n. -/
namespace V2
open PySem PySem.Spec PyProof.Rows L2
abbrev Cls1 := Value × (Addr → Value → Option Addr → TS)
/-- the ends of a suite behind which slot i is gone -/
def goneAt (i : Nat) (D : Ends) : Ends := ⟨fun σ H => D.nx (σ.set i none) H, D.rt, fun σ H => D.bk (σ.set i none) H, fun σ H => D.ct (σ.set i none) H⟩
/-- what clauses of one name wish of an exception -/
def wAll (K : PySem.W.Frag) (i : Nat) (Wo : WX) (D : Ends) : List Cls1 → WX
  | [] => Wo
  | p :: r => fun k d σ H => ∃ b, PySem.W.exmOne K k p.1 = some b ∧ (b = true → ∀ q, H q = none → p.2 q k d (goneAt i D) (σ.set i (some (.ref q))) H) ∧ (b = false → wAll K i Wo D r k d σ H)
inductive Clauses (X : Cx) (n : Str) : List ExceptHandler → List Cls1 → Prop
  | nil : Clauses X n [] []
  | more {x : Str} {p : Cls1} {b0 : Stmt} {rest : List Stmt} {at1 at2 : Pos} {hh : List ExceptHandler} {l : List Cls1} (nm : Names X x p.1)
      (su : ∀ (q : Addr) (o : Obj) (k : Value) (d : Option Addr) (pn : List (Addr × Obj)), Zc k d o → (∃ vs, o.data = .fields vs) → PSs (X.suite q ((q, o) :: pn)) (b0 :: rest) (p.2 q k d))
      (r : Clauses X n hh l) : Clauses X n (.ExceptHandler (some (.Name x at1)) (some n) (b0 :: rest) at2 :: hh) (p :: l)
section
variable {X : Cx} {n : Str} {i : Nat} {body : List Stmt} {h0 : ExceptHandler} {hh : List ExceptHandler} {l : List Cls1} {at0 : Pos} {tb : WX → TS} {Wo : WX}
theorem ps_tryAll (st : X.stack = X.env :: X.outer) (fr : X.env.frame = some X.env.locals) (nd : X.N.Nodup) (ni : X.N[i]? = some n) (nl : X.env.kindOf n = some .local) (tk : Takes X Wo)
    (tbd : ∀ (W' : WX) (pn : List (Addr × Obj)) (xe : Value → Shared → Prop), Takes (X.tr pn xe) W' → PassesOwn (model X.prog X.w) X.A X.env xe → PSs (X.tr pn xe) body (tb W'))
    (cl : Clauses X n (h0 :: hh) l) : PS X (.Try body (h0 :: hh) [] [] at0) (fun D σ H => tb (wAll X.K i Wo D l) D σ H) := ⟨fun pins s σ H D inv want => by
  have good := inv.ok
  have frs1 : X.A.frames = some (X.env :: X.outer) := by rw [good.frames, st]
  refine wpAny_Try_except (wpAny_mono ((tbd (wAll X.K i Wo D l) (X.pn ++ pins) (fun e s₁ => wpAny (model X.prog X.w) X.A (noteFrame e X.env) (fun _ s₂ => wpAny (model X.prog X.w) X.A (setFlight e none) (fun _ s₃ => wpAny (model X.prog X.w) X.A (handleBy e X.env (h0 :: hh)) (SP X pins D) X.xe s₃) X.xe s₂) X.xe s₁) (fun u t thrown => ?_) PassesOwn.looking).run [] s σ H D (inv.toTry _) want) (fun g s1 ended => ?_) fun _ _ z => z)
  · obtain ⟨q, base, s0, pins0, σ1, H1, k, d, rfl, inv0, nb, up, sky, nq, os, ag, w⟩ := thrown
    have invT : Inv X pins σ1 H1 s0 := inv0.ofTry good
    have skyT : Sky base (X.env :: X.outer) q (Zc k d) X.env.locals t.heap := by rw [← st]; exact sky
    show wpAny (model X.prog X.w) X.A (noteFrame (.ref q) X.env) _ _ _
    refine Sky.land Zc.steady frs1 fr skyT fun g1 fl1 up1 => ?_
    have inv1 : Inv X pins σ1 H1 { t with heap := g1 } := invT.landed nb fl1.1 (up.trans up1) os ag
    obtain ⟨oq, fq, hq, zq, dq⟩ := fl1.there
    have notMem : q ∉ frs (X.env :: X.outer) := fun m => by
      obtain ⟨_, o2, e2, nf⟩ := fl1.2.2.1.mem m
      rw [hq] at e2
      cases e2
      exact nf _ dq
    have neL : q ≠ X.env.locals := fun z => notMem (List.mem_filterMap.mpr ⟨X.env, .head _, by rw [fr, z]⟩)
    have neF : q ∉ X.fs := fun m => by
      obtain ⟨e, me, z⟩ := List.mem_filterMap.mp m
      exact notMem (List.mem_filterMap.mpr ⟨e, .tail _ me, z⟩)
    have sui := inv1.suite hq dq nq neL neF
    have each : ∀ {hs' : List ExceptHandler} {l' : List Cls1}, Clauses X n hs' l' → wAll X.K i Wo D l' k d σ1 H1 → wpAny (model X.prog X.w) X.A (handleBy (.ref q) X.env hs') (SP X pins D) X.xe { t with heap := g1 } := by
      intro hs' l' c
      induction c with
      | nil =>
        intro w
        refine wpAny_handleBy_nil ?_
        obtain ⟨_, _, _, o3, f3, T, oT, t3, e3, _, d3, r3, _⟩ := id fl1
        unfold PySem.passOn
        refine wpAny_bind (wpAny_field e3 d3 r3 ?_)
        rw [if_neg (by simp : ¬ ((Value.ref T == Value.none) = true))]
        have out : wpAny (model X.prog X.w) X.A (setFlight (.ref q) X.env.frame) (fun _ s4 => wpAny (model X.prog X.w) X.A (throw (.ref q) : Sem Flow) (SP X pins D) X.xe s4) X.xe { t with heap := g1 } := by
          rw [fr]
          exact HandSPX.setFlight_upZ fl1 fun g2 fl2 up2 => wpAny_throw (tk _ _ ⟨q, base, s0, pins, σ1, H1, k, d, rfl, invT, nb, (up.trans up1).trans up2, .inr (.inr (by rw [st]; exact fl2)), nq, os, ag, w⟩)
        first | exact wpAny_bind (wpAny_pure (wpAny_bind out)) | exact wpAny_bind out
      | @more x p b0 rest at1 at2 hs2 l2 nm su r ih =>
        intro w
        obtain ⟨b, eb, yes, no⟩ := w
        refine wpAny_handleBy_cons (codeAny_handlers_test ?_) (fun z => by cases z)
        have lk : PySem.W.Looks (model X.prog X.w) g1 (typeOf (.ref q)) k := fun A Q E s kp z => wpAny_typeOf_ref (kp _ _ hq) (by rw [zq.1]; exact z)
        have one := PySem.W.exm_one (M := model X.prog X.w) inv1.kIn lk eb
        have named : ∀ {Q E : Value → Shared → Prop}, Q p.1 { t with heap := g1 } → wpAny (model X.prog X.w) (X.A.mark (some (.ref q))) (eval (.Name x at1) X.env) Q E { t with heap := g1 } := fun {Q E} z => by
          obtain ⟨n1, n2, n3 | ⟨n3, n4, n5⟩⟩ := nm
          · exact ld_glob (X := X.suite q ((q, oq) :: (X.pn ++ pins))) sui n1 n3 z n2
          · exact ld_blt (X := X.suite q ((q, oq) :: (X.pn ++ pins))) sui n1 n3 n4 z n5 n2
        refine named (one.here ?_)
        cases b with
        | false => exact ih (no rfl)
        | true =>
          refine codeAny_handlers_suite_as (HandSPX.lands_againZ fl1 fun g2 fl2 up2 => ?_)
          obtain ⟨o2, f2, e2, z2, d2⟩ := fl2.there
          have sui2 := (invT.landed nb fl2.1 ((up.trans up1).trans up2) os ag : Inv X pins σ1 H1 { t with heap := g2 }).suite e2 d2 nq neL neF
          refine store_ok (X := X.suite q ((q, o2) :: (X.pn ++ pins))) (v := .ref q) sui2 nd ni (.inl nl) rfl (fun s5 sui5 => wpAny_mono ((su q o2 k d (X.pn ++ pins) z2 ⟨_, d2⟩).run [] s5 _ H1 _ sui5 (yes rfl q nq)) (fun g s6 e6 => ?_) fun _ _ z => z.elim) (.inr nl)
          cases g with
          | next => obtain ⟨σ6, H6, i6, q6⟩ := e6; exact gone_ok (i6.unsuite good) nd ni nl fun s7 i7 => ⟨_, _, i7, q6⟩
          | brk => obtain ⟨σ6, H6, i6, q6⟩ := e6; exact gone_ok (i6.unsuite good) nd ni nl fun s7 i7 => ⟨_, _, i7, q6⟩
          | cont => obtain ⟨σ6, H6, i6, q6⟩ := e6; exact gone_ok (i6.unsuite good) nd ni nl fun s7 i7 => ⟨_, _, i7, q6⟩
          | ret u => obtain ⟨v6, σ6, H6, i6, r6, q6⟩ := e6; exact gone_ok (i6.unsuite good) nd ni nl fun s7 i7 => ⟨_, _, _, i7, r6, q6⟩
    exact each cl w
  · cases g with
    | next => obtain ⟨σ2, H2, i2, z⟩ := ended; exact wpAny_execs_nil ⟨σ2, H2, i2.ofTry good, z⟩
    | brk => obtain ⟨σ2, H2, i2, z⟩ := ended; exact ⟨σ2, H2, i2.ofTry good, z⟩
    | cont => obtain ⟨σ2, H2, i2, z⟩ := ended; exact ⟨σ2, H2, i2.ofTry good, z⟩
    | ret u => obtain ⟨v, σ2, H2, i2, r, z⟩ := ended; exact ⟨v, σ2, H2, i2.ofTry good, r, z⟩⟩
end
/-- a suite that returns, run where an error's field stands at e -/
theorem err_suite {K : PySem.W.Frag} {W : Wd} {H : Hp} {σ : L2.St} {Δ : Env} {i : Nat} {e q : Addr} {f : Str} {v : V} {y : PyData} {ts : TS} {R : A → Prop} {D : Ends} (j : W.J H) (st : StOk K W.M H σ Δ) (ne : H e = none) (dv : Dt K (hid W.M H) v y)
    (hx : ¬ W.M e → XS K (W.err e f v) ts (Δ.set i (some (.w (.ref q) [v] [y]))) (fun _ => False) R (fun _ => False) (fun _ => False)) (rt : ∀ v' H' a, Fr W H H' → R a → Is K W.M H' v' a → D.rt v' H') : ts (goneAt i D) (σ.set i (some (.ref q))) (upd H e (.xd [(f, v)])) := by
  have me : ¬ W.M e := W.fresh j ne
  have jj : (W.err e f v).J (upd H e (.xd [(f, v)])) := ⟨W.loc H _ (fun a m => upd_ne fun z => me (z ▸ m)) j, _, upd_same, rfl⟩
  have iv : Is K (W.err e f v).M (upd H e (.xd [(f, v)])) (.ref q) (.w (.ref q) [v] [y]) := ⟨rfl, .cons (Is.add (a := .d y) (φ := (· = .xd [(f, v)])) dv ne) .nil⟩
  exact hx me _ _ jj ((StOk.add j st ne).set i iv) (goneAt i D) (fun _ _ _ _ _ z => z.elim) (fun v' H' a g r i => rt v' H' a (err_back ne g) r (i.ext hid_add_le)) (fun _ _ _ _ _ z => z.elim) fun _ _ _ _ _ z => z.elim
end V2

set_option Elab.async false
set_option linter.all false
set_option maxRecDepth 100000
set_option maxHeartbeats 2000000
/-! VSrt: sorted(d.items()) of a dict of texts by texts. -/
namespace V2
open PySem PySem.Spec PyProof.Rows L2
/-! ### the order of pairs of texts -/
def ltT (x y : Str) : Bool := decide (x.cps.toList < y.cps.toList)
theorem ltT_asym {x y : Str} (h : ltT x y = true) : ltT y x = false := decide_eq_false (List.lt_asymm (of_decide_eq_true h))
theorem ltT_tr {x y z : Str} (h1 : ltT y x = false) (h2 : ltT z y = false) : ltT z x = false :=
  decide_eq_false (List.not_lt.mpr (List.le_trans (List.not_lt.mp (of_decide_eq_false h1)) (List.not_lt.mp (of_decide_eq_false h2))))
theorem ltT_eq {x y : Str} (h1 : ltT x y = false) (h2 : ltT y x = false) : x = y := by
  have e : x.cps.toList = y.cps.toList := List.le_antisymm (List.not_lt.mp (of_decide_eq_false h2)) (List.not_lt.mp (of_decide_eq_false h1))
  obtain ⟨⟨a⟩⟩ := x
  obtain ⟨⟨b⟩⟩ := y
  have e : a = b := e
  rw [e]
abbrev PS2 := Str × Str
def lt2T (p q : PS2) : Bool := if p.1 = q.1 then ltT p.2 q.2 else ltT p.1 q.1
theorem lt2T_swo : SrtO.Swo lt2T := by
  refine ⟨fun p q h => ?_, fun x y z h1 h2 => ?_⟩
  · unfold lt2T at h ⊢
    by_cases e : p.1 = q.1
    · rw [if_pos e] at h
      rw [if_pos e.symm]
      exact ltT_asym h
    · rw [if_neg e] at h
      rw [if_neg fun z => e z.symm]
      exact ltT_asym h
  · unfold lt2T at h1 h2 ⊢
    have le1 : ltT y.1 x.1 = false := by
      by_cases e : y.1 = x.1
      · rw [e]; exact decide_eq_false (List.lt_irrefl _)
      · rwa [if_neg e] at h1
    have le2 : ltT z.1 y.1 = false := by
      by_cases e : z.1 = y.1
      · rw [e]; exact decide_eq_false (List.lt_irrefl _)
      · rwa [if_neg e] at h2
    by_cases e : z.1 = x.1
    · rw [if_pos e]
      have e1 : y.1 = x.1 := ltT_eq le1 (by rw [← e]; exact le2)
      rw [if_pos e1] at h1
      rw [if_pos (e.trans e1.symm)] at h2
      exact ltT_tr h1 h2
    · rw [if_neg e]
      exact ltT_tr le1 le2
/-- what a sort of pairs of texts gives: one list alone -/
noncomputable def srt2 (kvs : List PS2) : List PS2 := open Classical in if h : ∃ z, SrtO.Srtd lt2T z ∧ SrtO.Stb lt2T z kvs then h.choose else []
theorem srt2_is {kvs z : List PS2} (h1 : SrtO.Srtd lt2T z) (h2 : SrtO.Stb lt2T z kvs) : z = srt2 kvs := by
  have ex : ∃ z, SrtO.Srtd lt2T z ∧ SrtO.Stb lt2T z kvs := ⟨z, h1, h2⟩
  unfold srt2
  rw [dif_pos ex]
  obtain ⟨g1, g2⟩ := ex.choose_spec
  refine SrtO.stb_uniq lt2T_swo h1 g1 ⟨h2.perm.trans g2.perm.symm, fun x => (h2.cls x).trans (g2.cls x).symm⟩
/-! ### at the library's level -/
abbrev Tagged := List (Addr × PS2)
def tagOf (l : Tagged) : Value → PS2
  | .ref a => (l.lookup a).getD (⟨#[]⟩, ⟨#[]⟩)
  | _ => (⟨#[]⟩, ⟨#[]⟩)
theorem tag_at : ∀ {as : List Addr} {ks : List PS2} {j : Nat} {a : Addr} {p : PS2}, as.Nodup → as[j]? = some a → ks[j]? = some p → tagOf (as.zip ks) (.ref a) = p
  | [], _, j, a, p, _, h, _ => by simp at h
  | b :: as, [], j, a, p, _, _, h => by simp at h
  | b :: as, k :: ks, 0, a, p, _, h1, h2 => by
    simp only [List.getElem?_cons_zero, Option.some.injEq] at h1 h2
    subst h1 h2
    show ((((b, k) :: as.zip ks).lookup b).getD _) = k
    rw [List.lookup_cons_self]
    rfl
  | b :: as, k :: ks, j + 1, a, p, nd, h1, h2 => by
    rw [List.nodup_cons] at nd
    simp only [List.getElem?_cons_succ] at h1 h2
    have ne : a ≠ b := fun e => nd.1 (by rw [← e]; exact List.mem_of_getElem? h1)
    have ih := tag_at nd.2 h1 h2
    show ((((b, k) :: as.zip ks).lookup a).getD _) = p
    have : (a == b) = false := by simpa using ne
    rw [List.lookup_cons, this]
    exact ih
def addrOf : Value → Addr
  | .ref a => a
  | _ => 0
def TwoS (h : Heap) (v : Value) (p : PS2) : Prop := ∃ a o t u n, v = .ref a ∧ h.get? a = some o ∧ o.cls = .type "tuple" ∧ o.data = .seq #[.str p.1 t, .str p.2 u] n
theorem twoS_heads {h : Heap} {k : Value → PS2} : ∀ vs : List Value, (∀ v ∈ vs, TwoS h v (k v)) → ∃ fs : List Value, PySem.W.KatTups h vs fs ∧ fs.length = vs.length ∧ ∀ f ∈ fs, ∃ x t, f = Value.str x t
  | [], _ => ⟨[], .nil, rfl, fun f hf => nomatch hf⟩
  | v :: vs, x => by
    obtain ⟨fs, h1, h2, h3⟩ := twoS_heads vs fun u hu => x u (.tail _ hu)
    obtain ⟨a, o, t, u, n, rfl, ho, hc, hd⟩ := x v (.head _)
    refine ⟨.str _ t :: fs, .cons ho hc hd rfl h1, congrArg Nat.succ h2, fun f hf => ?_⟩
    rcases List.mem_cons.mp hf with rfl | hf
    · exact ⟨_, _, rfl⟩
    · exact h3 f hf
section
variable {prog : Program} {w : World} {A : Around} {E : Value → Shared → Prop} {s : Shared}
theorem twoS_cmp {vs : List Value} {k : Value → PS2} (x : ∀ v ∈ vs, TwoS s.heap v (k v)) : SrtO.Cmp prog w A s (tuples' true) (fun p => p.1 ∈ vs) (SrtO.lt2 fun v u => lt2T (k v) (k u)) := fun p q mp mq => by
  have g1 := x _ mp
  have g2 := x _ mq
  show wpAny (model prog w) A (keyLt' (tuples' true) p.1 q.1) (fun r s' => s' = s ∧ r = lt2T (k p.1) (k q.1)) (fun _ _ => False) s
  generalize k p.1 = e at g1 ⊢
  generalize k q.1 = f at g2 ⊢
  obtain ⟨x1, x2⟩ := e
  obtain ⟨y1, y2⟩ := f
  obtain ⟨a, oa, t1, t2, n, ea, ha, _, da⟩ := g1
  obtain ⟨b, ob, u1, u2, m, eb, hb, _, db⟩ := g2
  rw [ea, eb]
  refine PySem.W.kat_lt ha da hb db ?_
  show PySem.W.KatLex prog w A true (decide (2 < 2)) _ [(.str x1 t1, .str y1 u1), (.str x2 t2, .str y2 u2)] 0 s
  refine PySem.W.kat_cons (SeqAt.EqAt.str_str x1 t1 y1 u1 prog w _ _ (PySem.W.kat_go (fun e1 => ?_) fun e1 => ?_))
  · have e1 : x1 = y1 := by simpa using e1
    have r : lt2T (x1, x2) (y1, y2) = ltT x2 y2 := if_pos e1
    rw [r]
    refine PySem.W.kat_yes (PySem.W.kat_cons (SeqAt.EqAt.str_str x2 t2 y2 u2 prog w _ _ (PySem.W.kat_go (fun e2 => ?_) fun e2 => ?_)))
    · have e2 : x2 = y2 := by simpa using e2
      exact PySem.W.kat_yes (PySem.W.kat_nil ⟨rfl, by rw [e2]; exact (decide_eq_false (List.lt_irrefl _)).symm⟩)
    · exact PySem.W.kat_no (PySem.W.kat_one _ _ (PyProof.Rows.lt_str ⟨rfl, rfl⟩))
  · have e1 : ¬ x1 = y1 := by simpa using e1
    have r : lt2T (x1, x2) (y1, y2) = ltT x1 y1 := if_neg e1
    rw [r]
    exact PySem.W.kat_no (oneLt_str ⟨rfl, rfl⟩)
theorem twoS_sortable {a : Addr} {vs : List Value} {k : Value → PS2} (ne : 0 < vs.length) (x : ∀ v ∈ vs, TwoS s.heap v (k v)) (na : ∀ o, s.heap.get? a = some o → o.cls ≠ .type "tuple") : SrtO.SortableO prog w A s a vs fun v u => lt2T (k v) (k u) := fun h' keep => by
  have x' : ∀ v ∈ vs, TwoS h' v (k v) := fun v hv => by
    obtain ⟨b, o, t, u, n, e, ho, hc, hd⟩ := x v hv
    exact ⟨b, o, t, u, n, e, keep b o (fun z => na o (z ▸ ho) hc) ho, hc, hd⟩
  obtain ⟨fs, g1, g2, g3⟩ := twoS_heads vs x'
  refine ⟨tuples' true, fun Q E q => PySem.W.kat_kind (T := .type "str") g1 (by omega) (fun f hf => ?_) (by rfl) ?_, twoS_cmp x'⟩
  · obtain ⟨y, t, rfl⟩ := g3 f hf
    exact PySem.W.Looks.now
  · rw [show (Value.type "str" != Value.type "tuple") = true from by first | decide +kernel | rfl | decide]
    exact q
end
section
variable {prog : Program} {w : World} {Kk : Type} [DecidableEq Kk] {knd : PySem.KeyKind prog w Kk} {A : Around} {E : Value → Shared → Prop} {s : Shared} {kvs : List (Kk × Value)} {ep : Nat} {r d : Addr}
/-- collect of an items view, the heap's growth told too -/
theorem collect_itms {R : List Value → Shared → Prop} (hh : A.handled = none) (hv : s.heap.IsItemsView r d) (hm : s.heap.DictAt knd d kvs ep) (sz : kvs.length ≤ sizeLine)
    (q : ∀ (h' : Heap) (tk : Nat) (as : List Addr), (∀ b o, s.heap.get? b = some o → h'.get? b = some o) → s.heap.objs.size ≤ h'.objs.size → as.length = kvs.length → PySem.W.KdxG knd kvs s.heap.objs.size h' as → R (as.map Value.ref) { s with heap := h', toks := tk }) :
    wpAny (model prog w) A (collect (.ref r)) R E s := by
  have lr : r < s.heap.objs.size := by
    obtain ⟨_, e, _⟩ := hv
    exact Heap.lt_size e
  unfold collect
  refine wpAny_bind (wpAny_runValue (codeAny_builtin entry_proto_collect' (?_ : wpAny _ (A.under _) _ _ _ _)))
  rw [Around.under_plainId PySem.F.plain_proto_collect _]
  refine (?_ : wpAny (model prog w) A.in1 (newList [] >>= fun l => again (.builtin "list.__iadd__" ⟨[l, .ref r], []⟩)) _ _ s)
  refine wpAny_bind (wpAny_newObj_type (wpAny_pure ⟨plainId_quiet PySem.F.plain_list_iadd _, codeAny_builtin entry_list_iadd' (?_ : wpAny _ (A.under _) _ _ _ _)⟩))
  rw [Around.under_plainId PySem.F.plain_list_iadd _]
  have top : (s.heap.push { cls := .type "list", data := .seq ([] : List Value).toArray }).get? s.heap.objs.size = some { cls := .type "list", data := .seq #[] } := Heap.get?_push_size _ rfl
  refine (?_ : wpAny (model prog w) A.in1 (Builtin.List.listExtendWith (.ref s.heap.objs.size) (.ref r) (.ref s.heap.objs.size)) _ _ _)
  have done : ∀ {h' : Heap} {tk : Nat} {acc : Array Value} {c : Nat} {as : List Addr}, (∀ b o, b ≠ s.heap.objs.size → (s.heap.push { cls := .type "list", data := .seq ([] : List Value).toArray }).get? b = some o → h'.get? b = some o) →
      h'.get? s.heap.objs.size = some { cls := .type "list", dict := none, data := .seq acc c, slots := #[] } → as.length = kvs.length → PySem.W.KdxG knd kvs (s.heap.push { cls := .type "list", data := .seq ([] : List Value).toArray }).objs.size h' as → acc.toList = as.map Value.ref → R acc.toList { s with heap := h', toks := tk } := fun {h' tk acc c as} kp hS ln G ha => by
    rw [ha]
    exact q h' tk as (fun b o e => kp b o (Nat.ne_of_lt (Heap.lt_size e)) (Heap.get?_push_of_some _ e)) (Nat.le_of_lt (Heap.lt_size hS)) ln (G.low (by rw [Heap.size_push]; exact Nat.le_succ _))
  refine wpAny_mono (PySem.W.kdx_extend (A := A) (s := { s with heap := s.heap.push { cls := .type "list", data := .seq ([] : List Value).toArray } }) (knd := knd) (kvs := kvs) (ep := ep)
    (R := fun (z : Result) (t : Shared) => ∃ (h' : Heap) (tk : Nat) (acc : Array Value) (c : Nat), z = .ok (.ret (.ref s.heap.objs.size)) ∧ t = { s with heap := h', toks := tk } ∧ h'.get? s.heap.objs.size = some { cls := .type "list", dict := none, data := .seq acc c, slots := #[] } ∧ R acc.toList { s with heap := h', toks := tk })
    hh (by obtain ⟨o, e, x⟩ := hv; exact ⟨o, Heap.get?_push_of_some _ e, x⟩) (hm.push _) s.heap.objs.size (Nat.ne_of_gt lr) (Nat.ne_of_lt hm.lt_size) (.ref s.heap.objs.size) 0 top
    (fun h' tk acc c as kp hS ln G ha => ⟨h', tk, acc, c, rfl, rfl, hS, done kp hS ln G ha⟩) sz) (fun fin t x => ?_) fun e t x => ?_
  · cases fin with
    | done f =>
      obtain ⟨h', tk, acc, c, e, rfl, hS, z⟩ := x
      cases e
      show wpAny _ A (load s.heap.objs.size >>= _) R _ { s with heap := h', toks := tk }
      exact wpAny_bind (wpAny_load hS (wpAny_pure z))
    | again c1 =>
      refine ⟨x.1, codeAny_mono x.2 fun z t2 y => ?_⟩
      obtain ⟨h', tk, acc, c, rfl, rfl, hS, z⟩ := y
      show wpAny _ A (load s.heap.objs.size >>= _) R _ { s with heap := h', toks := tk }
      exact wpAny_bind (wpAny_load hS (wpAny_pure z))
  · obtain ⟨_, _, _, _, e, _⟩ := x
    cases e
end
/-! ### the rules by values -/
def itmO (p d : Addr) : HO := .ext fun h => h.IsItemsView p d
def rItms : V → List V → Hp → VK → Prop := fun x xs H Q => ∃ (a : Addr) (kvs : List (Key × V)), x = .ref a ∧ xs = [] ∧ H a = some (.dK kvs) ∧ ∀ p, H p = none → Q (.ref p) (upd H p (itmO p a))
def rSrtI : List V → Hp → VK → Prop := fun xs H Q => ∃ (p d : Addr) (kvs : List PS2), xs = [.ref p] ∧ H p = some (itmO p d) ∧ H d = some (.dK (KV2 kvs)) ∧
  ∀ (H' : Hp) (l : Addr) (zs : Tagged), (∀ b o, H b = some o → H' b = some o) → H l = none → (∀ z ∈ zs, H z.1 = none) → SrtO.Srtd lt2T (zs.map (·.2)) → SrtO.Stb lt2T (zs.map (·.2)) kvs → H' l = some (.lst (zs.map fun z => V.ref z.1)) → (∀ z ∈ zs, H' z.1 = some (.tup [.str z.2.1, .str z.2.2])) → Q (.ref l) H'
section
variable {X : Cx}
theorem mt_itms : MtR X "dict.items" rItms := by
  intro pins s σ H x vs v us Q I rx rv h
  obtain ⟨a, kvs, ex, ev, e, q⟩ := h
  subst ex ev
  obtain rfl : v = Value.ref a := rx
  cases rv
  obtain ⟨z, hd, ws, rel, dd⟩ := dk_of I.hok e
  refine call_meetsIn PySem.F.slot_dict_items dd.typeIs PySem.F.entry_dict_items (PySem.F.args_dict_items_1 _) (meets_dict_items (mixKind X.prog X.w) a hd) ⟨⟨ws, dd⟩, ?_⟩
  have g := Heap.get?_push_size s.heap (o := { cls := Value.type "dict_items", data := Data.fields #[Value.ref a] }) rfl
  exact ⟨.ref s.heap.objs.size, upd H s.heap.objs.size (itmO s.heap.objs.size a), I.laid (t' := s.toks) (fun b u e => Heap.get?_push_of_some _ e) (Nat.le_refl _) ⟨⟨_, g, rfl, rfl⟩, ⟨_, g⟩, fun h1 h2 ⟨o, e1, e2, e3⟩ k => ⟨o, k o e1, e2, e3⟩⟩, rfl, q _ (I.hok.fresh (Nat.le_refl _))⟩
theorem cr_srtI (hc : X.calm = true) : CallR X (.builtin "sorted") rSrtI := fun pins s σ H xs us Q I r h => by
  obtain ⟨p, d, kvs, rfl, hp, hd, q⟩ := h
  obtain rfl := Vals.ref1 r
  have view : s.heap.IsItemsView p d := (I.hok p _ hp).1
  obtain ⟨sz, hsy, ws, rel, dd⟩ := dk_of I.hok hd
  obtain ⟨ep, at1⟩ := dd.dictAt
  have lw : ws.length = kvs.length := by rw [← Paired.length rel]; exact List.length_map _
  have szw : ws.length ≤ sizeLine := by rw [← Paired.length rel]; exact sz
  refine Calls.call_function_entry PyProof.Rows.kind_sorted PyProof.Rows.plain_sorted PyProof.Rows.entry_sorted (PyProof.Rows.args_sorted1 _) (show wpAny _ _ (Builtin.«sorted» _) _ _ _ from ?_)
  unfold Builtin.«sorted»
  refine wpAny_bind (m := checkCount "sorted" 1 1 _) (wpAny_pure (wpAny_bind (collect_itms (A := X.A.in1) (knd := mixKind X.prog X.w) (kvs := ws) (ep := ep) (I.ok.hd hc) view at1 szw fun h1 tk as kp lt1 ln G => ?_)))
  have nd : as.Nodup := List.Pairwise.imp (fun h => Nat.ne_of_lt h) G.rise
  have la : as.length = kvs.length := by rw [ln, lw]
  have szv : (as.map Value.ref).length ≤ sizeLine := by rw [List.length_map, ln]; exact szw
  have prs : ∀ (j : Nat) (b : Addr), as[j]? = some b → ∃ (e : PS2) (t u : Tok), kvs[j]? = some e ∧ h1.get? b = some { cls := .type "tuple", data := .seq #[.str e.1 t, .str e.2 u] } := fun j b hj => by
    obtain ⟨key, k, x, e1, e2, e3⟩ := G.pairs j b hj
    obtain ⟨kv, f1, f2, f3⟩ := paired_at rel e1
    unfold KV2 at f1
    rw [List.getElem?_map] at f1
    cases ek : kvs[j]? with
    | none => rw [ek] at f1; cases f1
    | some e =>
      rw [ek] at f1
      cases f1
      have f2 : Sum.inr e.1 = k := f2
      subst f2
      obtain ⟨t, rfl⟩ := Value.isStrOf_shape (x := e.1) (v := key) e2
      obtain ⟨u, rfl⟩ : ∃ u, x = Value.str e.2 u := f3
      exact ⟨e, t, u, rfl, e3⟩
  refine wpAny_bind (wpAny_newList (wpAny_bind (wpAny_holding (wpAny_mono (?_ : wpAny _ _ _ (fun _ s' => EP X pins σ Q (.ref h1.objs.size) s') _ _) (fun _ s' z => wpAny_pure ⟨_, rfl, z⟩) fun _ _ z => z))) szv)
  have ob1 : (h1.push { cls := .type "list", data := .seq (as.map Value.ref).toArray }).get? h1.objs.size = some (seqObj "list" (as.map Value.ref).toArray 0) := Heap.get?_push_size _ rfl
  have kp2 : ∀ b o, h1.get? b = some o → (h1.push { cls := .type "list", data := .seq (as.map Value.ref).toArray }).get? b = some o := fun b o e => Heap.get?_push_of_some _ e
  generalize e2 : h1.push { cls := .type "list", data := .seq (as.map Value.ref).toArray } = h2 at ob1 kp2 ⊢
  have low : ∀ b o, h1.get? b = some o → b ≠ h1.objs.size := fun b o e => Nat.ne_of_lt (Heap.lt_size e)
  have idx : ∀ v ∈ as.map Value.ref, ∃ (j : Nat) (b : Addr), v = .ref b ∧ as[j]? = some b := fun v hv => by
    obtain ⟨b, hb, rfl⟩ := List.mem_map.mp hv
    obtain ⟨j, hj⟩ := List.mem_iff_getElem?.mp hb
    exact ⟨j, b, rfl, hj⟩
  have two : ∀ v ∈ as.map Value.ref, TwoS h2 v (tagOf (as.zip kvs) v) := fun v hv => by
    obtain ⟨j, b, rfl, hj⟩ := idx v hv
    obtain ⟨e, t, u, f1, f2⟩ := prs j b hj
    rw [tag_at nd hj f1]
    exact ⟨b, _, t, u, 0, rfl, kp2 _ _ f2, rfl, rfl⟩
  have swo : SrtO.Swo fun v u => lt2T (tagOf (as.zip kvs) v) (tagOf (as.zip kvs) u) := ⟨fun a b => lt2T_swo.asym _ _, fun a b c => lt2T_swo.tr _ _ _⟩
  refine wpAny_call_entry PyProof.Rows.slot_list_sort ⟨_, ob1, rfl⟩ PyProof.Rows.entry_list_sort (SrtO.list_sort_ord (n := 0) (ltv := fun v u => lt2T (tagOf (as.zip kvs) v) (tagOf (as.zip kvs) u)) swo ob1 szv (fun g2 => twoS_sortable (by omega) two fun o e => by rw [show ({ s with heap := h2, toks := tk } : Shared).heap = h2 from rfl, ob1] at e; cases e; exact (by decide : (Value.type "list") ≠ Value.type "tuple")) fun out o1 o2 => ⟨.none, rfl, ?_⟩) (PyProof.Rows.args_list_sort _)
  have ol : ∀ v ∈ out, ∃ (j : Nat) (b : Addr), v = .ref b ∧ as[j]? = some b := fun v hv => idx v (o2.perm.mem_iff.mp hv)
  have kF : ∀ b o, b ≠ h1.objs.size → h2.get? b = some o → (sortedHeap h2 h1.objs.size (as.map Value.ref) out.toArray).get? b = some o := fun b o nb e => (PyProof.Rows.sortedHeap_old nb (Heap.lt_size e)).trans e
  obtain ⟨ef, hef⟩ := PyProof.Rows.sortedHeap_at (vs := as.map Value.ref) (out := out.toArray) ob1
  have I1 : Inv X pins σ H { s with heap := sortedHeap h2 h1.objs.size (as.map Value.ref) out.toArray, toks := tk } := I.kept (t' := tk) fun b o e => kF b o (low _ _ (kp b o e)) (kp2 _ _ (kp b o e))
  generalize sortedHeap h2 h1.objs.size (as.map Value.ref) out.toArray = h3 at kF hef I1 ⊢
  have fresh1 : H h1.objs.size = none := I.hok.fresh lt1
  let zs : Tagged := out.map fun v => (addrOf v, tagOf (as.zip kvs) v)
  have ez : (zs.map fun z => Value.ref z.1) = out := by
    show (out.map _).map _ = out
    rw [List.map_map]
    refine (List.map_congr_left fun v hv => ?_).trans (List.map_id out)
    obtain ⟨j, b, rfl, _⟩ := ol v hv
    rfl
  have eks : (zs.map (·.2)) = out.map (tagOf (as.zip kvs)) := List.map_map
  have etag : (as.map Value.ref).map (tagOf (as.zip kvs)) = kvs := by
    refine List.ext_getElem? fun j => ?_
    rw [List.map_map, List.getElem?_map]
    cases hj : as[j]? with
    | none =>
      rw [List.getElem?_eq_none (by rw [← la]; exact List.getElem?_eq_none_iff.mp hj)]
      rfl
    | some b =>
      obtain ⟨e, t, u, f1, f2⟩ := prs j b hj
      rw [f1]
      exact congrArg some (tag_at nd hj f1)
  have len : (zs.map fun z => V.ref z.1).length ≤ sizeLine := by
    have := o2.perm.length_eq
    rw [List.length_map, List.length_map, this]
    exact szv
  have I2 : Inv X pins σ (upd H h1.objs.size (.lst (zs.map fun z => V.ref z.1))) { s with heap := h3, toks := tk } :=
    I1.take (h' := h3) (t' := tk) (fun b ob _ e => e) (I.fpOk lt1 fresh1) ⟨len, out, ef, by
      have := vals_maps (fun z : Addr × PS2 => V.ref z.1) (fun z => Value.ref z.1) zs fun _ _ => rfl
      rwa [ez] at this, hef⟩
  obtain ⟨H2, I3, keep, tups⟩ := DX.takeT (P := fun b vs => ∃ (j : Nat) (e : PS2), as[j]? = some b ∧ kvs[j]? = some e ∧ vs = [.str e.1, .str e.2]) I as _ I2 nd fun b hb => by
    obtain ⟨j, hj⟩ := List.mem_iff_getElem?.mp hb
    obtain ⟨e, t, u, f1, f2⟩ := prs j b hj
    have hs : s.heap.objs.size ≤ b := Nat.le_of_lt (G.above b hb)
    refine ⟨hs, ?_, [.str e.1, .str e.2], ⟨j, e, hj, f1, rfl⟩, fun H3 => ⟨(by rw [sizeLine_eq]; show 2 ≤ 16777216; decide), [Value.str e.1 t, Value.str e.2 u], .cons ⟨_, rfl⟩ (.cons ⟨_, rfl⟩ .nil), ⟨_, kF _ _ (low _ _ f2) (kp2 _ _ f2), rfl, 0, rfl⟩⟩⟩
    rw [upd_ne (low _ _ f2)]
    exact I.hok.fresh hs
  have zat : ∀ z ∈ zs, ∃ j : Nat, as[j]? = some z.1 ∧ kvs[j]? = some z.2 := fun z hz => by
    obtain ⟨v, hv, rfl⟩ := List.mem_map.mp hz
    obtain ⟨j, b, rfl, hj⟩ := ol v hv
    obtain ⟨e, t, u, f1, f2⟩ := prs j b hj
    exact ⟨j, hj, by rw [f1]; exact congrArg some (tag_at nd hj f1).symm⟩
  refine ⟨.ref h1.objs.size, H2, I3, rfl, q H2 h1.objs.size zs (fun b o e => keep b o (by rw [upd_ne (ne_of_none e fresh1)]; exact e)) fresh1 (fun z hz => ?_) ?_ ?_ (keep _ _ upd_same) fun z hz => ?_⟩
  · obtain ⟨j, hj, _⟩ := zat z hz
    exact I.hok.fresh (Nat.le_of_lt (G.above _ (List.mem_of_getElem? hj)))
  · rw [eks]
    exact SrtO.srtd_map o1
  · rw [eks]
    have := SrtO.Stb.map lt2T_swo (tagOf (as.zip kvs)) o2
    rwa [etag] at this
  · obtain ⟨j, j1, j2⟩ := zat z hz
    obtain ⟨vs, ⟨i, e, i1, i2, rfl⟩, hH⟩ := tups z.1 (List.mem_of_getElem? j1)
    have eij : j = i := (List.getElem?_inj (List.getElem?_eq_some_iff.mp j1).1 nd).mp (j1.trans i1.symm)
    subst eij
    rw [j2] at i2
    cases i2
    exact hH
end
/-! ### as data -/
def pairD (p : PS2) : PyData := .tuple [.str p.1, .str p.2]
section
variable {K : PySem.W.Frag} {W : Wd} {Δ : Env} {te : TE}
theorem xe_sortItms {kvs : List PS2} (h : XV K W te Δ (.d (KD kvs))) : XV K W (tCB rSrtI (tCons (tBM0 K "dict" rItms te) tNil)) Δ (.d (.list ((srt2 kvs).map pairD))) := fun σ H j s Q q =>
  h σ H j s _ fun v H1 a f1 e i => by
    subst e
    cases i with
    | dct hd hk =>
      rename_i d es
      obtain rfl := dtkv_is hk
      have hd' := hid_le _ _ hd
      refine ⟨.inr (.inr (.inl ⟨rfl, .inl ⟨_, hd'⟩⟩)), d, _, rfl, rfl, hd', fun p np => ?_⟩
      have f2 : Fr W H1 (upd H1 p (itmO p d)) := .new f1.j np
      have kd : (upd H1 p (itmO p d)) d = some (.dK (KV2 kvs)) := by rw [upd_ne (ne_of_none hd' np)]; exact hd'
      refine ⟨p, d, kvs, rfl, upd_same, kd, fun H' l zs kp nl nz s1 s2 hl hz => ?_⟩
      have f3 : Fr W (upd H1 p (itmO p d)) H' := by
        refine ⟨fun a o _ e => kp a o e, W.loc _ _ (fun a m => ?_) f2.j⟩
        cases e : (upd H1 p (itmO p d)) a with
        | none => exact absurd m (W.fresh f2.j e)
        | some o => exact kp a o e
      have hid3 : ∀ a o, (upd H1 p (itmO p d)) a = none → H' a = some o → hid W.M H' a = some o := fun a o n e => by rw [hid_out (W.fresh f2.j n)]; exact e
      refine q (.ref l) H' _ ((f1.trans f2).trans f3) rfl (Dt.lst (hid3 _ _ nl hl) ?_)
      rw [← srt2_is s1 s2]
      have all : ∀ (ys : Tagged), (∀ z ∈ ys, z ∈ zs) → DtAll K (hid W.M H') (ys.map fun z => V.ref z.1) ((ys.map (·.2)).map pairD) := by
        intro ys
        induction ys with
        | nil => exact fun _ => .nil
        | cons z ys ih => exact fun m => .cons (Dt.tup (.inl (.inl (hid3 _ _ (nz z (m z (.head _))) (hz z (m z (.head _)))))) (.cons (.str _) (.cons (.str _) .nil))) (ih fun y hy => m y (.tail _ hy))
      exact all zs fun z h => h
end
/-! ### a method's call with keywords in a try's body -/
def tMethNE (C : Addr) (m : Str) (n mk : Nat) (sp : Sp) (gV : List V → List V → List V) (E : L2.St → XK) (ta : TE) (t tk : TA) : TE := fun σ H Q => ta σ H fun x H1 => ∃ a dx fs, x = .ref a ∧ H1 a = some (.ins C dx fs) ∧ fs.lookup m = none ∧ t σ H1 fun vs H2 => tk σ H2 fun zs H3 => vs.length = n ∧ zs.length = mk ∧ sp (gV (x :: vs) zs) H3 Q (E σ)
section
variable {X : Cx} {CX : CXT} {k n : Nat} {f C : Addr} {fd : FuncData} {ps ks : List Str} {sp : Sp} {E : L2.St → XK} {m : Str} {pos apos : Pos} {e o : Expr} {es : List Expr} {kws : List Keyword} {ta : TE} {t tk : TA} {pl : Sem Bool} {g : List Value → List Value → List Value} {gV : List V → List V → List V}
theorem call_kwAt {pins : List (Addr × Obj)} {σ : L2.St} {H : Hp} {s : Shared} {Q : VK} {us ws : List Value} {vs zs : List V} (F : FnOk X.prog X.w X.K X.mg X.base CX k f fd ps sp) (room : Room k X.A) (bd : KBn X.K fd ps n ks g gV) (pas : PassesAt CX X σ (E σ))
    (I : Inv X pins σ H s) (r : Vals vs us) (rz : Vals zs ws) (l1 : vs.length = n) (l2 : zs.length = ks.length) (h : sp (gV vs zs) H Q (E σ)) : wpAny (model X.prog X.w) X.A (call (.ref f) us (ks.zip ws)) (EP X pins σ Q) X.xe s :=
  wpAny_call (codeAny_mono (F.run X.A X.stack s H ⟨us, ks.zip ws⟩ (g us ws) (gV vs zs) Q (E σ) room I.env0 (bd.to s us ws I.kIn (r.length.symm.trans l1) (rz.length.symm.trans l2)) (bd.rel r rz) h) fun z t hz => by
    cases z with
    | error e => exact pas pins H s e t I hz
    | ok fl => cases fl with
      | ret u => exact I.after hz
      | next => exact hz.elim
      | brk => exact hz.elim
      | cont => exact hz.elim)
theorem pe_methNE (he : PE X o ta) (c : Cls X.K C) (hm : Meth X.K C m f) (F : FnOk X.prog X.w X.K X.mg X.base CX k f fd ps sp) (hr : Room k X.A) (hb : KBn X.K fd ps (n + 1) ks g gV) (hx : ∀ σ, PassesAt CX X σ (E σ)) (ha : PA X (e :: es) t) (hkw : PK X kws tk)
    (hall : (backToKw pos (keywordEach kws X.env)).all (·.1.isSome) = true := by rfl) (hks : (backToKw pos (keywordEach kws X.env)).filterMap (·.1) = ks := by rfl)
    (hs : starEach (e :: es) X.env = (false, eval e X.env) :: starEach es X.env := by rfl) (hpl : ((backTo pos (starEach (e :: es) X.env)).any (·.1) || (backToKw pos (keywordEach kws X.env)).any (·.1.isNone)) = false := by rfl)
    (ht : eval (.Call (.Attribute o m apos) (e :: es) kws pos) X.env = (eval o X.env >>= fun u => standAt apos.atName >>= fun _ => holding [u] (getMethod u m pl) >>= fun q => callWith pos q.1 q.2 (backTo pos (starEach (e :: es) X.env)) (backToKw pos (keywordEach kws X.env))) := by rfl) :
    PE X (.Call (.Attribute o m apos) (e :: es) kws pos) (tMethNE C m n ks.length sp gV E ta t tk) := ⟨fun pins s σ H Q I h =>
  PySem.W.methodCall_KW (pl := pl) (thn (he.run pins s σ H _ I h) fun u s1 ⟨x, H1, I1, rx, a, dx, fs, ex, ea, l, q⟩ => by
    subst ex
    cases (show u = Value.ref a from rx)
    exact getmeth_ok I1 ea c hm l (PySem.W.callWith_KW (first := [.ref a]) (h₀ := X.base) I.ok.mod.kin hm.kp hall (thn (ha.run pos pins s1 σ H1 _ I1 q) fun us s2 ⟨vs, H2, I2, r, q2⟩ => thn (hkw.run pos pins s2 σ H2 _ I2 q2) fun ws s3 ⟨zs, H3, I3, rz, l1, l2, q3⟩ => ⟨I3.kIn, by
      rw [hks]
      exact call_kwAt (us := .ref a :: us) (vs := .ref a :: vs) F hr hb (hx σ) I3 (.cons rfl r) rz (congrArg (· + 1) l1) l2 q3⟩) hpl hs)) ht⟩
end
/-! ### repr of data with or without dicts -/
def rReprB (K : PySem.W.Frag) : List V → Hp → VK → Prop := fun xs H Q => rRepr K xs H Q ∨ rReprA K xs H Q
theorem call_reprB {X : Cx} (lv : Live X.base) (ng : NoG X.A) (hu : X.A.units + 64 < cLine) : CallR X (.builtin "repr") (rReprB X.K) := fun pins s σ H xs us Q I r h =>
  h.elim (call_repr ng hu pins s σ H xs us Q I r) (call_reprA lv ng hu pins s σ H xs us Q I r)
/-- data that repr is asked of -/
def ReprOk (d : PyData) : Prop := d.showable = true ∧ d.depth ≤ 50 ∧ ((d.hasDict = false ∧ wt d ≤ 10000) ∨ (isRefD d = true ∧ wtA d ≤ 10000))
theorem cx_reprB {K : PySem.W.Frag} {W : Wd} {d : PyData} (h : ReprOk d) : CX1 K W (rReprB K) [.d d] (· = .d (.str d.shown)) := fun vs H j i Q q => by
  obtain ⟨sh, dp, h⟩ := h
  rcases h with ⟨hd, hw⟩ | ⟨rd, hw⟩
  · exact .inl (cx_repr hd sh (by omega) (by omega) vs H j i Q q)
  · exact .inr (cx_reprA rd sh (by omega) (by omega) vs H j i Q q)
end V2

set_option Elab.async false
set_option linter.all false
set_option maxRecDepth 100000
set_option maxHeartbeats 2000000
/-! VSrk: sorted(l) of tuples of a text and a text or whole number. -/
namespace V2
open PySem PySem.Spec PyProof.Rows L2
def ltKey : Key → Key → Bool
  | .inl i, .inl j => decide (i < j)
  | .inr a, .inr b => ltT a b
  | .inl _, .inr _ => true
  | .inr _, .inl _ => false
theorem ltT_irr (x : Str) : ltT x x = false := decide_eq_false (List.lt_irrefl _)
theorem ltKey_irr (p : Key) : ltKey p p = false := by
  cases p with
  | inl i => exact decide_eq_false (Int.lt_irrefl _)
  | inr a => exact ltT_irr a
theorem ltKey_asym {p q : Key} (h : ltKey p q = true) : ltKey q p = false := by
  cases p with
  | inl i =>
    cases q with
    | inl j =>
      have h : i < j := of_decide_eq_true h
      exact decide_eq_false (by omega)
    | inr b => rfl
  | inr a =>
    cases q with
    | inl j => cases h
    | inr b => exact ltT_asym h
theorem ltKey_tr {x y z : Key} (h1 : ltKey y x = false) (h2 : ltKey z y = false) : ltKey z x = false := by
  cases x <;> cases y <;> cases z <;> first
    | rfl
    | (cases h1; done)
    | (cases h2; done)
    | exact ltT_tr h1 h2
    | (have a := of_decide_eq_false h1; have b := of_decide_eq_false h2; exact decide_eq_false (by omega))
abbrev KQ := Str × Key
def lt2K (p q : KQ) : Bool := if p.1 = q.1 then ltKey p.2 q.2 else ltT p.1 q.1
theorem lt2K_swo : SrtO.Swo lt2K := by
  refine ⟨fun p q h => ?_, fun x y z h1 h2 => ?_⟩
  · unfold lt2K at h ⊢
    by_cases e : p.1 = q.1
    · rw [if_pos e] at h
      rw [if_pos e.symm]
      exact ltKey_asym h
    · rw [if_neg e] at h
      rw [if_neg fun z => e z.symm]
      exact ltT_asym h
  · unfold lt2K at h1 h2 ⊢
    have le1 : ltT y.1 x.1 = false := by
      by_cases e : y.1 = x.1
      · rw [e]; exact ltT_irr _
      · rwa [if_neg e] at h1
    have le2 : ltT z.1 y.1 = false := by
      by_cases e : z.1 = y.1
      · rw [e]; exact ltT_irr _
      · rwa [if_neg e] at h2
    by_cases e : z.1 = x.1
    · rw [if_pos e]
      have e1 : y.1 = x.1 := ltT_eq le1 (by rw [← e]; exact le2)
      rw [if_pos e1] at h1
      rw [if_pos (e.trans e1.symm)] at h2
      exact ltKey_tr h1 h2
    · rw [if_neg e]
      exact ltT_tr le1 le2
def sameK : Key → Key → Prop
  | .inl _, .inl _ => True
  | .inr _, .inr _ => True
  | _, _ => False
/-! ### at the library's level -/
abbrev TagK := List (Addr × KQ)
def tagK (l : TagK) : Value → KQ
  | .ref a => (l.lookup a).getD (⟨#[]⟩, .inl 0)
  | _ => (⟨#[]⟩, .inl 0)
def KeyV : Key → Value → Prop
  | .inl i, v => ∃ t, v = .int i t
  | .inr c, v => ∃ t, v = .str c t
def TwoK (h : Heap) (v : Value) (q : KQ) : Prop := ∃ a o t kv n, v = .ref a ∧ h.get? a = some o ∧ o.cls = .type "tuple" ∧ o.data = .seq #[.str q.1 t, kv] n ∧ KeyV q.2 kv
theorem twoK_heads {h : Heap} {k : Value → KQ} : ∀ vs : List Value, (∀ v ∈ vs, TwoK h v (k v)) → ∃ fs : List Value, PySem.W.KatTups h vs fs ∧ fs.length = vs.length ∧ ∀ f ∈ fs, ∃ x t, f = Value.str x t
  | [], _ => ⟨[], .nil, rfl, fun f hf => nomatch hf⟩
  | v :: vs, x => by
    obtain ⟨fs, h1, h2, h3⟩ := twoK_heads vs fun u hu => x u (.tail _ hu)
    obtain ⟨a, o, t, kv, n, rfl, ho, hc, hd, _⟩ := x v (.head _)
    refine ⟨.str _ t :: fs, .cons ho hc hd rfl h1, congrArg Nat.succ h2, fun f hf => ?_⟩
    rcases List.mem_cons.mp hf with rfl | hf
    · exact ⟨_, _, rfl⟩
    · exact h3 f hf
section
variable {prog : Program} {w : World} {A : Around} {E : Value → Shared → Prop} {s : Shared}
theorem twoK_cmp {vs : List Value} {k : Value → KQ} (x : ∀ v ∈ vs, TwoK s.heap v (k v)) (same : ∀ v ∈ vs, ∀ u ∈ vs, (k v).1 = (k u).1 → sameK (k v).2 (k u).2) : SrtO.Cmp prog w A s (tuples' true) (fun p => p.1 ∈ vs) (SrtO.lt2 fun v u => lt2K (k v) (k u)) := fun p q mp mq => by
  have g1 := x _ mp
  have g2 := x _ mq
  have sm := same _ mp _ mq
  show wpAny (model prog w) A (keyLt' (tuples' true) p.1 q.1) (fun r s' => s' = s ∧ r = lt2K (k p.1) (k q.1)) (fun _ _ => False) s
  generalize k p.1 = e at g1 sm ⊢
  generalize k q.1 = f at g2 sm ⊢
  obtain ⟨x1, x2⟩ := e
  obtain ⟨y1, y2⟩ := f
  obtain ⟨a, oa, t1, kx, n, ea, ha, _, da, vx⟩ := g1
  obtain ⟨b, ob, u1, ky, m, eb, hb, _, db, vy⟩ := g2
  rw [ea, eb]
  refine PySem.W.kat_lt ha da hb db ?_
  show PySem.W.KatLex prog w A true (decide (2 < 2)) _ [(.str x1 t1, .str y1 u1), (kx, ky)] 0 s
  refine PySem.W.kat_cons (SeqAt.EqAt.str_str x1 t1 y1 u1 prog w _ _ (PySem.W.kat_go (fun e1 => ?_) fun e1 => ?_))
  · have e1 : x1 = y1 := by simpa using e1
    have r : lt2K (x1, x2) (y1, y2) = ltKey x2 y2 := if_pos e1
    rw [r]
    have sm := sm e1
    cases x2 with
    | inl i =>
      cases y2 with
      | inr c => cases sm
      | inl j =>
        obtain ⟨ti, rfl⟩ := vx
        obtain ⟨tj, rfl⟩ := vy
        refine PySem.W.kat_yes (PySem.W.kat_cons (SeqAt.EqAt.int_int i ti j tj prog w _ _ (PySem.W.kat_go (fun e2 => ?_) fun e2 => ?_)))
        · have e2 : i = j := by simpa using e2
          exact PySem.W.kat_yes (PySem.W.kat_nil ⟨rfl, by rw [e2]; exact (ltKey_irr (.inl j)).symm⟩)
        · exact PySem.W.kat_no (PySem.W.kat_one _ _ (PyProof.Rows.lt_int ⟨rfl, rfl⟩))
    | inr a' =>
      cases y2 with
      | inl j => cases sm
      | inr b' =>
        obtain ⟨ti, rfl⟩ := vx
        obtain ⟨tj, rfl⟩ := vy
        refine PySem.W.kat_yes (PySem.W.kat_cons (SeqAt.EqAt.str_str a' ti b' tj prog w _ _ (PySem.W.kat_go (fun e2 => ?_) fun e2 => ?_)))
        · have e2 : a' = b' := by simpa using e2
          exact PySem.W.kat_yes (PySem.W.kat_nil ⟨rfl, by rw [e2]; exact (ltKey_irr (.inr b')).symm⟩)
        · exact PySem.W.kat_no (PySem.W.kat_one _ _ (PyProof.Rows.lt_str ⟨rfl, rfl⟩))
  · have e1 : ¬ x1 = y1 := by simpa using e1
    have r : lt2K (x1, x2) (y1, y2) = ltT x1 y1 := if_neg e1
    rw [r]
    exact PySem.W.kat_no (oneLt_str ⟨rfl, rfl⟩)
theorem twoK_sortable {a : Addr} {vs : List Value} {k : Value → KQ} (ne : 0 < vs.length) (x : ∀ v ∈ vs, TwoK s.heap v (k v)) (same : ∀ v ∈ vs, ∀ u ∈ vs, (k v).1 = (k u).1 → sameK (k v).2 (k u).2) (na : ∀ o, s.heap.get? a = some o → o.cls ≠ .type "tuple") : SrtO.SortableO prog w A s a vs fun v u => lt2K (k v) (k u) := fun h' keep => by
  have x' : ∀ v ∈ vs, TwoK h' v (k v) := fun v hv => by
    obtain ⟨b, o, t, kv, n, e, ho, hc, hd, hk⟩ := x v hv
    exact ⟨b, o, t, kv, n, e, keep b o (fun z => na o (z ▸ ho) hc) ho, hc, hd, hk⟩
  obtain ⟨fs, g1, g2, g3⟩ := twoK_heads vs x'
  refine ⟨tuples' true, fun Q E q => PySem.W.kat_kind (T := .type "str") g1 (by omega) (fun f hf => ?_) (by rfl) ?_, twoK_cmp x' same⟩
  · obtain ⟨y, t, rfl⟩ := g3 f hf
    exact PySem.W.Looks.now
  · rw [show (Value.type "str" != Value.type "tuple") = true from by first | decide +kernel | rfl | decide]
    exact q
end
/-! ### the rule by values -/
def rSortK : List V → Hp → VK → Prop := fun xs H Q => ∃ (a : Addr) (zs : TagK), xs = [.ref a] ∧ H a = some (.lst (zs.map fun z => V.ref z.1)) ∧ (∀ z ∈ zs, H z.1 = some (.tup [.str z.2.1, kV z.2.2])) ∧ (∀ z ∈ zs, ∀ y ∈ zs, z.2.1 = y.2.1 → sameK z.2.2 y.2.2) ∧
  ∀ (zs' : TagK) (p : Addr), zs'.Perm zs → H p = none → Q (.ref p) (upd H p (.lst (zs'.map fun z => V.ref z.1)))
theorem keyV_of {p : Key} {v : Value} (h : RelV (kV p) v) : KeyV p v := by
  cases p with
  | inl i => exact h
  | inr c => exact h
section
variable {X : Cx}
theorem cr_sortK : CallR X (.builtin "sorted") rSortK := fun pins s σ H xs us Q I r h => by
  obtain ⟨a, zs, rfl, ha, hz, same, q⟩ := h
  obtain rfl := Vals.ref1 r
  obtain ⟨its, rv, hl, sz⟩ := I.list (.inl (.inl ha) : SqL X.K H a _)
  have e0 : its = zs.map fun z => Value.ref z.1 := by
    have : ∀ {zs : TagK} {its : List Value}, Vals (zs.map fun z => V.ref z.1) its → its = zs.map fun z => Value.ref z.1 := by
      intro zs
      induction zs with
      | nil => intro its h; cases h; rfl
      | cons z zs ih => intro its h; cases h with | cons h t => rw [ih t, show _ = Value.ref z.1 from h]; rfl
    exact this rv
  subst e0
  have tag : ∀ z ∈ zs, tagK zs (.ref z.1) = z.2 := fun z hz' => by
    show (zs.lookup z.1).getD _ = z.2
    cases e : zs.lookup z.1 with
    | none =>
      have := List.lookup_eq_none_iff.mp e z hz'
      simp at this
    | some y =>
      obtain ⟨l1, l2, e2, _⟩ := List.lookup_eq_some_iff.mp e
      have m : (z.1, y) ∈ zs := by rw [e2]; exact List.mem_append_right _ (.head _)
      have h1 := hz _ hz'
      have h2 := hz _ m
      have h2 : H z.1 = some (.tup [.str y.1, kV y.2]) := h2
      rw [h1] at h2
      have h3 := (HO.tup.inj (Option.some.inj h2))
      have h4 := List.cons.inj h3
      have h5 := V.str.inj h4.1
      have h6 := (List.cons.inj h4.2).1
      show y = z.2
      refine (Prod.ext h5 ?_).symm
      revert h6
      cases z.2.2 <;> cases y.2 <;> intro h6 <;> first | exact congrArg _ (V.int.inj h6) | exact congrArg _ (V.str.inj h6) | cases h6
  have mem : ∀ v ∈ zs.map (fun z => Value.ref z.1), ∃ z ∈ zs, v = .ref z.1 := fun v hv => by
    obtain ⟨z, m, e⟩ := List.mem_map.mp hv
    exact ⟨z, m, e.symm⟩
  have two : ∀ v ∈ zs.map (fun z => Value.ref z.1), TwoK s.heap v (tagK zs v) := fun v hv => by
    obtain ⟨z, m, rfl⟩ := mem v hv
    rw [tag z m]
    obtain ⟨_, its2, r2, o, ho, hc, n, hd⟩ := I.hok _ _ (hz z m)
    obtain ⟨u1, u2, rfl, ri, rj⟩ := vals2 r2
    obtain ⟨t1, rfl⟩ := ri
    exact ⟨z.1, o, t1, u2, n, rfl, ho, hc, hd, keyV_of rj⟩
  have sam : ∀ v ∈ zs.map (fun z => Value.ref z.1), ∀ u ∈ zs.map (fun z => Value.ref z.1), (tagK zs v).1 = (tagK zs u).1 → sameK (tagK zs v).2 (tagK zs u).2 := fun v hv u hu => by
    obtain ⟨z, m, rfl⟩ := mem v hv
    obtain ⟨y, m2, rfl⟩ := mem u hu
    rw [tag z m, tag y m2]
    exact same z m y m2
  have swo : SrtO.Swo fun v u => lt2K (tagK zs v) (tagK zs u) := ⟨fun a b => lt2K_swo.asym _ _, fun a b c => lt2K_swo.tr _ _ _⟩
  refine SrtO.sorted_ord swo hl.isList (by rw [← rv.length]; exact sz) (fun g2 h1 b hb1 kp => twoK_sortable (by omega) (fun v hv => ?_) sam fun o e => by rw [show ({ s with heap := h1 } : Shared).heap = h1 from rfl, hb1] at e; cases e; exact (by decide : (Value.type "list") ≠ Value.type "tuple")) fun out o1 o2 => ?_
  · obtain ⟨c, o, t, kv, n, e, ho, hc, hd, hk⟩ := two v hv
    exact ⟨c, o, t, kv, n, e, (kp c o ho).2, hc, hd, hk⟩
  obtain ⟨zs', pz, ez⟩ := perm_lift (fun z : Addr × KQ => Value.ref z.1) o2.perm zs rfl
  obtain ⟨ep, he'⟩ := PyProof.Rows.sortedAll_at s.heap (zs.map fun z => Value.ref z.1) out.toArray
  have len : (zs'.map fun z => V.ref z.1).length ≤ sizeLine := by
    rw [List.length_map, pz.length_eq, ← List.length_map (fun z : Addr × KQ => V.ref z.1)]
    exact sz
  refine ⟨.ref _, upd H (s.heap.objs.size + 1) (.lst (zs'.map fun z => V.ref z.1)), I.laid (t' := s.toks) (fun _ _ => PyProof.Rows.sortedAll_old) (Nat.le_succ _) ⟨len, out, ep, ?_, he'⟩, rfl, q zs' _ pz (I.hok.fresh (Nat.le_succ _))⟩
  rw [← ez]
  exact vals_maps (fun z : Addr × KQ => V.ref z.1) (fun z => Value.ref z.1) zs' fun _ _ => rfl
end
end V2

set_option Elab.async false
set_option linter.all false
set_option maxRecDepth 100000
set_option maxHeartbeats 2000000
/-! VTwin: a copy of what a book keeps, the book seen. -/
namespace V2
open PySem PySem.Spec PyProof.Rows L2
section
variable {K : PySem.W.Frag} {W : Wd} {H0 H H' : Hp} {S : Frg} {σ : L2.St} {Δ : Env} {C : Addr}
theorem dcB_in {s : Bk} {G : Vis} {i0 k : Nat} {tt : TT} {f : List Key → Bool} (hn : NoTup W) (c : Cls K C) (n : NoAttr K C "kept") (j : W.J H) (st : StOk K W.M H σ Δ) (e0 : Δ[i0]? = some (some (.o (bkV K C s G)))) (ko : KeysOk s.kp) (small : s.kp.length ≤ 10000) (hk : k < Δ.length) (ik : k ≠ i0)
    (ht : ∀ (W2 : Wd) (b : Addr) (w : Str) (p : Key), shp (kD2 w p) → XT K W2 tt ((((onlyT Δ).set i0 (some (.v (.ref b)))).set k none).set k (some (.t (kD2 w p)))) (· = f [.inr w, p])) {Q : VK}
    (q : ∀ D H' kv, FX W H H' [(D, .dT kv)] → DtT K (hid (W.fix [(D, .dT kv)]).M H') kv (s.kp.filter fun q => f q.1) → (∀ b dx tb o gb kv0, σ[i0]? = some (some (.ref b)) → H b = some (.ins C dx (bkF tb o gb)) → H o = some (.dT kv0) → ∀ r ∈ kv, r ∈ kv0) → Q (.ref D) H') :
    tLockE (tDcT (iKeys (tFld K (tVar i0) "kept")) (gName k) tt (tVar k) (tDGet (tFld K (tVar i0) "kept") (tVar k)) [k]) σ H Q := by
  obtain ⟨v0, g0, z0⟩ := st.get i0 _ e0
  obtain ⟨b, dx, tb, o, gb, rfl, hb, _, ⟨o', kv, eo, ho, dk⟩, _⟩ := z0
  cases eo
  have lk : k < σ.length := by rw [st.len]; exact hk
  refine ⟨o, .dT kv, (hid_some ho).2, trivial, fun od => ?_⟩
  have f0 : FX W H H [] := FX.nil j
  have ho' : hid (W.fix []).M H o = some (.dT kv) := same_nil _ _ ho
  have lf := lock_fx (od := od) f0 ho'
  rw [hid_memS_nil] at lf
  let L := lockT o od (.dT kv)
  have j1 : (W.fix L).J (upd H o (.frz od (.dT kv))) := lf.j.1
  have sl : SameD (hid W.M H) (hid (W.fix L).M (upd H o (.frz od (.dT kv)))) := fun a c nd e => same_out _ _ (lock_same (od := od) (S := []) ho' a c nd (same_nil _ _ e))
  have bo : b ≠ o := fun z => by rw [z, ho] at hb; cases hb
  have hb1 := (hid_some (sl b _ (fun kv z => by cases z) hb))
  refine ⟨_, g0, b, C, dx, _, _, rfl, hb1.2, c, n, rfl, o, od, rfl, .inr ⟨kv, upd_same, ?_⟩⟩
  intro D nD
  let md : Nat → Kept := fun i => (s.kp.take i).filter fun q => f q.1
  have ll : kv.length = s.kp.length := dk.len
  refine ⟨fun i m H2 => m = kv.length - i ∧ i ≤ kv.length ∧ ∃ kv', FX (W.fix L) (upd H o (.frz od (.dT kv))) H2 [(D, .dT kv')] ∧ DtT K (hid ((W.fix L).fix [(D, .dT kv')]).M H2) kv' (md i) ∧ ∀ r ∈ kv', r ∈ kv, ⟨_, rfl, Nat.zero_le _, [], (FX.nil j1).cons nD, .nil, fun _ h => nomatch h⟩, ?_⟩
  rintro i m H2 ⟨rfl, hi, kv', fx, hd, mk⟩
  have fo : H2 o = some (.frz od (.dT kv)) := fx.j.1.2 _ (.head _)
  by_cases li : i < kv.length
  · refine .inr ⟨⟨fo, li⟩, fun H3 => ∃ kv', FX (W.fix L) (upd H o (.frz od (.dT kv))) H3 [(D, .dT kv')] ∧ DtT K (hid ((W.fix L).fix [(D, .dT kv')]).M H3) kv' (md (i + 1)) ∧ ∀ r ∈ kv', r ∈ kv, fun H3 r => ⟨_, by omega, rfl, li, r⟩, ?_⟩
    rintro y H3 ⟨e3, kk, v, qa, hkv, rfl, hq⟩
    subst e3
    obtain ⟨d, hd', dv⟩ := dk.get hkv
    obtain ⟨w, p, ek, esh⟩ := ko.2 _ (List.mem_of_getElem? hd')
    dsimp only at ek
    subst ek
    refine ⟨(show ((σ.set k none).set k (some (.ref qa))).set k none = σ.set k none by rw [List.set_set, List.set_set]), ?_⟩
    have nt : NoTup ((W.fix L).fix [(D, .dT kv')]) := (hn.fix fun p hp xs z => by rw [List.mem_singleton.mp hp] at z; cases z).fix fun p hp xs z => by rw [List.mem_singleton.mp hp] at z; cases z
    have vq := nt.see fx.j hq
    have sH : SameD (hid W.M H) (hid ((W.fix L).fix [(D, .dT kv')]).M H3) := fun a c nd e => fx.seen _ _ (sl a c nd e)
    have stk := (((stOk_onlyT st sH).setSelf (k := i0) (a := .v (.ref b)) g0 rfl).unset k none).set (a := .t (kD2 w p)) k (v := .ref qa) (tk_of vq)
    refine ht _ b w p esh _ _ fx.j stk _ fun c2 H4 f4 ec => ?_
    subst ec
    have fx4 := fx.go f4
    have hd4 := hd.ext f4.same
    have hq4 : H4 qa = some (.tup (([.inr w, p] : List Key).map kV)) := f4.keep _ _ (hid_some vq).1 hq
    have tk1 : s.kp.take (i + 1) = s.kp.take i ++ [([.inr w, p], d)] := by rw [List.take_add_one, hd']; rfl
    cases hf : f [.inr w, p] with
    | false =>
      rw [if_neg (by decide)]
      refine ⟨kv', fx4, ?_, mk⟩
      have e : md (i + 1) = md i := by
        show (s.kp.take (i + 1)).filter _ = _
        rw [tk1, List.filter_append, List.filter_cons_of_neg (by rw [hf]; decide)]
        simp [md]
      rw [e]
      exact hd4
    | true =>
      rw [if_pos rfl]
      have gk : ((σ.set k none).set k (some (V.ref qa)))[k]? = some (some (V.ref qa)) := by rw [List.set_set, List.getElem?_set, if_pos rfl, if_pos lk]
      have gi : ((σ.set k none).set k (some (V.ref qa)))[i0]? = some (some (V.ref b)) := by rw [List.set_set, List.getElem?_set_ne ik]; exact g0
      have nb : ¬ ((W.fix L).fix [(D, .dT kv')]).M b := (hid_some (sH b _ (fun kv z => by cases z) hb)).1
      have hb3 : H4 b = some (.ins C dx (bkF tb o gb)) := f4.keep _ _ nb (hid_some (sH b _ (fun kv z => by cases z) hb)).2
      have hv : valV kv [.inr w, p] = some v := valV_at (by rw [dk.keys]; exact ko.1) hkv
      have lkv : kv'.length ≤ 10000 := by
        rw [hd.len]
        exact Nat.le_trans (List.length_filter_le _ _) (Nat.le_trans (by rw [List.length_take]; omega) small)
      refine ⟨_, gk, _, gi, b, C, dx, _, _, rfl, hb3, c, n, rfl, _, gk, o, v, rfl, .inr ⟨kv, _, qa, .inr ⟨od, fx4.j.1.2 _ (.head _)⟩, rfl, hq4, hv.symm⟩, kv', [.inr w, p], qa, rfl, hq4, fx4.j.2 _ (.head _), Nat.lt_of_le_of_lt lkv (by decide), putK kv' [.inr w, p] v, ?_, ?_, fun r hr => ?_⟩
      · have := fx4.put (o' := .dT (putK kv' [.inr w, p] v)) (.head _)
        rwa [put_hdN fx4.nd] at this
      · have h1 := DtT.put (k := [.inr w, p]) hd4 (Dt.ext f4.same _ _ (Dt.extD sH _ _ dv))
        have h2 := h1.ext (gr_put (W := W.fix L) (S := [(D, .dT kv')]) (o' := .dT (putK kv' [.inr w, p] v)) (.head _))
        rw [put_hdN fx4.nd] at h2
        have e : md (i + 1) = putT (md i) [.inr w, p] d := by
          rw [putT_new]
          · show (s.kp.take (i + 1)).filter _ = _
            rw [tk1, List.filter_append, List.filter_cons_of_pos (by rw [hf])]
            rfl
          · intro r hr e
            obtain ⟨jj, hj⟩ := List.getElem?_of_mem (List.mem_filter.mp hr).1
            rw [List.getElem?_take] at hj
            split at hj
            · rename_i lj
              have h3 : (s.kp.map (·.1))[jj]? = (s.kp.map (·.1))[i]? := by rw [List.getElem?_map, List.getElem?_map, hj, hd', Option.map_some, Option.map_some, e]
              have := (List.getElem?_inj (i := jj) (by rw [List.length_map]; omega) ko.1).mp h3
              omega
            · cases hj
        rw [e]
        exact h2
      · unfold putK at hr
        split at hr
        · obtain ⟨r0, h0, e0⟩ := List.mem_map.mp hr
          split at e0
          · rename_i ek
            rw [← e0, ek]
            exact List.mem_of_getElem? hkv
          · rw [← e0]
            exact mk _ h0
        · rcases List.mem_append.mp hr with hr | hr
          · exact mk _ hr
          · rw [List.mem_singleton.mp hr]
            exact List.mem_of_getElem? hkv
  · obtain rfl : i = kv.length := by omega
    refine .inl ⟨⟨fo, Nat.le_refl _⟩, ?_⟩
    have u := unlock_fx (od := od) f0 ho' (by rw [hid_memS_nil]; exact fx)
    have nD' : ∀ p ∈ [(D, HO.dT kv')], p.1 ≠ o := fun p hp z => (fx.new p hp).2 (.inr ⟨_, .head _, z.symm⟩)
    have e : md kv.length = s.kp.filter fun q => f q.1 := by
      show (s.kp.take kv.length).filter _ = _
      rw [ll, List.take_length]
    rw [e] at hd
    refine ⟨u.1, q D _ kv' u.2.1 (hd.ext (unlock_same nD')) fun b' dx' tb' o1 gb' kv0 e1 e2 e3 r hr => ?_⟩
    rw [g0] at e1
    cases e1
    rw [(hid_some hb).2] at e2
    obtain ⟨_, e2⟩ := HO.ins.inj (Option.some.inj e2)
    have : o = o1 := by
      have z : some (V.ref o) = some (V.ref o1) := congrArg (fun l : List (Str × V) => l.lookup ("kept" : Str)) e2.2
      exact V.ref.inj (Option.some.inj z)
    subst this
    rw [(hid_some ho).2] at e3
    cases e3
    exact mk r hr
theorem kv_eq {α : Type} : ∀ {kv2 kv1 : List (α × V)}, kv2.map (·.1) = kv1.map (·.1) → (kv1.map (·.1)).Nodup → (∀ r ∈ kv2, r ∈ kv1) → kv2 = kv1
  | [], [], _, _, _ => rfl
  | r2 :: t2, r1 :: t1, e, nd, m => by
    rw [List.map_cons, List.map_cons, List.cons.injEq] at e
    rw [List.map_cons, List.nodup_cons] at nd
    have h1 : r2 = r1 := by
      rcases List.mem_cons.mp (m r2 (.head _)) with h | h
      · exact h
      · exact absurd (e.1 ▸ List.mem_map.mpr ⟨r2, h, rfl⟩) nd.1
    have h2 : t2 = t1 := kv_eq e.2 nd.2 fun r hr => by
      rcases List.mem_cons.mp (m r (.tail _ hr)) with h | h
      · exact absurd (by rw [← e.2, ← h]; exact List.mem_map.mpr ⟨r, hr, rfl⟩) nd.1
      · exact h
    rw [h1, h2]
end
end V2

set_option Elab.async false
set_option linter.all false
set_option maxRecDepth 100000
set_option maxHeartbeats 2000000
/-! VEqT: == of dicts whose keys are tuples, the values deep data. -/
namespace V2
open PySem PySem.Spec PyProof.Rows L2
section
variable {prog : Program} {w : World} {κ : Type} [DecidableEq κ] {knd : HeapKind prog w κ} {A : Around} {E : Value → Shared → Prop} {s : Shared}
/-- what is found of each key of the one in the other -/
def HitsT (prog : Program) (w : World) (A : Around) (s : Shared) (ys : List (κ × Addr × Value)) (e : κ → Bool) (x : κ × Addr × Value) : Prop :=
  (atKey ys x.1 = none ∧ e x.1 = false) ∨ ∃ p, atKey ys x.1 = some p ∧ SeqAt.EqP prog w A s x.2.2 p.2 (e x.1)
theorem pairsT {nm : String} {a b : Addr} {xs ys : List (κ × Addr × Value)} {e : κ → Bool} {Q : Bool → Shared → Prop} (na : (a == sysModules) = false) (nb : (b == sysModules) = false) (rm : knd.room A)
    (dx : s.heap.DictOfH knd a xs) (dy : s.heap.DictOfH knd b ys) (hits : xs.length = ys.length → ∀ x ∈ xs, HitsT prog w A s ys e x)
    (q : Q (xs.length == ys.length && xs.all fun x => e x.1) s) : wpAny (model prog w) A (Builtin.Dict.samePairs nm a b) Q E s := by
  obtain ⟨ox, ex, px, gx, _, tx, lx, ix, _⟩ := dx
  obtain ⟨oy, ey, py, gy, _, ty, ly, iy, ny⟩ := dy
  have zx := size_of_entries lx
  have zy := size_of_entries ly
  unfold Builtin.Dict.samePairs Builtin.Dict.showsAll
  rw [na, nb]
  simp only [Bool.false_eq_true, if_false]
  refine wpAny_bind (wpAny_pure (wpAny_bind (wpAny_pure (wpAny_bind (wpAny_dictEntries gx tx ?_)))))
  refine wpAny_bind (wpAny_dictEntries gy ty ?_)
  by_cases sz : xs.length = ys.length
  · rw [if_neg (by rw [zx, zy, sz]; simp)]
    have q' : Q (xs.all fun x => e x.1) s := by simpa [sz] using q
    have hit := hits sz
    refine wpAny_bind (wpAny_dictEpoch gx tx (wpAny_bind ?_))
    rw [Std.Legacy.Range.forIn_eq_forIn_range']
    simp only [Std.Legacy.Range.size, Nat.sub_zero, Nat.add_sub_cancel, Nat.div_one]
    refine wpAny_forIn_list _ (fun r z s' => s' = s ∧ z = (none, ()) ∧ ∃ j, r = List.range' j (ex.size - j) ∧ j ≤ xs.length ∧ (xs.take j).all (fun x => e x.1) = true) _ ?_ ?_ _ _ ⟨rfl, rfl, 0, by simp, Nat.zero_le _, rfl⟩
    · rintro j0 r z s' ⟨rfl, rfl, j, er, hj, al⟩
      have lt : j < xs.length := by
        rcases Nat.lt_or_ge j xs.length with l | l
        · exact l
        · rw [show ex.size - j = 0 by omega] at er
          simp at er
      have er2 : ex.size - j = (ex.size - (j + 1)) + 1 := by omega
      rw [er2, List.range'_succ] at er
      injection er with e1 e2
      subst e1
      refine wpAny_bind (wpAny_dictEntries gx tx ?_)
      have en : ex[j0]? = some (entryOfKey knd xs[j0]) := by rw [entry_at lx j0, List.getElem?_eq_getElem lt]; rfl
      rw [en]
      have mem : xs[j0] ∈ xs := List.getElem_mem lt
      have hm := hit _ mem
      have kx := ix _ mem
      have tk : xs.take (j0 + 1) = xs.take j0 ++ [xs[j0]] := by rw [List.take_add_one, List.getElem?_eq_getElem lt]; rfl
      have al1 : (xs.take (j0 + 1)).all (fun x => e x.1) = e xs[j0].1 := by rw [tk, List.all_append, al]; simp
      have tot : e xs[j0].1 = false → xs.all (fun x => e x.1) = false := fun z => by
        rw [List.all_eq_false]
        exact ⟨_, mem, by rw [z]; decide⟩
      generalize xs[j0] = x at hm kx al1 tot
      dsimp only [entryOfKey]
      refine wpAny_bind (wpAny_holding (wpAny_bind (wpAny_dictFind_heap rm kx gy ty ly iy ny (fun no => ?_) fun j p hp => ?_)))
      · have an := atKey_none_of_get no
        rcases hm with ⟨_, ef⟩ | ⟨p, hp, _⟩
        · have t := tot ef
          rw [t] at q'
          refine wpAny_pure ?_
          simp only [Bool.not_false, if_true]
          exact wpAny_pure (wpAny_pure q')
        · rw [an] at hp
          cases hp
      · have ap := atKey_of_get ny hp
        have en2 : ey[j]? = some (entryOfKey knd (x.1, p)) := by rw [entry_at ly j, hp]; rfl
        refine wpAny_bind (wpAny_dictEntries gy ty ?_)
        rw [en2]
        rcases hm with ⟨no, _⟩ | ⟨p', hp', he⟩
        · rw [ap] at no
          cases no
        · rw [ap] at hp'
          cases hp'
          refine wpAny_holding (he _ _ ?_)
          cases ee : e x.1 with
          | false =>
            have t := tot ee
            rw [t] at q'
            simp only [Bool.not_false, if_true]
            exact wpAny_pure (wpAny_pure q')
          | true =>
            simp only [Bool.not_true, Bool.false_eq_true, if_false]
            refine wpAny_bind (wpAny_dictEpoch gx tx ?_)
            rw [if_neg (by simp)]
            exact wpAny_pure ⟨rfl, rfl, j0 + 1, e2, lt, by rw [al1, ee]⟩
    · rintro z s' ⟨rfl, rfl, j, er, hj, al⟩
      have jl : j = xs.length := by
        rcases Nat.lt_or_ge j xs.length with l | l
        · rw [show ex.size - j = (ex.size - (j + 1)) + 1 by omega, List.range'_succ] at er
          exact nomatch er
        · omega
      rw [jl, List.take_length] at al
      rw [al] at q'
      exact wpAny_pure q'
  · rw [if_pos (by rw [zx, zy]; simpa using sz)]
    have ne : (xs.length == ys.length) = false := by simpa using sz
    rw [ne, Bool.false_and] at q
    exact wpAny_bind (wpAny_rule (wpAny_pure q))
theorem rcT {a b : Addr} {xs ys : List (κ × Addr × Value)} {e : κ → Bool} (na : (a == sysModules) = false) (nb : (b == sysModules) = false) (rm : knd.room A.in1) (hu : A.units < cLine)
    (dx : s.heap.DictOfH knd a xs) (dy : s.heap.DictOfH knd b ys) (hits : xs.length = ys.length → ∀ x ∈ xs, HitsT prog w A.in1 s ys e x) (E Q : Value → Shared → Prop)
    (q : Q (.bool (xs.length == ys.length && xs.all fun x => e x.1)) s) : wpAny (model prog w) A (richCompare .Eq (.ref a) (.ref b)) Q E s := by
  refine wpAny_richCompare_same_room (op := .Eq) dx.typeIs dy.typeIs PySem.F.slot_dict_eq ?_ hu
  refine wpAny_call_entry PySem.F.slot_dict_eq dx.typeIs PySem.F.entry_dict_eq ?_ (PySem.F.args_dict_eq_2 _ _)
  show wpAny _ _ (Builtin.Dict.dictSlotArgs "__eq__" { pos := [.ref a, .ref b], kw := [] } >>= _) _ _ s
  unfold Builtin.Dict.dictSlotArgs
  refine wpAny_bind (wpAny_bind (wpAny_notOrdered_dict dx.typeIs ?_))
  show wpAny _ _ (pure ((Value.ref a), (Value.ref b))) _ _ s
  refine wpAny_pure (wpAny_bind (wpAny_isInstance (T := "dict") dy.typeIs PySem.F.sub_dict_dict ?_))
  simp only [Bool.not_true, Bool.false_eq_true, if_false]
  refine wpAny_bind (wpAny_pure (wpAny_bind (wpAny_pure (wpAny_bind (pairsT na nb rm dx dy hits (wpAny_pure ⟨_, rfl, (fun z => nomatch z), ?_⟩))))))
  simpa using q
end
/-! ### by values -/
def eqKept (kp kp' : Kept) : Bool := kp.length == kp'.length && kp.all fun p => match getT kp' p.1 with | none => false | some d => PyData.eqv p.2 d
structure KeptShp (kp : Kept) : Prop where
  s : ∀ p ∈ kp, shp p.2
def rEqT (K : PySem.W.Frag) : R2 := fun x y H Q => ∃ (a b : Addr) (ks ls : List (List Key × V)) (kp kp' : Kept), x = .ref a ∧ y = .ref b ∧ H a = some (.dT ks) ∧ H b = some (.dT ls) ∧ DtT K H ks kp ∧ DtT K H ls kp' ∧ KeptShp kp ∧ KeptShp kp' ∧ (kp.map (·.1)).Nodup ∧ Q (.bl (eqKept kp kp')) H
theorem kt_get {H : Hp} {kvs : List (List Key × V)} {xs : List (List Key × Addr × Value)} (h : KT H kvs xs) : ∀ x ∈ xs, ∃ v, (x.1, v) ∈ kvs ∧ RelV v x.2.2 := by
  induction h with
  | nil => exact fun x h => nomatch h
  | @cons p q ps qs h t ih =>
    intro x hx
    rcases List.mem_cons.mp hx with rfl | hx
    · exact ⟨p.2, by rw [← h.1]; exact .head _, h.2.2⟩
    · obtain ⟨v, m, r⟩ := ih x hx
      exact ⟨v, .tail _ m, r⟩
theorem kt_keys {H : Hp} {kvs : List (List Key × V)} {xs : List (List Key × Addr × Value)} (h : KT H kvs xs) : xs.map (·.1) = kvs.map (·.1) := by
  induction h with
  | nil => rfl
  | cons h _ ih => rw [List.map_cons, List.map_cons, ih, h.1]
theorem dtT_mem {K : PySem.W.Frag} {H : Hp} {kv : List (List Key × V)} {kp : Kept} (h : DtT K H kv kp) {k : List Key} {v : V} (m : (k, v) ∈ kv) : ∃ d, (k, d) ∈ kp ∧ Dt K H v d := by
  obtain ⟨i, hi⟩ := List.getElem?_of_mem m
  obtain ⟨d, hd, dv⟩ := h.get hi
  exact ⟨d, List.mem_of_getElem? hd, dv⟩
theorem getT_mem' {kp : Kept} {k : List Key} {d : PyData} (h : getT kp k = some d) : ∃ p ∈ kp, p.1 = k ∧ p.2 = d := by
  unfold getT at h
  obtain ⟨p, hp, rfl⟩ := Option.map_eq_some_iff.mp h
  exact ⟨p, List.mem_of_find?_eq_some hp, by simpa using List.find?_some hp, rfl⟩
theorem op_eqT {X : Cx} (hu : X.A.units + 66 < cLine) : OpR X (compareOp .Eq) (rEqT X.K) := by
  intro pins s σ H x y v u Q I rx ry h
  obtain ⟨a, b, ks, ls, kp, kp', rfl, rfl, ha, hb, da, db, sa, sb, nd, q⟩ := h
  cases rx
  cases ry
  obtain ⟨_, na, xs, rx, dx⟩ := dt_of I.hok ha
  obtain ⟨_, nb, ys, ry, dy⟩ := dt_of I.hok hb
  have e1 : xs.length = kp.length := by rw [← Paired.length rx, da.len]
  have e2 : ys.length = kp'.length := by rw [← Paired.length ry, db.len]
  let e : List Key → Bool := fun k => match getT kp k, getT kp' k with | some d, some d' => PyData.eqv d d' | _, _ => false
  have hk : xs.map (·.1) = kp.map (·.1) := by rw [← da.keys]; exact kt_keys rx
  have gk : ∀ p ∈ kp, getT kp p.1 = some p.2 := fun p hp => by
    obtain ⟨i, hi⟩ := List.getElem?_of_mem hp
    have : ∀ {kp : Kept} {i : Nat} {p : List Key × PyData}, (kp.map (·.1)).Nodup → kp[i]? = some p → getT kp p.1 = some p.2 := by
      intro kp
      induction kp with
      | nil => intro i p _ e; cases e
      | cons r l ih =>
        intro i p nd e
        rw [List.map_cons, List.nodup_cons] at nd
        cases i with
        | zero => cases e; simp [getT]
        | succ i =>
          have e : l[i]? = some p := e
          have ne : ¬ r.1 = p.1 := fun z => nd.1 (List.mem_map.mpr ⟨p, List.mem_of_getElem? e, z.symm⟩)
          have g : getT (r :: l) p.1 = getT l p.1 := by simp [getT, List.find?_cons, ne]
          rw [g]
          exact ih nd.2 e
    exact this nd hi
  have tot : (xs.length == ys.length && xs.all fun x => e x.1) = eqKept kp kp' := by
    have z : (xs.all fun x => e x.1) = (kp.all fun p => e p.1) := by
      have a1 : (xs.all fun x => e x.1) = (xs.map (·.1)).all e := by rw [List.all_map]; rfl
      have a2 : (kp.all fun p => e p.1) = (kp.map (·.1)).all e := by rw [List.all_map]; rfl
      rw [a1, a2, hk]
    have z2 : (kp.all fun p => e p.1) = kp.all fun p => match getT kp' p.1 with | none => false | some d => PyData.eqv p.2 d := by
      rw [Bool.eq_iff_iff, List.all_eq_true, List.all_eq_true]
      refine forall_congr' fun p => forall_congr' fun hp => ?_
      have : e p.1 = match getT kp' p.1 with | none => false | some d => PyData.eqv p.2 d := by
        show (match getT kp p.1, getT kp' p.1 with | some d, some d' => PyData.eqv d d' | _, _ => false) = _
        rw [gk p hp]
        cases getT kp' p.1 <;> rfl
      rw [this]
    unfold eqKept
    rw [e1, e2, z, z2]
  refine rcT (knd := tupleKind (mixKind X.prog X.w)) (e := e) na nb (tupleKind_room_in1 (by omega)) (by omega) dx dy (fun _ x hx => ?_) _ _ ?_
  · obtain ⟨v1, m1, r1⟩ := kt_get rx x hx
    obtain ⟨d1, md, dv1⟩ := dtT_mem da m1
    have g1 : getT kp x.1 = some d1 := gk (x.1, d1) md
    have rel := ry.val x.1
    rcases db.val (k := x.1) with ⟨z1, z2⟩ | ⟨v2, d2, z1, z2, dv2⟩
    · rw [z1] at rel
      refine .inl ⟨?_, ?_⟩
      · cases h : atKey ys x.1 with
        | none => rfl
        | some p => rw [h] at rel; exact (show False from rel).elim
      · show (match getT kp x.1, getT kp' x.1 with | some d, some d' => PyData.eqv d d' | _, _ => false) = false
        rw [g1, z2]
    · rw [z1] at rel
      cases h : atKey ys x.1 with
      | none => rw [h] at rel; exact (show False from rel).elim
      | some p =>
        rw [h] at rel
        have rel : RelV v2 p.2 := rel
        refine .inr ⟨p, h, ?_⟩
        obtain ⟨p2, mp2, ep1, ep2⟩ := getT_mem' z2
        have h1 := sa.s _ md
        have h2 := sb.s _ mp2
        rw [ep2] at h2
        obtain ⟨as, ra⟩ := Dp.reads I d1 v1 _ (Dt.dp _ _ h1.1 dv1) r1
        obtain ⟨bs, rb⟩ := Dp.reads I d2 v2 _ (Dt.dp _ _ h2.1 dv2) rel
        have : e x.1 = PyData.eqv d1 d2 := by
          show (match getT kp x.1, getT kp' x.1 with | some d, some d' => PyData.eqv d d' | _, _ => false) = _
          rw [g1, z2]
        rw [this]
        exact (PySem.W.keq_at ra rb h1.2 h2.2 (by show X.A.units + 1 + 64 < _; omega)).eqP
  · rw [tot]
    exact ⟨.bl _, H, I, rfl, q⟩
end V2

set_option Elab.async false
set_option linter.all false
set_option maxRecDepth 100000
set_option maxHeartbeats 2000000
/-! VOwnB: == by one's own __eq__, true or false. -/
namespace V2
open PySem PySem.Spec PyProof.Rows L2
section
open PySem.SeqAt AutoSeq1 MeetsSeq MeetsSeq2 MeetsSeq3 SeqRoads2
variable {prog : Program} {w : World} {A : Around} {R : Result → Shared → Prop}
/-- each turn reads both lists anew: n items each; e tells which places are alike -/
structure TurnB (prog : Program) (w : World) (A : Around) (X : Value → Shared → Prop) (p q : Addr) (n : Nat) (e : Nat → Bool) (I : Shared → Prop) : Prop where
  t : ∀ s, I s → ∃ (xs ys : Array Value) (c d : Nat), s.heap.get? p = some { cls := .type "list", data := .seq xs c } ∧ s.heap.get? q = some { cls := .type "list", data := .seq ys d } ∧ xs.size = n ∧ ys.size = n ∧
    ∀ i (h : i < xs.size) (h' : i < ys.size), wpAny (model prog w) A.in1 (eqBool xs[i] ys[i]) (fun r s' => r = e i ∧ I s') X s
theorem loopB {p q : Addr} {n : Nat} {e : Nat → Bool} {I : Shared → Prop} (tn : TurnB prog w A (fun z s' => R (.error z) s') p q n e I) (m : Nat) :
    ∀ i, n - i = m → i ≤ n → (∀ s, I s → R (.ok (.ret (.bool (((List.range n).drop i).all e)))) s) → ∀ s, I s →
      wpAny (model prog w) A.in1 (Builtin.«list.__eq__.loop» { pos := [.ref p, .ref q, rawInt i, rawInt 2], kw := [] }) (GQ.FinOf prog w A R) (fun z s' => R (.error z) s') s := by
  induction m with
  | zero =>
    intro i em li fin s h
    obtain ⟨xs, ys, c, d, gp, gq, lx, ly, _⟩ := tn.t s h
    have f := fin s h
    have ei : i = n := by omega
    have dr : (List.range n).drop i = [] := List.drop_eq_nil_of_le (by rw [List.length_range]; omega)
    rw [dr] at f
    obtain ⟨hp, g, dd, tk, os⟩ := s
    wp_walk using wpAny_loadPart' gp, wpAny_loadPart' gq
    have z1 : xs[((i : Nat) : Int).toNat]? = none := by simp; omega
    have z2 : ys[((i : Nat) : Int).toNat]? = none := by simp; omega
    rw [z1, z2]
    wp_walk using wpAny_loadPart' gp, wpAny_loadPart' gq
    show R (.ok (.ret (.bool (xs.size == ys.size)))) _
    rw [lx, ly]
    simpa using f
  | succ m ih =>
    intro i em li fin s h
    obtain ⟨xs, ys, c, d, gp, gq, lx, ly, turn⟩ := tn.t s h
    have l1 : i < xs.size := by omega
    have l2 : i < ys.size := by omega
    have tu := turn i l1 l2
    obtain ⟨hp, g, dd, tk, os⟩ := s
    wp_walk using wpAny_loadPart' gp, wpAny_loadPart' gq
    have z1 : xs[((i : Nat) : Int).toNat]? = some xs[i] := by simp [l1]
    have z2 : ys[((i : Nat) : Int).toNat]? = some ys[i] := by simp [l2]
    have nx : ((i : Int) + 1) = ((i + 1 : Nat) : Int) := by omega
    rw [z1, z2]
    have dr : (List.range n).drop i = i :: (List.range n).drop (i + 1) := by
      rw [List.drop_eq_getElem_cons (by rw [List.length_range]; omega), List.getElem_range]
    refine wpAny_bind (wpAny_mono tu (fun r s2 h2 => ?_) fun _ _ z => z)
    obtain ⟨er, h2⟩ := h2
    subst er
    cases ee : e i with
    | true =>
      have go := ih (i + 1) (by omega) (by omega) (fun s h => by
        have f := fin s h
        rw [dr, List.all_cons, ee, Bool.true_and] at f
        exact f) s2 h2
      obtain ⟨hp2, g2, dd2, tk2, os2⟩ := s2
      wp_walk
      rw [nx]
      refine ⟨plainId_quiet plain_eq_loop _, codeAny_builtin entry_eq_loop ?_⟩
      rw [Around.under_plainId plain_eq_loop _]
      exact go
    | false =>
      have f := fin s2 h2
      rw [dr, List.all_cons, ee, Bool.false_and] at f
      obtain ⟨xs2, ys2, c2, d2, gp2, gq2, lx2, ly2, _⟩ := tn.t s2 h2
      obtain ⟨hp2, g2, dd2, tk2, os2⟩ := s2
      wp_walk using wpAny_loadPart' gp2, wpAny_loadPart' gq2
      have y1 : xs2[((i : Nat) : Int).toNat]? = some xs2[i] := by simp
      have y2 : ys2[((i : Nat) : Int).toNat]? = some ys2[i] := by simp
      rw [y1, y2]
      wp_walk
      exact f
theorem listB {p q : Addr} {xs ys : Array Value} {c d : Nat} {e : Nat → Bool} {I : Shared → Prop} {s : Shared} (gp : s.heap.get? p = some { cls := .type "list", data := .seq xs c }) (gq : s.heap.get? q = some { cls := .type "list", data := .seq ys d })
    (tn : xs.size = ys.size → TurnB prog w A (fun z s' => R (.error z) s') p q xs.size e I) (fin : ∀ s, I s → R (.ok (.ret (.bool (xs.size == ys.size && (List.range xs.size).all e)))) s) (h : I s) :
    wpAny (model prog w) A.in1 (Builtin.«list.__eq__» { pos := [.ref p, .ref q], kw := [] }) (GQ.FinOf prog w A R) (fun z s' => R (.error z) s') s := by
  have ll := AutoSeq1.sub_list_list
  by_cases sz : xs.size = ys.size
  · have go := loopB (tn sz) _ 0 rfl (Nat.zero_le _) (fun s h => by
      have f := fin s h
      rw [sz] at f
      simpa [sz] using f) s h
    obtain ⟨hp, g, dd, tk, os⟩ := s
    have ne : ¬ (xs.size != ys.size) = true := by simp [sz]
    wp_walk using wpAny_loadPart' gp, wpAny_loadPart' gq
    refine ⟨plainId_quiet plain_eq_loop _, codeAny_builtin entry_eq_loop ?_⟩
    rw [Around.under_plainId plain_eq_loop _]
    exact go
  · have f := fin s h
    have n1 : (xs.size == ys.size) = false := by simpa using sz
    rw [n1, Bool.false_and] at f
    obtain ⟨hp, g, dd, tk, os⟩ := s
    have ne : (xs.size != ys.size) = true := by simpa using sz
    wp_walk using wpAny_loadPart' gp, wpAny_loadPart' gq
    exact f
end
section
variable {prog : Program} {w : World} {A : Around} {E : Value → Shared → Prop} {s : Shared}
theorem rc_listB {p q : Addr} {xs ys : Array Value} {c d : Nat} {e : Nat → Bool} {I : Shared → Prop} {Q : Value → Shared → Prop} (hu : A.units < cLine) (gp : s.heap.get? p = some { cls := .type "list", data := .seq xs c }) (gq : s.heap.get? q = some { cls := .type "list", data := .seq ys d })
    (tn : xs.size = ys.size → TurnB prog w A E p q xs.size e I) (fin : ∀ s, I s → Q (.bool (xs.size == ys.size && (List.range xs.size).all e)) s) (h : I s) : wpAny (model prog w) A (richCompare .Eq (.ref p) (.ref q)) Q E s := by
  refine wpAny_richCompare_same_room (op := .Eq) ⟨_, gp, rfl⟩ ⟨_, gq, rfl⟩ F.slot_list_eq (GQ.call_here F.slot_list_eq ⟨_, gp, rfl⟩ F.entry_list_eq (F.args_list_eq_2 _ _) ?_) hu
  exact listB (R := wants (fun v s' => v ≠ .notImplemented ∧ Q v s') E) gp gq tn (fun s' h => ⟨(fun z => nomatch z), fin s' h⟩) h
end
/-! ### == that is true or false -/
abbrev EqvB := V → V → Hp → Bool → Prop
def MonB (D : EqvB) : Prop := ∀ x y H H' b, L2.Ext H H' → D x y H b → D x y H' b
def EqB (X : Cx) (n : Nat) (D : EqvB) : Prop :=
  ∀ (A : Around) (pins : List (Addr × Obj)) (s : Shared) (σ : L2.St) (H : Hp) (x y : V) (u v : Value) (b : Bool), Sub X n A → Inv X pins σ H s → RelV x u → RelV y v → D x y H b →
    wpAny (model X.prog X.w) A (eqBool u v) (fun r s' => r = b ∧ ∃ H', Inv X pins σ H' s' ∧ L2.Ext H H') X.xe s
def RcB (X : Cx) (n : Nat) (D : EqvB) : Prop :=
  ∀ (A : Around) (pins : List (Addr × Obj)) (s : Shared) (σ : L2.St) (H : Hp) (x y : V) (u v : Value) (b : Bool), Sub X n A → Inv X pins σ H s → RelV x u → RelV y v → D x y H b →
    wpAny (model X.prog X.w) A (richCompare .Eq u v) (fun r s' => r = .bool b ∧ ∃ H', Inv X pins σ H' s' ∧ L2.Ext H H') X.xe s
section
variable {X : Cx} {n m : Nat} {D : EqvB}
theorem RcB.eqB (h : RcB X n D) (hr : ∀ x y H b, D x y H b → ∃ p q, x = .ref p ∧ y = .ref q ∧ (p = q → b = true)) : EqB X n D := by
  intro A pins s σ H x y u v b sb I rx ry d
  obtain ⟨p, q, rfl, rfl, id⟩ := hr _ _ _ _ d
  cases rx
  cases ry
  by_cases pq : p = q
  · subst pq
    exact SeqAt.EqAt.same (A := A) (s := s) (.ref p) X.prog X.w X.xe _ ⟨(id rfl).symm, H, I, Ext.rfl'⟩
  · refine GQ.eqBool_refG pq (wpAny_mono (h A pins s σ H (.ref p) (.ref q) _ _ b sb I rfl rfl d) (fun r s' z => ?_) fun _ _ z => z)
    obtain ⟨er, z⟩ := z
    exact ⟨b, er, rfl, z⟩
/-- two lists, place by place -/
def LstB (D : EqvB) : EqvB := fun x y H b => ∃ p q xs ys e, x = .ref p ∧ y = .ref q ∧ H p = some (.lst xs) ∧ H q = some (.lst ys) ∧
  (xs.length = ys.length → ∀ (i : Nat) x y, xs[i]? = some x → ys[i]? = some y → D x y H (e i)) ∧ b = (xs.length == ys.length && (List.range xs.length).all e)
theorem rcB_list (mD : MonB D) (h : EqB X n D) : RcB X (n + 1) (LstB D) := by
  intro A pins s σ H x y u v b sb I rx ry d
  obtain ⟨p, q, xs, ys, e, rfl, rfl, hp, hq, hd, rfl⟩ := d
  cases rx
  cases ry
  obtain ⟨z1, its, k1, r1, g1⟩ := I.hok p _ hp
  obtain ⟨z2, its2, k2, r2, g2⟩ := I.hok q _ hq
  have s1 : its.toArray.size = xs.length := by rw [List.size_toArray, ← r1.length]
  have s2 : its2.toArray.size = ys.length := by rw [List.size_toArray, ← r2.length]
  refine rc_listB (e := e) (I := fun s' => ∃ H', Inv X pins σ H' s' ∧ L2.Ext H H') sb.room.units0 g1 g2 (fun sz => ⟨fun s' ⟨H1, I1, e1⟩ => ?_⟩) (fun s' hs => ⟨by rw [s1, s2], hs⟩) ⟨H, I, Ext.rfl'⟩
  obtain ⟨y1, jts, c1, q1, h1⟩ := I1.hok p _ (e1 _ _ hp)
  obtain ⟨y2, jts2, c2, q2, h2⟩ := I1.hok q _ (e1 _ _ hq)
  refine ⟨jts.toArray, jts2.toArray, c1, c2, h1, h2, by rw [List.size_toArray, ← q1.length, s1], by rw [List.size_toArray, ← q2.length, s1, ← s2, ← sz, s1], fun i l1 l2 => ?_⟩
  have l1' : i < jts.length := by simpa using l1
  have l2' : i < jts2.length := by simpa using l2
  have k1' : i < xs.length := by rw [q1.length]; exact l1'
  have k2' : i < ys.length := by rw [q2.length]; exact l2'
  obtain ⟨u1, hu1, ru1⟩ := q1.get (List.getElem?_eq_getElem k1')
  obtain ⟨u2, hu2, ru2⟩ := q2.get (List.getElem?_eq_getElem k2')
  have f1 : jts.toArray[i] = u1 := by
    rw [List.getElem?_eq_getElem l1'] at hu1
    have := Option.some.inj hu1
    simpa using this
  have f2 : jts2.toArray[i] = u2 := by
    rw [List.getElem?_eq_getElem l2'] at hu2
    have := Option.some.inj hu2
    simpa using this
  rw [f1, f2]
  refine wpAny_mono (h A.in1 pins s' σ H1 _ _ u1 u2 (e i) sb.in1 I1 ru1 ru2 (mD _ _ _ _ _ e1 (hd (by rw [← s1, ← s2, sz]) i _ _ (List.getElem?_eq_getElem k1') (List.getElem?_eq_getElem k2')))) (fun r s2 z => ?_) fun _ _ z => z
  obtain ⟨er, H2, I2, e2⟩ := z
  exact ⟨er, H2, I2, e1.trans e2⟩
/-- instances of a class with an == of its own -/
def InsB (C : Addr) (R : Addr → Addr → Hp → Bool → Prop) : EqvB := fun x y H b => ∃ p q dx dy fs gs, x = .ref p ∧ y = .ref q ∧ H p = some (.ins C dx fs) ∧ H q = some (.ins C dy gs) ∧ R p q H b
def spEqB (R : Addr → Addr → Hp → Bool → Prop) : Sp := fun vs H Q _ => ∃ p q b, vs = [.ref p, .ref q] ∧ R p q H b ∧ ∀ H', L2.Ext H H' → Q (.bl b) H'
theorem rcB_ins {CX : CXT} {C f : Addr} {fd : FuncData} {ps : List Str} {R : Addr → Addr → Hp → Bool → Prop} {E : XK} (F : FnOk X.prog X.w X.K X.mg X.base CX n f fd ps (spEqB R))
    (hs : PySem.W.findIn X.K (.ref C) "__eq__" = some (some (.ref f))) (hf : PySem.W.isFn X.K (.ref f) = true) (hb : Binds X.K fd ps []) (hx : Passes CX X E) : RcB X n (InsB C R) := by
  intro A pins s σ H x y u v b sb I rx ry d
  obtain ⟨p, q, dx, dy, fs, gs, rfl, rfl, hp, hq, hr⟩ := d
  cases rx
  cases ry
  obtain ⟨_, J, _⟩ := ins_get I.hok hp
  obtain ⟨_, J', _⟩ := ins_get I.hok hq
  obtain ⟨_, J, _⟩ := J.look
  obtain ⟨_, J', _⟩ := J'.look
  obtain ⟨fr, hF⟩ := I.fr
  refine PySem.W.cmp_K (op := .Eq) (tb := .ref C) sb.room.units0 hF I.ok.mod.kin J J'.type (by simp [PySem.W.notFirst]) hs hf ?_
  have sp : spEqB R [.ref p, .ref q] H (fun v H' => v = .bl b ∧ L2.Ext H H') E := ⟨p, q, b, rfl, hr, fun H' e => ⟨rfl, e⟩⟩
  have e0 : Env0 X.prog X.w X.K X.mg X.base A X.stack s H := by
    have z := I.env0
    exact ⟨by rw [sb.fr]; exact z.frames, z.mod, z.bs, z.bsz, z.funs, z.frf, z.hok, z.bare⟩
  have len := F.len _ _ _ _ sp
  have bd : BindsTo s fd ⟨[.ref p, .ref q], []⟩ (ps.zip [Value.ref p, Value.ref q]) := by
    have z := hb s [.ref p, .ref q] I.kIn (by simpa using len)
    simpa using z
  refine wpAny_call (codeAny_mono (F.run A X.stack s H ⟨[.ref p, .ref q], []⟩ _ [.ref p, .ref q] _ E sb.room e0 bd (.cons rfl (.cons rfl .nil)) sp) fun r s' hq => ?_)
  rcases r with z | (_ | _ | _ | u)
  · exact hx pins σ H s z s' I hq
  · exact hq.elim
  · exact hq.elim
  · exact hq.elim
  · obtain ⟨v, H', I', rv, ev, ex⟩ := I.after hq
    subst ev
    cases rv
    exact ⟨rfl, H', I', ex⟩
def rEqB (D : EqvB) : R2 := fun x y H Q => ∃ b, D x y H b ∧ ∀ H', L2.Ext H H' → Q (.bl b) H'
theorem op_eqB (h : RcB X n D) (hr : Room n X.A) : OpR X (compareOp .Eq) (rEqB D) := by
  intro pins s σ H x y v u Q I rx ry hq
  obtain ⟨b, d, q⟩ := hq
  show wpAny (model X.prog X.w) X.A (richCompare .Eq v u) (EP X pins σ Q) X.xe s
  refine wpAny_mono (h X.A pins s σ H x y v u b ⟨hr, rfl⟩ I rx ry d) (fun r s' z => ?_) fun _ _ z => z
  obtain ⟨er, H', I', e⟩ := z
  subst er
  exact ⟨.bl b, H', I', rfl, q H' e⟩
end
end V2

set_option Elab.async false
set_option linter.all false
set_option maxRecDepth 100000
set_option maxHeartbeats 2000000
/-! VEqK: == of dicts whose keys are texts, the values deep data. -/
namespace V2
open PySem PySem.Spec PyProof.Rows L2
def eqS (sd sd' : Sdt) : Bool := sd.length == sd'.length && sd.all fun p => match getS sd' p.1 with | none => false | some d => PyData.eqv p.2 d
def rEqK (K : PySem.W.Frag) : R2 := fun x y H Q => ∃ (a b : Addr) (ks ls : List (Key × V)) (sd sd' : Sdt), x = .ref a ∧ y = .ref b ∧ H a = some (.dK ks) ∧ H b = some (.dK ls) ∧ DtS K H ks sd ∧ DtS K H ls sd' ∧ (∀ p ∈ sd, shp p.2) ∧ (∀ p ∈ sd', shp p.2) ∧ (sd.map (·.1)).Nodup ∧ Q (.bl (eqS sd sd')) H
theorem dtS_at {K : PySem.W.Frag} {H : Hp} {kv : List (Key × V)} {sd : Sdt} (h : DtS K H kv sd) {k : Key} {v : V} (m : (k, v) ∈ kv) : ∃ c d, k = .inr c ∧ (c, d) ∈ sd ∧ Dt K H v d := by
  induction h with
  | nil => cases m
  | @cons c u d kv sd hd _ ih =>
    rcases List.mem_cons.mp m with e | m
    · cases e
      exact ⟨c, d, rfl, .head _, hd⟩
    · obtain ⟨c, d, e, m, hd⟩ := ih m
      exact ⟨c, d, e, .tail _ m, hd⟩
theorem getS_nd {sd : Sdt} (nd : (sd.map (·.1)).Nodup) {c : Str} {d : PyData} (m : (c, d) ∈ sd) : getS sd c = some d := by
  induction sd with
  | nil => cases m
  | cons r l ih =>
    rw [List.map_cons, List.nodup_cons] at nd
    rcases List.mem_cons.mp m with e | m
    · rw [← e]; simp [getS]
    · have ne : ¬ r.1 = c := fun z => nd.1 (List.mem_map.mpr ⟨_, m, z.symm⟩)
      have g : getS (r :: l) c = getS l c := by simp [getS, List.find?_cons, ne]
      rw [g]
      exact ih nd.2 m
theorem getS_in {sd : Sdt} {c : Str} {d : PyData} (h : getS sd c = some d) : ∃ p ∈ sd, p.1 = c ∧ p.2 = d := by
  unfold getS at h
  obtain ⟨p, hp, rfl⟩ := Option.map_eq_some_iff.mp h
  exact ⟨p, List.mem_of_find?_eq_some hp, by simpa using List.find?_some hp, rfl⟩
theorem dtS_keys {K : PySem.W.Frag} {H : Hp} {kv : List (Key × V)} {sd : Sdt} (h : DtS K H kv sd) : kv.map (·.1) = sd.map fun p => (Sum.inr p.1 : Key) := by
  induction h with
  | nil => rfl
  | cons _ _ ih => rw [List.map_cons, List.map_cons, ih]
theorem kv_get {kvs : List (Key × V)} {xs : List (Key × Value)} (h : KV kvs xs) : ∀ x ∈ xs, ∃ v, (x.1, v) ∈ kvs ∧ RelV v x.2 := by
  induction h with
  | nil => exact fun x h => nomatch h
  | @cons p q ps qs h t ih =>
    intro x hx
    rcases List.mem_cons.mp hx with rfl | hx
    · exact ⟨p.2, by rw [← h.1]; exact .head _, h.2⟩
    · obtain ⟨v, m, r⟩ := ih x hx
      exact ⟨v, .tail _ m, r⟩
theorem op_eqK {X : Cx} (hu : X.A.units + 66 < cLine) : OpR X (compareOp .Eq) (rEqK X.K) := by
  intro pins s σ H x y v u Q I rx ry h
  obtain ⟨a, b, ks, ls, sd, sd', rfl, rfl, ha, hb, da, db, sa, sb, nd, q⟩ := h
  cases rx
  cases ry
  obtain ⟨_, na, xs, rx, dx⟩ := dk_of I.hok ha
  obtain ⟨_, nb, ys, ry, dy⟩ := dk_of I.hok hb
  have e1 : xs.length = sd.length := by rw [← KV.length rx, da.len]
  have e2 : ys.length = sd'.length := by rw [← KV.length ry, db.len]
  let e : Key → Bool := fun k => match k with
    | .inl _ => false
    | .inr c => match getS sd c, getS sd' c with | some d, some d' => PyData.eqv d d' | _, _ => false
  have tot : (xs.length == ys.length && xs.all fun x => e x.1) = eqS sd sd' := by
    have z : (xs.all fun x => e x.1) = (sd.all fun p => e (.inr p.1)) := by
      have a1 : (xs.all fun x => e x.1) = (xs.map (·.1)).all e := by rw [List.all_map]; rfl
      have a2 : (sd.all fun p => e (.inr p.1)) = (sd.map fun p => (Sum.inr p.1 : Key)).all e := by rw [List.all_map]; rfl
      rw [a1, a2, ← KV.keys rx, dtS_keys da]
    have z2 : (sd.all fun p => e (.inr p.1)) = sd.all fun p => match getS sd' p.1 with | none => false | some d => PyData.eqv p.2 d := by
      rw [Bool.eq_iff_iff, List.all_eq_true, List.all_eq_true]
      refine forall_congr' fun p => forall_congr' fun hp => ?_
      have : e (.inr p.1) = match getS sd' p.1 with | none => false | some d => PyData.eqv p.2 d := by
        show (match getS sd p.1, getS sd' p.1 with | some d, some d' => PyData.eqv d d' | _, _ => false) = _
        rw [getS_nd nd (c := p.1) (d := p.2) hp]
        cases getS sd' p.1 <;> rfl
      rw [this]
    unfold eqS
    rw [e1, e2, z, z2]
  have hits : ∀ l : List (Key × Value), (∀ x ∈ l, x ∈ xs) → PySem.W.KeqHitsP X.prog X.w X.A.in1 s ys l (l.all fun x => e x.1) := by
    intro l
    induction l with
    | nil => exact fun _ => .nil
    | cons x l ih =>
      intro hl
      obtain ⟨k, v0⟩ := x
      obtain ⟨v1, m1, r1⟩ := kv_get rx _ (hl _ (.head _))
      obtain ⟨c, d1, ek, md, dv1⟩ := dtS_at da m1
      have ek : k = .inr c := ek
      subst ek
      have g1 := getS_nd nd md
      have rel := ry.val (.inr c)
      rw [List.all_cons]
      rcases db.val (k := c) with ⟨z1, z2⟩ | ⟨v2, d2, z1, z2, dv2⟩
      · rw [z1] at rel
        have ef : e (.inr c) = false := by
          show (match getS sd c, getS sd' c with | some d, some d' => PyData.eqv d d' | _, _ => false) = false
          rw [g1, z2]
        show PySem.W.KeqHitsP _ _ _ _ _ _ (e (.inr c) && _)
        rw [ef, Bool.false_and]
        refine .miss ?_
        cases h : PySem.valueAt ys (.inr c) with
        | none => rfl
        | some p => rw [h] at rel; exact (show False from rel).elim
      · rw [z1] at rel
        cases h : PySem.valueAt ys (.inr c) with
        | none => rw [h] at rel; exact (show False from rel).elim
        | some p =>
          rw [h] at rel
          have rel : RelV v2 p := rel
          obtain ⟨p2, mp2, ep1, ep2⟩ := getS_in z2
          have h1 := sa _ md
          have h2 := sb _ mp2
          rw [ep2] at h2
          obtain ⟨as, ra⟩ := Dp.reads I d1 v1 _ (Dt.dp _ _ h1.1 dv1) r1
          obtain ⟨bs, rb⟩ := Dp.reads I d2 v2 _ (Dt.dp _ _ h2.1 dv2) rel
          refine .hit h ?_ (ih fun x hx => hl x (.tail _ hx))
          have ee : e (.inr c) = PyData.eqv d1 d2 := by
            show (match getS sd c, getS sd' c with | some d, some d' => PyData.eqv d d' | _, _ => false) = _
            rw [g1, z2]
          show SeqAt.EqP _ _ _ _ _ _ (e (.inr c))
          rw [ee]
          exact (PySem.W.keq_at ra rb h1.2 h2.2 (by show X.A.units + 1 + 64 < _; omega)).eqP
  refine PySem.W.rcP_dicts na nb dx dy (by omega) (fun _ => hits xs fun _ h => h) _ _ ?_
  rw [tot]
  exact ⟨.bl _, H, I, rfl, q⟩
end V2

set_option Elab.async false
set_option linter.all false
set_option maxRecDepth 100000
set_option maxHeartbeats 2000000
/-! VNe: xs != [] of a list of whatever values. -/
namespace V2
open PySem PySem.Spec PyProof.Rows L2
def rNeNil : R2 := fun x y H Q => ∃ (a b : Addr) (xs : List V), x = .ref a ∧ y = .ref b ∧ H a = some (.lst xs) ∧ H b = some (.lst []) ∧ Q (.bl (!xs.isEmpty)) H
theorem op_neNil {X : Cx} (hu : X.A.units < cLine) : OpR X (compareOp .NotEq) rNeNil := by
  intro pins s σ H x y v u Q I rx ry h
  obtain ⟨a, b, xs, rfl, rfl, ha, hb, q⟩ := h
  cases rx
  cases ry
  obtain ⟨its, rv, hl, _⟩ := I.list (.inl (.inl ha) : SqL X.K H a _)
  obtain ⟨jts, rw', hl2, _⟩ := I.list (.inl (.inl hb) : SqL X.K H b _)
  cases rw'
  have fin : EP X pins σ Q (.bool (!xs.isEmpty)) s := ⟨.bl _, H, I, rfl, q⟩
  cases xs with
  | nil =>
    cases rv
    exact SeqAt.RcNeAt.lists (e := fun _ => true) hl.isList hl2.isList rfl hu (fun j h1 _ => absurd h1 (Nat.not_lt_zero j)) _ _ _ _ fin
  | cons x xs =>
    cases rv with
    | cons r1 r2 => exact SeqAt.RcNeAt.lists_lengths hl.isList hl2.isList (by simp) hu _ _ _ _ fin
theorem ox_neNil {K : PySem.W.Frag} {W : Wd} {a : Addr} {xs : List V} (h : ∀ H, W.J H → H a = some (.lst xs)) : OX K W rNeNil (.v (.ref a)) (.d (.list [])) (· = .d (.bool (!xs.isEmpty))) := fun u w H j i1 i2 Q q => by
  have e : u = .ref a := i1
  subst e
  cases i2 with
  | lst h1 d1 =>
    cases d1
    exact ⟨a, _, xs, rfl, rfl, h H j, hid_le _ _ h1, q _ H _ (.refl j) rfl (.bl _)⟩
end V2

set_option Elab.async false
set_option linter.all false
set_option maxRecDepth 100000
set_option maxHeartbeats 2000000
/-! VZip: dict(zip(text, list)), the zip told by what its iterators draw. -/
namespace V2
open PySem PySem.Spec PyProof.Rows L2
section
variable {prog : Program} {w : World} {A : Around} {E : Value → Shared → Prop} {s : Shared} {z TI TO i1 i2 T : Addr} {fp1 fp2 : List Addr} {n1 n2 i : Nat} {P1 P2 : Nat → Value → Prop} {St1 St2 : Nat → Heap → Prop} {f : Bool} {oT : Obj}
theorem zipD2_next_item_held {Q : Value → Shared → Prop} (S : ZipSep2 z TI TO i1 i2 fp1 fp2) (D1 : Draws prog w A i1 fp1 n1 P1 St1) (D2 : Draws prog w A i2 fp2 n2 P2 St2)
    (hz : IsZipHeld s.heap z TI TO T f) (hT : s.heap.get? T = some oT) (hTI : IsTupOf2 s.heap TI (.ref i1) (.ref i2)) (st1 : St1 i s.heap) (st2 : St2 i s.heap) (hlt1 : i < n1) (hlt2 : i < n2)
    (hQ : ∀ x1 x2 h' tk, P1 i x1 → P2 i x2 → IsZipHeld h' z TI TO T true → St1 (i + 1) h' → St2 (i + 1) h' → IsTupOf2 h' s.heap.objs.size x1 x2 → h'.objs.size = s.heap.objs.size + 1 →
      (∀ c o, c ≠ z → c ≠ i1 → c ≠ i2 → s.heap.get? c = some o → h'.get? c = some o) → Q (.ref s.heap.objs.size) { s with heap := h', toks := tk }) :
    wpAny (model prog w) A (Builtin.«zip.__next__» ⟨[.ref z], []⟩) (fun fin s' => ∃ v, fin = .done (.ret v) ∧ Q v s') E s := by
  obtain ⟨hp, g, d, tk0, os⟩ := s
  show wpAny _ _ (field (.ref z) 2 >>= _) _ _ _
  refine wpAny_bind (wpAny_field hz rfl (x := .bool false) rfl ?_)
  show wpAny _ _ (field (.ref z) 3 >>= _) _ _ _
  refine wpAny_bind (wpAny_field hz rfl (x := .ref TI) rfl ?_)
  refine wpAny_bind (wpAny_seqItems hTI rfl ?_)
  show wpAny _ _ (Builtin.SmallTypes.ownedTupleIsFree (.ref z) >>= _) _ _ _
  refine wpAny_bind (wpAny_tupleHeld_zip hz hT fun g0 hz0 hs0 => ?_)
  replace hs0 : Heap.SameBut z hp g0 := hs0
  simp only [Bool.false_eq_true, if_false]
  refine wpAny_bind ?_
  rw [← Array.forIn_toList]
  simp only [List.forIn_cons, List.forIn_nil]
  refine wpAny_bind (wpAny_bind (wpAny_holding ?_))
  show wpAny _ _ (Builtin.SmallTypes.nextOf (.ref i1) >>= _) _ _ ⟨g0, g, d, tk0, os⟩
  refine wpAny_bind (D1.item i _ _ _ hlt1 (D1.over st1 hs0 S.zf1) fun x1 p1 tk1 hx1 sn1 hp1 => wpAny_pure ?_)
  replace hp1 : Heap.SameBut i1 g0 p1 := hp1
  refine wpAny_pure ?_
  refine wpAny_bind (wpAny_bind (wpAny_holding ?_))
  show wpAny _ _ (Builtin.SmallTypes.nextOf (.ref i2) >>= _) _ _ ⟨p1, g, d, tk1, os⟩
  refine wpAny_bind (D2.item i _ _ _ hlt2 (D2.over (D2.over st2 hs0 S.zf2) hp1 S.sep1_2) fun x2 p2 tk2 hx2 sn2 hp2 => wpAny_pure ?_)
  replace hp2 : Heap.SameBut i2 p1 p2 := hp2
  refine wpAny_pure (wpAny_pure ?_)
  show wpAny _ _ (newTuple [x1, x2] >>= _) _ _ ⟨p2, g, d, tk2, os⟩
  refine wpAny_bind (wpAny_newTuple ?_)
  have hsz : p2.objs.size = hp.objs.size := by rw [hp2.1, hp1.1, hs0.1]
  have hz3 : IsZipHeld p2 z TI TO T true := hp2.extBut _ _ S.zi2 (hp1.extBut _ _ S.zi1 hz0)
  have hk : ∀ c o, c ≠ z → c ≠ i1 → c ≠ i2 → hp.get? c = some o → p2.get? c = some o := fun c o c1 c2 c3 e => hp2.extBut _ _ c3 (hp1.extBut _ _ c2 (hs0.extBut _ _ c1 e))
  have j1 : St1 (i + 1) p2 := D1.over sn1 hp2 S.sep2_1
  refine wpAny_pure ⟨_, rfl, ?_⟩
  show Q (.ref p2.objs.size) _
  have hp' : IsTupOf2 (p2.push { cls := .type "tuple", data := .seq #[x1, x2] }) p2.objs.size x1 x2 := Heap.get?_push_size _ rfl
  have hz4 : (p2.push { cls := .type "tuple", data := .seq #[x1, x2] }).objs.size = p2.objs.size + 1 := Heap.size_push ..
  rw [hsz] at hp' hz4 ⊢
  exact hQ x1 x2 _ tk2 hx1 hx2 (Heap.get?_push_of_some _ hz3) (D1.frame _ _ _ j1 fun b _ o e => Heap.get?_push_of_some _ e) (D2.frame _ _ _ sn2 fun b _ o e => Heap.get?_push_of_some _ e) hp' hz4 fun c o c1 c2 c3 e => Heap.get?_push_of_some _ (hk c o c1 c2 c3 e)
theorem zipD2_next_end_held {Q : Fin → Shared → Prop} (S : ZipSep2 z TI TO i1 i2 fp1 fp2) (D1 : Draws prog w A i1 fp1 n1 P1 St1) (D2 : Draws prog w A i2 fp2 n2 P2 St2)
    (hz : IsZipHeld s.heap z TI TO T f) (hT : s.heap.get? T = some oT) (hTI : IsTupOf2 s.heap TI (.ref i1) (.ref i2)) (st1 : St1 i s.heap) (st2 : St2 i s.heap) (hle1 : i ≤ n1) (hle2 : i ≤ n2) (hend : i = n1 ∨ i = n2)
    (hE : ∀ h' tk e, (∀ c o, c ≠ z → c ≠ i1 → c ≠ i2 → s.heap.get? c = some o → h'.get? c = some o) → (∃ o, h'.get? e = some o ∧ o.cls = .type "StopIteration") → E (.ref e) { s with heap := h', toks := tk }) :
    wpAny (model prog w) A (Builtin.«zip.__next__» ⟨[.ref z], []⟩) Q E s := by
  obtain ⟨hp, g, d, tk0, os⟩ := s
  show wpAny _ _ (field (.ref z) 2 >>= _) _ _ _
  refine wpAny_bind (wpAny_field hz rfl (x := .bool false) rfl ?_)
  show wpAny _ _ (field (.ref z) 3 >>= _) _ _ _
  refine wpAny_bind (wpAny_field hz rfl (x := .ref TI) rfl ?_)
  refine wpAny_bind (wpAny_seqItems hTI rfl ?_)
  show wpAny _ _ (Builtin.SmallTypes.ownedTupleIsFree (.ref z) >>= _) _ _ _
  refine wpAny_bind (wpAny_tupleHeld_zip hz hT fun g0 hz0 hs0 => ?_)
  replace hs0 : Heap.SameBut z hp g0 := hs0
  simp only [Bool.false_eq_true, if_false]
  refine wpAny_bind ?_
  rw [← Array.forIn_toList]
  simp only [List.forIn_cons, List.forIn_nil]
  refine wpAny_bind (wpAny_bind (wpAny_holding ?_))
  show wpAny _ _ (Builtin.SmallTypes.nextOf (.ref i1) >>= _) _ _ ⟨g0, g, d, tk0, os⟩
  by_cases hlt1 : i < n1
  · refine wpAny_bind (D1.item i _ _ _ hlt1 (D1.over st1 hs0 S.zf1) fun x1 p1 tk1 hx1 sn1 hp1 => wpAny_pure ?_)
    replace hp1 : Heap.SameBut i1 g0 p1 := hp1
    refine wpAny_pure ?_
    refine wpAny_bind (wpAny_bind (wpAny_holding ?_))
    have hi2 : i = n2 := by omega
    show wpAny _ _ (Builtin.SmallTypes.nextOf (.ref i2) >>= _) _ _ ⟨p1, g, d, tk1, os⟩
    refine wpAny_bind (D2.done ⟨p1, g, d, tk1, os⟩ _ _ (by rw [← hi2]; exact D2.over (D2.over st2 hs0 S.zf2) hp1 S.sep1_2) fun q e hq he => ?_)
    replace hq : Heap.ExtBut i2 p1 q := hq
    exact hE q tk1 e (fun c o c1 c2 c3 x => hq _ _ c3 (hp1.extBut _ _ c2 (hs0.extBut _ _ c1 x))) he
  · have hi1 : i = n1 := by omega
    refine wpAny_bind (D1.done ⟨g0, g, d, tk0, os⟩ _ _ (by rw [← hi1]; exact D1.over st1 hs0 S.zf1) fun q e hq he => ?_)
    replace hq : Heap.ExtBut i1 g0 q := hq
    exact hE q tk0 e (fun c o c1 c2 c3 x => hq _ _ c2 (hs0.extBut _ _ c1 x)) he
theorem pyNext_zipD2_item_held {Q : Option Value → Shared → Prop} (S : ZipSep2 z TI TO i1 i2 fp1 fp2) (D1 : Draws prog w A.in1 i1 fp1 n1 P1 St1) (D2 : Draws prog w A.in1 i2 fp2 n2 P2 St2)
    (hz : IsZipHeld s.heap z TI TO T f) (hT : s.heap.get? T = some oT) (hTI : IsTupOf2 s.heap TI (.ref i1) (.ref i2)) (st1 : St1 i s.heap) (st2 : St2 i s.heap) (hlt1 : i < n1) (hlt2 : i < n2)
    (hQ : ∀ x1 x2 h' tk, P1 i x1 → P2 i x2 → IsZipHeld h' z TI TO T true → St1 (i + 1) h' → St2 (i + 1) h' → IsTupOf2 h' s.heap.objs.size x1 x2 → h'.objs.size = s.heap.objs.size + 1 →
      (∀ c o, c ≠ z → c ≠ i1 → c ≠ i2 → s.heap.get? c = some o → h'.get? c = some o) → Q (some (.ref s.heap.objs.size)) { s with heap := h', toks := tk }) :
    wpAny (model prog w) A (pyNext (.ref z)) Q E s := by
  have hTy : s.TypeIs (.ref z) "zip" := ⟨_, hz, rfl⟩
  unfold pyNext
  exact wpAny_bind (wpAny_attempt (wpAny_callSpecial?_slot (name := Str.ofString "__next__") hTy PySem.F.slot_zip_next
    (wpAny_call_entry PySem.F.slot_zip_next hTy PySem.F.entry_zip_next
      (zipD2_next_item_held S D1 D2 hz hT hTI st1 st2 hlt1 hlt2 fun x1 x2 h' tk y1 y2 b1 d1 d2 b5 b6 b7 => wpAny_pure (hQ x1 x2 h' tk y1 y2 b1 d1 d2 b5 b6 b7)) (PySem.F.args_zip_next_1 _))))
theorem pyNext_zipD2_end_held {Q : Option Value → Shared → Prop} (S : ZipSep2 z TI TO i1 i2 fp1 fp2) (D1 : Draws prog w A.in1 i1 fp1 n1 P1 St1) (D2 : Draws prog w A.in1 i2 fp2 n2 P2 St2)
    (hz : IsZipHeld s.heap z TI TO T f) (hT : s.heap.get? T = some oT) (hTI : IsTupOf2 s.heap TI (.ref i1) (.ref i2)) (st1 : St1 i s.heap) (st2 : St2 i s.heap) (hle1 : i ≤ n1) (hle2 : i ≤ n2) (hend : i = n1 ∨ i = n2)
    (hQ : ∀ h' tk, (∀ c o, c ≠ z → c ≠ i1 → c ≠ i2 → s.heap.get? c = some o → h'.get? c = some o) → Q none { s with heap := h', toks := tk }) :
    wpAny (model prog w) A (pyNext (.ref z)) Q E s := by
  have hTy : s.TypeIs (.ref z) "zip" := ⟨_, hz, rfl⟩
  unfold pyNext
  refine wpAny_bind (wpAny_attempt (wpAny_callSpecial?_slot (name := Str.ofString "__next__") hTy PySem.F.slot_zip_next
    (wpAny_call_entry PySem.F.slot_zip_next hTy PySem.F.entry_zip_next (zipD2_next_end_held S D1 D2 hz hT hTI st1 st2 hle1 hle2 hend fun h' tk e hk he => ?_) (PySem.F.args_zip_next_1 _))))
  obtain ⟨o, ho, hc⟩ := he
  refine wpAny_bind (wpAny_isInstance (T := "StopIteration") (b := true) ⟨o, ho, hc⟩ isSubtype_stop ?_)
  exact wpAny_pure (hQ _ _ hk)
end
section
variable {prog : Program} {w : World}
/-- what a zip over any two iterators is to dict() -/
theorem pairArg_zipD2 {z TI TO i1 i2 : Addr} {fp1 fp2 : List Addr} {n : Nat} {P1 P2 : Nat → Value → Prop} {St1 St2 : Nat → Heap → Prop} (S : ZipSep2 z TI TO i1 i2 fp1 fp2) (d1 : ∀ A : Around, A.handled = none → Draws prog w A.in1 i1 fp1 n P1 St1) (d2 : ∀ A : Around, A.handled = none → Draws prog w A.in1 i2 fp2 n P2 St2)
    (f1 : ∀ i h h', St1 i h → (∀ b ∈ fp1, ∀ o, h.get? b = some o → h'.get? b = some o) → St1 i h') (f2 : ∀ i h h', St2 i h → (∀ b ∈ fp2, ∀ o, h.get? b = some o → h'.get? b = some o) → St2 i h')
    (k1 : ∀ i h, St1 i h → ∀ b ∈ fp1, ∃ o, h.get? b = some o) (k2 : ∀ i h, St2 i h → ∀ b ∈ fp2, ∃ o, h.get? b = some o) :
    PairArg prog w "zip" z (z :: TI :: TO :: (fp1 ++ fp2)) [z, TO, i1, i2] n (fun i k v => P1 i k ∧ P2 i v)
      (fun h => IsZip h z TI TO .none ∧ IsTupOf2 h TI (.ref i1) (.ref i2) ∧ (∃ a b, IsTupOf2 h TO a b) ∧ St1 0 h ∧ St2 0 h) where
  type := fun s ok => ⟨_, ok.1, rfl⟩
  notDict := by decide
  keep := fun h h' ok hk => by
    obtain ⟨hz, hTI, ⟨a, b, hTO⟩, h1, h2⟩ := ok
    exact ⟨hk _ _ hz, hk _ _ hTI, ⟨a, b, hk _ _ hTO⟩, f1 _ _ _ h1 fun b _ o e => hk b o e, f2 _ _ _ h2 fun b _ o e => hk b o e⟩
  there := fun h ok b hb => by
    obtain ⟨hz, hTI, ⟨a, c, hTO⟩, h1, h2⟩ := ok
    rcases List.mem_cons.mp hb with rfl | hb
    · exact ⟨_, hz⟩
    rcases List.mem_cons.mp hb with rfl | hb
    · exact ⟨_, hTI⟩
    rcases List.mem_cons.mp hb with rfl | hb
    · exact ⟨_, hTO⟩
    rcases List.mem_append.mp hb with hb | hb
    · exact k1 _ _ h1 b hb
    · exact k2 _ _ h2 b hb
  sub := fun b hb => by
    have m1 := S.mem1
    have m2 := S.mem2
    simp only [List.mem_cons, List.not_mem_nil, or_false] at hb
    rcases hb with rfl | rfl | rfl | rfl <;> simp [m1, m2]
  noKeys := fun A s Q E hA ok h => getAttrOr_miss_zip ok.1 rfl rfl rfl zip_no_keys (by decide +kernel) hA h
  iter := fun A s d Q E hA ok hd hdf h => by
    obtain ⟨hz, hTI, ⟨a, b, hTO⟩, h1, h2⟩ := ok
    have dz : d ≠ z := fun e => hdf (by rw [e]; exact .head _)
    have dTI : d ≠ TI := fun e => hdf (by rw [e]; exact .tail _ (.head _))
    have dTO : d ≠ TO := fun e => hdf (by rw [e]; exact .tail _ (.tail _ (.head _)))
    have df1 : d ∉ fp1 := fun m => hdf (.tail _ (.tail _ (.tail _ (List.mem_append_left _ m))))
    have df2 : d ∉ fp2 := fun m => hdf (.tail _ (.tail _ (.tail _ (List.mem_append_right _ m))))
    have di1 : d ≠ i1 := fun e => df1 (by rw [e]; exact S.mem1)
    have di2 : d ≠ i2 := fun e => df2 (by rw [e]; exact S.mem2)
    have D1 := d1 A hA
    have D2 := d2 A hA
    refine wpAny_pyIter_zip hz (h z [z, TO, i1, i2] (fun i h => IsTupOf2 h TI (.ref i1) (.ref i2) ∧ St1 i h ∧ St2 i h ∧
      ((IsZip h z TI TO .none ∧ ∃ a b, IsTupOf2 h TO a b) ∨ ∃ T f oT, IsZipHeld h z TI TO T f ∧ h.get? T = some oT ∧ T ≠ z ∧ T ≠ i1 ∧ T ≠ i2 ∧ T ≠ d)) s.heap s.toks ?_
      ⟨hTI, h1, h2, .inl ⟨hz, a, b, hTO⟩⟩ (fun _ _ e => e) fun b hb => .inl hb)
    exact {
      off := fun hm => by
        simp only [List.mem_cons, List.not_mem_nil, or_false] at hm
        rcases hm with e | e | e | e
        · exact dz e
        · exact dTO e
        · exact di1 e
        · exact di2 e
      frame := fun i h₁ h₂ st hk => by
        obtain ⟨hTI, h1, h2, hz⟩ := st
        refine ⟨hk _ _ (Ne.symm dTI) hTI, D1.frame _ _ _ h1 fun b hb o e => hk b o (fun q => df1 (q ▸ hb)) e, D2.frame _ _ _ h2 fun b hb o e => hk b o (fun q => df2 (q ▸ hb)) e, ?_⟩
        rcases hz with ⟨hz, a, b, hTO⟩ | ⟨T, f, oT, hz, hT, r1, r2, r3, r4⟩
        · exact .inl ⟨hk _ _ (Ne.symm dz) hz, a, b, hk _ _ (Ne.symm dTO) hTO⟩
        · exact .inr ⟨T, f, oT, hk _ _ (Ne.symm dz) hz, hk _ _ r4 hT, r1, r2, r3, r4⟩
      item := fun i s₁ Q₁ E₁ hi st hds hQ => by
        obtain ⟨hTI, h1, h2, hz⟩ := st
        have lt : ∀ {c o}, s₁.heap.get? c = some o → s₁.heap.objs.size ≠ c := fun e => Nat.ne_of_gt (Heap.lt_size e)
        have n1 : s₁.heap.objs.size ≠ i1 := let ⟨_, e⟩ := D1.live _ _ h1; lt e
        have n2 : s₁.heap.objs.size ≠ i2 := let ⟨_, e⟩ := D2.live _ _ h2; lt e
        have off : ∀ c ∈ ([z, TO, i1, i2] : List Addr), True := fun _ _ => trivial
        rcases hz with ⟨hz, a, b, hTO⟩ | ⟨T, f, oT, hz, hT, r1, r2, r3, r4⟩
        · refine wpAny_pyNext_zipD2_item S D1 D2 hz hTI hTO h1 h2 hi hi fun x1 x2 h' tk p1 p2 a1 a2 a3 a4 a5 a6 hk => ?_
          exact hQ s₁.heap.objs.size _ _ h' tk ⟨p1, p2⟩ (.inl ⟨_, a5, rfl, _, rfl⟩)
            ⟨hk _ _ S.TIz S.TITO S.TIi1 S.TIi2 hTI, a3, a4, .inr ⟨s₁.heap.objs.size, false, _, a1, a5, lt hz, n1, n2, Nat.ne_of_gt hds⟩⟩
            fun c o hc e => hk c o (fun x => hc (by simp [x])) (fun x => hc (by simp [x])) (fun x => hc (by simp [x])) (fun x => hc (by simp [x])) e
        · refine pyNext_zipD2_item_held S D1 D2 hz hT hTI h1 h2 hi hi fun x1 x2 h' tk p1 p2 a1 a3 a4 a5 a6 hk => ?_
          exact hQ s₁.heap.objs.size _ _ h' tk ⟨p1, p2⟩ (.inl ⟨_, a5, rfl, _, rfl⟩)
            ⟨hk _ _ S.TIz S.TIi1 S.TIi2 hTI, a3, a4, .inr ⟨T, true, oT, a1, hk _ _ r1 r2 r3 hT, r1, r2, r3, r4⟩⟩
            fun c o hc e => hk c o (fun x => hc (by simp [x])) (fun x => hc (by simp [x])) (fun x => hc (by simp [x])) e
      done := fun s₁ Q₁ E₁ st hQ => by
        obtain ⟨hTI, h1, h2, hz⟩ := st
        rcases hz with ⟨hz, a, b, hTO⟩ | ⟨T, f, oT, hz, hT, r1, r2, r3, r4⟩
        · exact wpAny_pyNext_zipD2_end S D1 D2 hz hTI hTO h1 h2 (Nat.le_refl _) (Nat.le_refl _) (.inl rfl) fun h' tk hk => hQ h' tk fun c o hc e => hk c o (fun x => hc (by simp [x])) (fun x => hc (by simp [x])) (fun x => hc (by simp [x])) (fun x => hc (by simp [x])) e
        · exact pyNext_zipD2_end_held S D1 D2 hz hT hTI h1 h2 (Nat.le_refl _) (Nat.le_refl _) (.inl rfl) fun h' tk hk => hQ h' tk fun c o hc e => hk c o (fun x => hc (by simp [x])) (fun x => hc (by simp [x])) (fun x => hc (by simp [x])) e }
end
/-! ### dict(zip(text, list)), by values -/
def signKV (c : Nat) (v : V) : Key × V := (.inr (oneS c), v)
def rDictZip (K : PySem.W.Frag) : List V → Hp → VK → Prop := fun xs H Q => ∃ (x : Str) (a : Addr) (ys : List V), xs = [.str x, .ref a] ∧ SqL K H a ys ∧ ys.length = x.cps.size ∧ ∀ p, H p = none → Q (.ref p) (upd H p (.dK (mergeK [] (List.zipWith signKV x.cps.toList ys))))
theorem call_dictZip {X : Cx} {pins : List (Addr × Obj)} {σ : L2.St} {H : Hp} {s : Shared} {us : List Value} {xs : List V} {Q : VK} (hc : X.calm = true) (I : L2.Inv X pins σ H s) (r : Vals xs us) (h : rDictZip X.K xs H Q) :
    wpAny (model X.prog X.w) X.A (call (.type "zip") us) (fun v s' => wpAny (model X.prog X.w) X.A (call (.type "dict") [v]) (EP X pins σ Q) X.xe s') X.xe s := by
  obtain ⟨x, a, ys, rfl, hs, hl, q⟩ := h
  cases r with
  | cons r rr =>
  cases rr with
  | cons r' rr =>
  cases rr
  cases r'
  obtain ⟨t, rfl⟩ := r
  obtain ⟨its, rv, pl, hz⟩ := I.list hs
  have hh := I.ok.hd hc
  have li : its.length = x.cps.size := by rw [← rv.length, hl]
  refine zip_begins2 (begins_text x t) (begins_list a its.toArray) trivial pl.isList fun h' gZ gT gO g1 g2 gs hk => ?_
  have la : a < s.heap.objs.size := pl.lt
  have S : ZipSep2 (s.heap.objs.size + 4) (s.heap.objs.size + 2) (s.heap.objs.size + 3) s.heap.objs.size (s.heap.objs.size + 1) [s.heap.objs.size] [s.heap.objs.size + 1, a] := zip_sep2 (N := s.heap.objs.size) (fp1 := []) (fp2 := [a]) (fun _ h => nomatch h) fun b hb => by rw [List.mem_singleton.mp hb]; exact la
  have ne : a ≠ s.heap.objs.size + 1 := Nat.ne_of_lt (Nat.lt_succ_of_lt la)
  have li2 : its.toArray.size = x.cps.size := by rw [List.size_toArray, li]
  have P := pairArg_zipD2 (prog := X.prog) (w := X.w) (n := x.cps.size) (P1 := fun i v => ∃ c u, x.cps[i]? = some c ∧ v = .str ⟨#[c]⟩ u) (P2 := fun i v => its.toArray[i]? = some v) (St1 := fun i h => h.IsStrIter s.heap.objs.size (strIterType x) x t i) (St2 := fun i h => h.IsListIter (s.heap.objs.size + 1) a i ∧ h.IsList a its.toArray) S (fun A hA => Draws.text (A := A.in1) hA s.heap.objs.size x t) (fun A hA => li2 ▸ Draws.list (prog := X.prog) (w := X.w) (A := A.in1) hA (s.heap.objs.size + 1) a ne its.toArray)
    (fun i h h' st k => by obtain ⟨o, e, r⟩ := st; exact ⟨o, k _ (.head _) o e, r⟩) (fun i h h' st k => ⟨st.1.at fun o e => k _ (.head _) o e, st.2.at fun o e => k _ (.tail _ (.head _)) o e⟩)
    (fun i h st b hb => by rw [List.mem_singleton.mp hb]; obtain ⟨o, e, _⟩ := st; exact ⟨o, e⟩)
    (fun i h st b hb => by
      obtain ⟨⟨o, e, _⟩, ⟨o2, e2, _⟩⟩ := st
      rcases List.mem_cons.mp hb with rfl | hb
      · exact ⟨o, e⟩
      · rw [List.mem_singleton.mp hb]; exact ⟨o2, e2⟩)
  let prs : List (Key × Value) := List.zipWith (fun c v => ((.inr (oneS c) : Key), v)) x.cps.toList its
  have lx : x.cps.toList.length = x.cps.size := Array.length_toList
  have rel : KV (List.zipWith signKV x.cps.toList ys) prs := by
    have go : ∀ (cs : List Nat) (vs : List V) (us : List Value), Vals vs us → KV (List.zipWith signKV cs vs) (List.zipWith (fun c v => ((.inr (oneS c) : Key), v)) cs us) := by
      intro cs
      induction cs with
      | nil => exact fun _ _ _ => .nil
      | cons c cs ih => exact fun vs us r => match vs, us, r with
        | [], [], .nil => .nil
        | v :: vs, u :: us, .cons r t => .cons ⟨rfl, r⟩ (ih vs us t)
    exact go _ _ _ rv
  have lp : prs.length = x.cps.size := by
    show (List.zipWith _ x.cps.toList its).length = _
    rw [List.length_zipWith, lx, li, Nat.min_self]
  refine PySem.call_dict_pairs (knd := mixKind X.prog X.w) (kvs := prs) (s := { s with heap := h' }) P hh ⟨gZ, gT, ⟨_, _, gO⟩, ⟨_, g1, rfl, rfl⟩, ⟨_, g2, rfl, rfl⟩, pl.isList.at fun o e => hk _ _ e⟩ ⟨lp, fun i k v ⟨⟨c, u, e1, e2⟩, e3⟩ => ?_⟩ (by rw [← li, ← rv.length]; exact hz) fun h2 tk hd hk2 => ?_
  · subst e2
    refine ⟨.inr (oneS c), ?_, ?_⟩
    · have e1 : x.cps.toList[i]? = some c := by rw [Array.getElem?_toList]; exact e1
      have e3 : its[i]? = some v := by simpa using e3
      show (List.zipWith _ x.cps.toList its)[i]? = _
      rw [List.getElem?_zipWith, e1, e3]
    · exact (show keyIs (.inr (oneS c)) (Value.str (oneS c) u) = true from by unfold keyIs; simp [Value.isStrOf])
  · have hm : (h'.objs.size == sysModules) = false := beq_eq_false_iff_ne.mpr (Nat.ne_of_gt (by rw [gs]; exact Nat.lt_of_lt_of_le I.big (Nat.le_add_right _ _)))
    have hlen : (mergeK [] (List.zipWith signKV x.cps.toList ys)).length ≤ sizeLine := by
      refine Nat.le_trans (length_mergeK _ []) ?_
      rw [List.length_nil, Nat.zero_add, rel.length, lp, ← hl]
      exact hz
    have keep : ∀ b o, s.heap.get? b = some o → h2.get? b = some o := fun b o e => by
      have lt : b < s.heap.objs.size := Heap.lt_size e
      refine hk2 b o (fun m => ?_) (hk b o e)
      simp only [List.mem_cons, List.not_mem_nil, or_false] at m
      have lt' : (b : Nat) < s.heap.objs.size := lt
      rcases m with z | z | z | z <;> (rw [z] at lt'; have lt'' : (_ : Nat) < (s.heap.objs.size : Nat) := lt'; omega)
    have le : s.heap.objs.size ≤ h'.objs.size := by rw [gs]; exact Nat.le_add_right _ _
    exact ⟨.ref h'.objs.size, upd H h'.objs.size (.dK (mergeK [] (List.zipWith signKV x.cps.toList ys))), I.laid (t' := tk) keep le ⟨hlen, hm, merged [] prs, KV.merge rel .nil, hd⟩, rfl, q _ (I.hok.fresh le)⟩
theorem pe_dictZip {X : Cx} {e e2 : Expr} {ta : TA} {p p2 pos pos2 : Pos} (hc : X.calm = true) (hg : Gl X "dict") (hm : X.mg "dict" = none) (hg2 : Gl X "zip") (hm2 : X.mg "zip" = none) (ha : PA X [e, e2] ta)
    (hs : starEach [e, e2] X.env = (false, eval e X.env) :: starEach [e2] X.env := by rfl) (hpl : (backTo pos2 (starEach [e2] X.env)).any (·.1) = false := by rfl)
    (hs1 : starEach [.Call (.Name "zip" p2) [e, e2] [] pos2] X.env = (false, eval (.Call (.Name "zip" p2) [e, e2] [] pos2) X.env) :: starEach [] X.env := by rfl) :
    PE X (.Call (.Name "dict" p) [.Call (.Name "zip" p2) [e, e2] [] pos2] [] pos) (tCB (rDictZip X.K) ta) := by
  refine ⟨fun pins s σ H Q I h => ?_⟩
  refine wpAny_Call_Name_kw (ld_blt I hg hm (by decide +kernel : bootBuiltins "dict" = some (.type "dict")) ?_)
  refine PyProof.Rows.callWith_type1 ?_ hs1 rfl
  rw [hs1]
  show wpAny _ _ (spliced ((false, eval (.Call (.Name "zip" p2) [e, e2] [] pos2) X.env) :: backTo pos (starEach [] X.env))) _ _ s
  refine Calls.spliced_cons ?_
  refine Call_ (ld_blt I hg2 hm2 PyProof.Rows.boot_zip (PyProof.Rows.callWith_type1 (thn (ha.run pos2 pins s σ H _ I h) fun us s1 ⟨vs, H1, I1, r1, q1⟩ => ?_) hs hpl))
  exact wpAny_mono (call_dictZip hc I1 r1 q1) (fun v s' h => Calls.spliced_nil h) fun _ _ e => e
end V2

set_option Elab.async false
set_option linter.all false
set_option maxRecDepth 100000
set_option maxHeartbeats 2000000
/-! VTabl: dicts of whatever keys (texts and numbers) and flat values, told by the dict itself (k01): walked by items, copied by list(d.items()), put, merged, read, compared; isinstance of an error with two classes. -/
namespace V2
open PySem PySem.Spec PyProof.Rows L2
abbrev Tab := List (Key × V)
def dV : V → PyData
  | .non => .none
  | .bl b => .bool b
  | .int i => .int i
  | .str s => .str s
  | _ => .none
def FlV (v : V) : Prop := vOf (dV v) = v
def FlT (T : Tab) : Prop := ∀ p ∈ T, FlV p.2
def tabD (T : Tab) : List (PyData × PyData) := T.map fun p => (keyD p.1, dV p.2)
def DK (T : Tab) : PyData := .dict (tabD T)
theorem flV_str (s : Str) : FlV (.str s) := rfl
theorem flV_non : FlV .non := rfl
theorem flat_dV : ∀ v : V, flat (dV v) = true := fun v => by cases v <;> rfl
theorem dt_flV {K : PySem.W.Frag} {H : Hp} {v : V} (h : FlV v) : Dt K H v (dV v) := by
  cases v <;> first | constructor | (cases h)
theorem keyD_inj : ∀ {a b : Key}, keyD a = keyD b → a = b
  | .inl _, .inl _, e => by cases e; rfl
  | .inr _, .inr _, e => by cases e; rfl
  | .inl _, .inr _, e => by cases e
  | .inr _, .inl _, e => by cases e
theorem dt_key {K : PySem.W.Frag} {H : Hp} : ∀ k : Key, Dt K H (kV k) (keyD k)
  | .inl i => .int i
  | .inr s => .str s
theorem dtkv_tab {K : PySem.W.Frag} {H : Hp} : ∀ {T : Tab}, FlT T → DtKv K H T (tabD T)
  | [], _ => .nil
  | p :: r, h => .cons (k := p.1) (dt_flV (h p (.head _))) (dtkv_tab fun q m => h q (.tail _ m))
theorem dtkv_isT {K : PySem.W.Frag} {H : Hp} : ∀ {T es : Tab}, FlT T → DtKv K H es (tabD T) → es = T
  | [], es, _, h => by cases h; rfl
  | p :: r, es, fl, h => by
    obtain ⟨k, v, es', rfl, e, hd, t⟩ := dtkv_cons h
    have ek := keyD_inj e
    have ev := Dt.flat hd (flat_dV _)
    rw [fl p (.head _)] at ev
    rw [dtkv_isT (fun q m => fl q (.tail _ m)) t, ev, ← ek]
theorem dk_kd (kvs : List (Str × Str)) : DK (KV2 kvs) = KD kvs := by
  unfold DK KD tabD KV2
  rw [List.map_map]
  rfl
theorem flT_KV2 (kvs : List (Str × Str)) : FlT (KV2 kvs) := fun p hp => by
  obtain ⟨q, _, rfl⟩ := List.mem_map.mp hp
  rfl
theorem mem_putK {T : Tab} {k : Key} {v : V} {p : Key × V} (h : p ∈ putK T k v) : p = (k, v) ∨ p ∈ T := by
  unfold putK at h
  split at h
  · obtain ⟨q, hq, rfl⟩ := List.mem_map.mp h
    split
    · rename_i e; exact .inl (by rw [e])
    · exact .inr hq
  · rcases List.mem_append.mp h with h | h
    · exact .inr h
    · exact .inl (List.mem_singleton.mp h)
theorem putK_mem (T : Tab) (k : Key) (v : V) : (k, v) ∈ putK T k v := by
  unfold putK
  split
  · rename_i h
    obtain ⟨q, hq, e⟩ := List.any_eq_true.mp h
    have e := of_decide_eq_true e
    exact List.mem_map.mpr ⟨q, hq, by rw [if_pos e, e]⟩
  · exact List.mem_append_right _ (.head _)
theorem mem_mergeK : ∀ {M T : Tab} {p : Key × V}, p ∈ mergeK T M → p ∈ T ∨ p ∈ M
  | [], T, p, h => .inl h
  | q :: M, T, p, h => by
    rcases mem_mergeK (M := M) h with h | h
    · rcases mem_putK h with h | h
      · exact .inr (by rw [h]; exact .head _)
      · exact .inl h
    · exact .inr (.tail _ h)
theorem mergeK_snoc (T M : Tab) (p : Key × V) : mergeK T (M ++ [p]) = putK (mergeK T M) p.1 p.2 := by
  unfold mergeK
  rw [List.foldl_append]
  rfl
/-- a copy with one more pair -/
def copyT (T : Tab) (k : Key) (v : V) : Tab := mergeK [] (T ++ [(k, v)])
theorem copyT_mem (T : Tab) (k : Key) (v : V) : (k, v) ∈ copyT T k v := by
  unfold copyT
  rw [mergeK_snoc]
  exact putK_mem _ _ _
theorem mem_copyT {T : Tab} {k : Key} {v : V} {p : Key × V} (h : p ∈ copyT T k v) : p = (k, v) ∨ p ∈ T := by
  rcases mem_mergeK h with h | h
  · cases h
  · rcases List.mem_append.mp h with h | h
    · exact .inr h
    · exact .inl (List.mem_singleton.mp h)
theorem copyT_len (T : Tab) (k : Key) (v : V) : (copyT T k v).length ≤ T.length + 1 := by
  have h := length_mergeK (T ++ [(k, v)]) []
  rw [List.length_append, List.length_nil, Nat.zero_add] at h
  exact h
theorem FlT.copy {T : Tab} (h : FlT T) (k : Key) {v : V} (hv : FlV v) : FlT (copyT T k v) := fun p hp => by
  rcases mem_copyT hp with e | m
  · rw [e]; exact hv
  · exact h p m
section
variable {K : PySem.W.Frag} {W : Wd} {Δ : Env} {te td ty tx tk tv : TE} {t : TA} {T : Tab}
theorem is_dk {H : Hp} {M : Addr → Prop} {v : V} (fl : FlT T) (h : Is K M H v (.d (DK T))) : ∃ d, v = .ref d ∧ hid M H d = some (.dK T) := by
  cases h with
  | dct hd hk => exact ⟨_, rfl, by rw [hd, dtkv_isT fl hk]⟩
theorem dk_is {H : Hp} {M : Addr → Prop} {d : Addr} (fl : FlT T) (h : hid M H d = some (.dK T)) : Is K M H (.ref d) (.d (DK T)) := Dt.dct h (dtkv_tab fl)
/-! ### [e for k, v in d.items()] -/
abbrev lockI (d : Addr) (od : Obj) (T : Tab) : Frg := [(d, .frz od (.dK T))]
theorem xe_lockItems {h : Key × V → PyData} (fl : FlT T) (small : T.length ≤ 1000)
    (hs : ∀ (W' : Wd) (d : Addr) (p : Key × V), p ∈ T → XV K W' te [some (.v (.ref d)), some (.d (keyD p.1)), some (.d (dV p.2))] (.d (h p))) :
    XV K W (tLockE (tLc (iItems (tVar 0)) (gTup K 2 (gCons (gName 1) (gCons (gName 2) gNil))) tYes te [1, 2])) [some (.d (DK T)), none, none] (.d (.list (T.map h))) := fun σ H j s Q q => by
  obtain ⟨v0, e0, i0⟩ := s.get 0 _ rfl
  obtain ⟨d, rfl, hd⟩ := is_dk fl i0
  have nM : ¬ W.M d := fun m => by rw [hid_in m] at hd; cases hd
  rw [hid_out nM] at hd
  refine ⟨d, .dK T, hd, trivial, fun od => ?_⟩
  let H1 := upd H d (.frz od (.dK T))
  have jf : (W.fix (lockI d od T)).J H1 := ⟨W.loc H _ (fun a m => upd_ne fun z => nM (z ▸ m)) j, fun p hp => by rw [List.mem_singleton.mp hp]; exact upd_same⟩
  have sf : StOk K (W.fix (lockI d od T)).M H1 σ [some (.v (.ref d)), none, none] := ⟨s.len, fun i a e => by
    match i, e with
    | 0, e => cases e; exact ⟨_, e0, rfl⟩
    | 1, e => cases e
    | 2, e => cases e
    | n + 3, e => cases e⟩
  refine ⟨_, e0, d, od, T, rfl, upd_same, ?_⟩
  intro D nD
  have mD : ¬ (W.fix (lockI d od T)).M D := (W.fix (lockI d od T)).fresh jf nD
  have len3 : σ.length = 3 := s.len
  let W1 := W.fix (lockI d od T)
  refine ⟨fun c m H2 => m = T.length - c ∧ c ≤ T.length ∧ ∃ vs, Fr W1 H1 H2 ∧ H2 D = some (.lst vs) ∧ DtAll K (hid (fun a => W1.M a ∨ a = D) H2) vs ((T.take c).map h),
    ⟨T.length, (Nat.sub_zero _).symm, Nat.zero_le _, [], .new jf nD, upd_same, .nil⟩, ?_⟩
  rintro c m H2 ⟨rfl, hc, vs, f2, hD, dD⟩
  have at2 : H2 d = some (.frz od (.dK T)) := f2.j.2 _ (.head _)
  by_cases l : c < T.length
  · refine .inr ⟨⟨at2, l⟩, fun H3 => ∃ vs, Fr W1 H1 H3 ∧ H3 D = some (.lst vs) ∧ DtAll K (hid (fun a => W1.M a ∨ a = D) H3) vs ((T.take (c + 1)).map h), ?_, ?_⟩
    · rintro H3 ⟨vs3, r⟩
      exact ⟨T.length - (c + 1), by omega, rfl, l, vs3, r⟩
    · rintro z H3 ⟨T', k, v, hkv, rfl, nT, rfl⟩
      have hm : (k, v) ∈ T := List.mem_of_getElem? hkv
      have fT : Fr W1 H1 (upd H2 T' (.tup [kV k, v])) := f2.trans (.new f2.j nT)
      have hD' : (upd H2 T' (.tup [kV k, v])) D = some (.lst vs) := by rw [upd_ne fun e => by rw [e, nT] at hD; cases hD]; exact hD
      refine ⟨T', [kV k, v], rfl, .inl (.inl upd_same), rfl, kV k, [v], rfl, v, [], rfl, rfl, wipe2 (by decide) σ (some (kV k)) (some v), ?_⟩
      unfold tYes
      dsimp only
      rw [if_pos rfl]
      have sI := same_in (φ := (· = HO.lst vs)) fT nD
      have sD : StOk K (W1.add D (· = .lst vs)).M (upd H2 T' (.tup [kV k, v])) (((L2.wipe σ [1, 2]).set 1 (some (kV k))).set 2 (some v)) [some (.v (.ref d)), some (.d (keyD k)), some (.d (dV v))] :=
        ((((sf.unset 2 none).unset 1 none).ext sI).set (a := .d (keyD k)) 1 (dt_key k)).set (a := .d (dV v)) 2 (dt_flV (fl _ hm))
      refine hs (W1.add D (· = .lst vs)) d (k, v) hm _ _ ⟨fT.j, _, hD', rfl⟩ sD _ fun v4 H4 b f4 eb ib => ?_
      subst eb
      obtain ⟨u4, h4, eu⟩ := f4.j.2
      subst eu
      have dT : DtAll K (hid (fun a => W1.M a ∨ a = D) (upd H2 T' (.tup [kV k, v]))) vs ((T.take c).map h) := DtAll.ext (fun a o e => by
        by_cases z : W1.M a ∨ a = D
        · rw [hid_in z] at e; cases e
        · rw [hid_out z] at e ⊢
          rw [upd_ne (ne_of_none e nT)]; exact e) _ _ dD
      have len4 : vs.length = c := by rw [dD.length, List.length_map, List.length_take]; omega
      have f5 : Fr W1 H1 (upd H4 D (.lst (vs ++ [v4]))) := by
        refine ⟨fun a o nm e => ?_, W1.loc H4 _ (fun a m => upd_ne fun z => mD (z ▸ m)) f4.j.1⟩
        have ne : a ≠ D := ne_of_none e nD
        rw [upd_ne ne]
        exact f4.keep a o (fun z => z.elim nm ne) (fT.keep a o nm e)
      refine ⟨vs, h4, Nat.lt_of_le_of_lt (by rw [len4]; omega : vs.length ≤ 1000) (by decide), vs ++ [v4], f5, upd_same, ?_⟩
      rw [hid_upd (.inr rfl), List.take_add_one, hkv, List.map_append]
      exact DtAll.append (DtAll.ext f4.same _ _ dT) (.cons ib .nil)
  · obtain rfl : c = T.length := by omega
    have ne : D ≠ d := fun z => by rw [z, at2] at hD; cases hD
    have fr : Fr W H (upd H2 d (.dK T)) := ⟨fun a o nm e => by
      by_cases z : a = d
      · rw [z] at e ⊢
        rw [upd_same, ← hd, e]
      · rw [upd_ne z]
        exact f2.keep a o (fun m => m.elim nm fun ⟨p, hp, ep⟩ => z (by rw [← ep, List.mem_singleton.mp hp])) (show (upd H d (.frz od (.dK T))) a = some o by rw [upd_ne z]; exact e), W.loc H2 _ (fun a m => upd_ne fun z => nM (z ▸ m)) f2.j.1⟩
    have nWD : ¬ W.M D := fun m => mD (.inl m)
    rw [List.take_length] at dD
    refine .inl ⟨⟨at2, Nat.le_refl _⟩, at2, q _ _ _ fr rfl (Dt.lst (by rw [hid_out nWD, upd_ne ne]; exact hD) (DtAll.ext (fun a o e => ?_) _ _ dD))⟩
    by_cases z : W1.M a ∨ a = D
    · rw [hid_in z] at e; cases e
    · rw [hid_out z] at e
      have nWa : ¬ W.M a := fun m => z (.inl (.inl m))
      have nad : a ≠ d := fun y => z (.inl (.inr ⟨_, .head _, y.symm⟩))
      rw [hid_out nWa, upd_ne nad]
      exact e
/-! ### dict(list(d.items()) + [(k, v)]) -/
def rDictP (K : PySem.W.Frag) : List V → Hp → VK → Prop := fun xs H Q => ∃ (a : Addr) (ps : List Addr) (kvs : List (Key × V)), xs = [.ref a] ∧ SqL K H a (ps.map V.ref) ∧ Paired (fun p kv => SqT K H p [kV kv.1, kv.2]) ps kvs ∧ ∀ p, H p = none → Q (.ref p) (upd H p (.dK (mergeK [] kvs)))
theorem paired_mono {α β : Type} {F G : α → β → Prop} : ∀ {xs : List α} {ys : List β}, (∀ a b, a ∈ xs → F a b → G a b) → Paired F xs ys → Paired G xs ys
  | _, _, _, .nil => .nil
  | _, _, h, .cons r t => .cons (h _ _ (.head _) r) (paired_mono (fun a b m => h a b (.tail _ m)) t)
theorem paired_snoc {α β : Type} {F : α → β → Prop} : ∀ {xs : List α} {ys : List β} {a : α} {b : β}, Paired F xs ys → F a b → Paired F (xs ++ [a]) (ys ++ [b])
  | _, _, _, _, .nil, h => .cons h .nil
  | _, _, _, _, .cons r t, h => .cons r (paired_snoc t h)
theorem paired_len {α β : Type} {F : α → β → Prop} : ∀ {xs : List α} {ys : List β}, Paired F xs ys → xs.length = ys.length
  | _, _, .nil => rfl
  | _, _, .cons _ t => congrArg (· + 1) (paired_len t)
theorem xe_copyT {k : Key} {v : V} (fl : FlT T) (hv : FlV v) (small : T.length ≤ 1000) (h : XV K W te Δ (.d (DK T))) (hk : XV K W tk Δ (.d (keyD k))) (hx : XV K W tv Δ (.d (dV v))) :
    XV K W (tCB (rDictP K) (tCons (tOp rCat (LiI.tListItems te) (tLst (tCons (tTup (tCons tk (tCons tv tNil))) tNil))) tNil)) Δ (.d (DK (copyT T k v))) := fun σ H j s Q q =>
  h σ H j s _ fun u H1 a f1 e i => by
    subst e
    obtain ⟨d, rfl, hd⟩ := is_dk fl i
    refine ⟨d, T, rfl, hid_le _ _ hd, fun H2 p ts kp np nts pts hp pr => ?_⟩
    have f2 : Fr W H H2 := f1.trans ⟨fun a o _ e => kp a o e, W.loc _ _ (fun a m => by
      cases e : H1 a with
      | none => exact absurd m (W.fresh f1.j e)
      | some o => exact kp a o e) f1.j⟩
    refine (xa_cons (xe_tup (ds := [keyD k, dV v]) (n := (show 2 ≤ 10000 by decide)) (xa_cons hk (xa_cons hx xa_nil))) xa_nil : XAs K W (tCons (tTup (tCons tk (tCons tv tNil))) tNil) Δ (dAll [.tuple [keyD k, dV v]])) σ H2 f2.j (s.fr f2) _ fun us H3 as f3 e i3 => ?_
    subst e
    cases i3 with
    | cons i3 i4 =>
    cases i4
    cases i3 with
    | tup h5 d5 =>
    rename_i t5 vs5
    cases d5 with
    | cons d6 d7 =>
    cases d7 with
    | cons d7 d8 =>
    cases d8
    have e6 := Dt.flat d6 (by cases k <;> rfl)
    have e6 := e6.trans (show vOf (keyD k) = kV k by cases k <;> rfl)
    have e7 := (Dt.flat d7 (flat_dV _)).trans hv
    subst e6
    rw [e7] at h5
    refine ⟨by show 1 ≤ sizeLine; decide, fun p2 np2 => ?_⟩
    have f3' : Fr W H H3 := f2.trans f3
    have f4 : Fr W H (upd H3 p2 (.lst [.ref t5])) := f3'.trans (.new f3'.j np2)
    have nWp : ¬ W.M p := W.fresh f1.j np
    have hp3 : H3 p = some (.lst (ts.map V.ref)) := f3.keep p _ nWp hp
    have hp4 : (upd H3 p2 (.lst [.ref t5])) p = some (.lst (ts.map V.ref)) := by rw [upd_ne (ne_of_none hp3 np2)]; exact hp3
    have lts : ts.length = T.length := paired_len pr
    refine ⟨p, p2, ts.map V.ref, [.ref t5], rfl, rfl, hp4, upd_same, by rw [List.length_map, lts]; exact Nat.le_trans (Nat.add_le_add_right small 1) (by decide), fun p3 np3 => ?_⟩
    have f5 : Fr W H (upd (upd H3 p2 (.lst [.ref t5])) p3 (.lst (ts.map V.ref ++ [.ref t5]))) := f4.trans (.new f4.j np3)
    have keep4 : ∀ {b : Addr} {o : HO}, H3 b = some o → (upd (upd H3 p2 (.lst [.ref t5])) p3 (.lst (ts.map V.ref ++ [.ref t5]))) b = some o := fun {b o} e => by
      have e4 : (upd H3 p2 (.lst [.ref t5])) b = some o := by rw [upd_ne (ne_of_none e np2)]; exact e
      rw [upd_ne (ne_of_none e4 np3)]
      exact e4
    refine ⟨p3, ts ++ [t5], T ++ [(k, v)], rfl, .inl (.inl (by rw [upd_same, List.map_append]; rfl)), paired_snoc (paired_mono (fun t kv ht e => .inl (.inl (keep4 (f3.keep t _ (W.fresh f1.j (nts t ht)) e)))) pr) ?_, fun p6 np6 => ?_⟩
    · exact sqT_same (fun a o e => keep4 (hid_le _ _ e)) h5
    · have f6 := f5.trans (.new (o := .dK (mergeK [] (T ++ [(k, v)]))) f5.j np6)
      exact q _ _ _ f6 rfl (dk_is (fl.copy k hv) (hid_new f5.j np6))
/-! ### d.get(c, z) of such a dict -/
theorem xe_dgetT {c : Str} {z : PyData} {zv : V} (fl : FlT T) (ez : vOf z = zv) (fz : flat z = true) (h : XV K W td Δ (.d (DK T))) (hy : XV K W ty Δ (.d (.str c))) (hx : XV K W tx Δ (.d z)) :
    XV K W (tDGet2 td ty tx) Δ (.d (dV ((valV T (.inr c)).getD zv))) := fun σ H j s Q q =>
  h σ H j s _ fun v H1 a f1 e i1 => by
    subst e
    obtain ⟨d, rfl, hd⟩ := is_dk fl i1
    have hd1 := hid_some hd
    refine ⟨d, rfl, .inl ⟨T, .inl hd1.2⟩, hy σ H1 f1.j (s.fr f1) _ fun w2 H2 b f2 e i2 => ?_⟩
    subst e
    cases i2
    refine hx σ H2 f2.j ((s.fr f1).fr f2) _ fun w3 H3 b f3 e i3 => ?_
    subst e
    obtain rfl := Dt.flat i3 fz
    refine ⟨valV T (.inr c), DGet.k (k := Sum.inr c) (f3.keep _ _ hd1.1 (f2.keep _ _ hd1.1 hd1.2)), ?_⟩
    rw [ez]
    have fv : FlV ((valV T (.inr c)).getD zv) := by
      cases hv : valV T (.inr c) with
      | none =>
        show vOf (dV zv) = zv
        rw [← ez]
        cases z <;> first | rfl | (cases fz)
      | some v =>
        unfold valV at hv
        obtain ⟨p, hp, rfl⟩ := Option.map_eq_some_iff.mp hv
        exact fl p (List.mem_of_find?_eq_some hp)
    exact q _ H3 _ ((f1.trans f2).trans f3) rfl (dt_flV fv)
/-! ### d != e, two dicts alike -/
theorem ox_neDA {T2 : Tab} (fl : FlT T) (fl2 : FlT T2) (hl : T.length = T2.length) (hp : ∀ p ∈ T, valV T2 p.1 = some p.2 ∧ flatB p.2 = true) : OX K W rNeDA (.d (DK T)) (.d (DK T2)) (· = .d (.bool false)) := fun v w H j i1 i2 Q q => by
  obtain ⟨d, rfl, hd⟩ := is_dk fl i1
  obtain ⟨d2, rfl, hd2⟩ := is_dk fl2 i2
  exact ⟨d, d2, T, T2, rfl, rfl, hid_le _ _ hd, hid_le _ _ hd2, hl, hp, q _ H _ (.refl j) rfl (.bl _)⟩
end
/-! ### isinstance of an error, two classes asked -/
def rIsDT (K : PySem.W.Frag) (a : Addr) (cls : Value) (d : Option Addr) : List V → Hp → VK → Prop := fun xs H Q => ∃ (D dd tp : Addr) (fs : List (Str × V)) (cs : List Addr) (b : Bool), cls = .ref D ∧ d = some dd ∧ ExcC K D ∧ xs = [.ref a, .ref tp] ∧ H dd = some (.xd fs) ∧ H tp = some (.tup (cs.map V.ref)) ∧ PySem.W.kitAny K (.ref D) (cs.map Value.ref) = some b ∧ Q (.bl b) H
theorem vals_refsD : ∀ {cs : List Addr} {us : List Value}, Vals (cs.map V.ref) us → us = cs.map Value.ref := L2.refs_at
theorem call_isDT {X : Cx} {a : Addr} {cls : Value} {d : Option Addr} {oe : Obj} {pn : List (Addr × Obj)} (hz : Zc cls d oe) (hf : ∃ vs, oe.data = .fields vs) : CallR (X.suite a ((a, oe) :: pn)) (.builtin "isinstance") (rIsDT X.K a cls d) := by
  intro pins s σ H xs us Q I r h
  obtain ⟨D, dd, tp, fs, cs, b, ec, ed, C, exs, hH, ht, e, q⟩ := h
  subst ec ed exs
  cases r with
  | cons rx rr =>
    cases rr with
    | cons rt rr =>
      cases rr
      cases rx
      cases rt
      obtain ⟨hget, _⟩ := I.pin (a, oe) (List.mem_append_left _ List.mem_cons_self)
      obtain ⟨vs, hv⟩ := hf
      have hx : ObjOk X.prog X.w H s.heap dd (.xd fs) := I.hok dd _ hH
      obtain ⟨mA, hns, _⟩ := hx
      obtain ⟨od, ho, _⟩ := lookIn_ns hns
      have hcl : (PySem.W.clsIn X.K D).isSome = true := by
        obtain ⟨cd, hc, _⟩ := PySem.W.any_some C.hd
        rw [hc]
        rfl
      have J : PySem.W.InstAt s.heap a oe D (some od) := ⟨hget, hz.1, by unfold PySem.W.notCls; rw [hv], by rw [hz.2]; exact ho⟩
      obtain ⟨_, its, rv, o, o1, o2, n, o3⟩ := I.hok tp _ ht
      have ei := L2.refs_at rv
      subst ei
      obtain ⟨c0, d0, dat, sl⟩ := o
      cases o2
      cases o3
      exact PySem.W.kia_tup (PySem.W.kitx_exc hcl C.hg C.hk C.hs C.ha C.hn C.ht C.hm) I.kIn J o1 e (fun z => nomatch z) fun tk => ⟨.bl b, H, I.kept (t' := tk) fun _ _ z => z, rfl, q⟩
theorem xe_isDT {K : PySem.W.Frag} {W : Wd} {Δ : Env} {D q d A B : Addr} {f : Str} {v : V} {vs : List V} {ds : List PyData} {b : Bool} {k : Nat} (C : ExcC K D) (hk : PySem.W.kitAny K (.ref D) [.ref A, .ref B] = some b) (e : Δ[k]? = some (some (.w (.ref q) vs ds))) :
    XV K (W.err d f v) (tCB (rIsDT K q (.ref D) (some d)) (tCons (tVar k) (tCons (tTup (tCons (tC (.ref A)) (tCons (tC (.ref B)) tNil))) tNil))) Δ (.d (.bool b)) := fun σ H j s Q qq => by
  obtain ⟨v0, e0, i0⟩ := s.get k _ e
  obtain ⟨e1, _⟩ := is_w i0
  subst e1
  refine ⟨_, e0, ?_⟩
  refine ⟨by show 2 ≤ sizeLine; decide, fun p np => ?_⟩
  obtain ⟨u, hu, eu⟩ := j.2
  subst eu
  have fr : Fr (W.err d f v) H (upd H p (.tup [.ref A, .ref B])) := .new j np
  exact ⟨D, d, p, _, [A, B], b, rfl, rfl, C, rfl, (by rw [upd_ne (ne_of_none hu np)]; exact hu), upd_same, hk, qq _ _ _ fr rfl (.bl b)⟩
end V2

set_option Elab.async false
set_option linter.all false
set_option maxRecDepth 100000
set_option maxHeartbeats 2000000
/-! VHotC (for k03): within an except suite: a comprehension over a range, its block bearing the pins; isinstance and fields of the handled error wherever it is pinned; promises that know the handled error. -/
namespace V2
open PySem PySem.Spec PyProof.Rows L2 L2H HotX
/-! ### a block that bears the pins -/
abbrev blkH (X : Cx) (s : Shared) (H : Hp) (scope : Scope) (cenv : PySem.Env) (fp : List Addr) : Cx := { X.blk s H scope cenv fp with pn := X.pn }
section
variable {X : Cx} {pins : List (Addr × Obj)} {σ : L2.St} {H : Hp} {s : Shared}
theorem hotC_blk {s0 : Shared} {H0 : Hp} {scope : Scope} {cenv : PySem.Env} {fp : List Addr} (h : HotC X) : HotC (blkH X s0 H0 scope cenv fp) := h
theorem block_startH {scope : Scope} {own : List (Str × Nat)} {fp : List Addr} (I : L2.Inv X pins σ H s) (ok : BlkOk X.N X.env.scope scope own) (hN : X.N.Nodup) (hfp : ∀ b ∈ fp, FpOk X pins H b ∧ b < s.heap.objs.size) :
    L2.Inv (blkH X s H scope (compEnvC scope (cellsFrom (s.heap.objs.size + 1) scope.names (cloFrom X.env.cells scope.names [])) s.heap.objs.size X.env) fp) [] (wipe σ (own.map (·.2))) H { s with heap := pushCells (s.heap.push { cls := .type "dict", data := .dict #[] }) scope.names } := by
  have B := block_start I ok hN hfp
  have kp : ∀ b o, s.heap.get? b = some o → (pushCells (s.heap.push { cls := .type "dict", data := .dict #[] }) scope.names).get? b = some o := fun b o e => pushCells_keeps _ _ _ _ (Heap.get?_push_of_some _ e)
  have O := B.ok
  refine ⟨⟨O.mod, O.kind, O.glob, O.blt, O.above, O.inj, O.has, O.cab, O.hd, O.frames, O.stk, O.exf, O.bs, O.bsz, O.noex, O.exfs, O.funs, O.frf⟩, B.os, B.bare, B.base, B.loc, B.cell, B.free, B.freeC, fun p hp => ?_, B.hok, B.len⟩
  have hp : p ∈ X.pn := by simpa using hp
  obtain ⟨h1, h2, h3, h4, h5⟩ := I.pin p (List.mem_append_left _ hp)
  refine ⟨kp _ _ h1, h2, ?_, fun m => ?_, h5⟩
  · show p.1 ≠ s.heap.objs.size
    exact Nat.ne_of_lt (Heap.lt_size h1)
  · rcases List.mem_cons.mp (I.stkSub p.1 m) with z | z
    · exact h3 z
    · exact h4 z
theorem lc_coreH {Q : VK} {elt tg iter : Expr} {ifs : List Expr} {scope : Scope} {own : List (Str × Nat)} {pos pos' : Pos} {wi : TI} {g : TG} {tt : TT} {te : TE} {use : Option (Value → Sem Unit)} {Qf : Value → Shared → Prop}
    (hc : HotC X) (hN : X.N.Nodup) (I : L2.Inv X pins σ H s) (hi : PIH X tg iter wi) (ok : BlkOk X.N X.env.scope scope own)
    (hg : ∀ (s : Shared) (H : Hp) (C : Addr) (cl : List (Str × Addr)) (fp : List Addr), PG (blkH X s H scope (compEnvC scope cl C X.env) fp) tg g) (ht : ∀ (s : Shared) (H : Hp) (C : Addr) (cl : List (Str × Addr)) (fp : List Addr), PTs (blkH X s H scope (compEnvC scope cl C X.env) fp) ifs tt)
    (he : ∀ (s : Shared) (H : Hp) (C : Addr) (cl : List (Str × Addr)) (fp : List Addr), PE (blkH X s H scope (compEnvC scope cl C X.env) fp) elt te) (hs : ∀ x, foldedSetIterable iter X.env x = pure x)
    (h : tLc wi g tt te (own.map (·.2)) σ H Q)
    (hRR : ∀ D C s' m H', L2.Inv X pins σ H' s' → Q (.ref D) H' → s'.heap.Ns C m → FpOk X pins H' C → compPost (model X.prog X.w) X.A X.xe use Qf (.ref D) C (.ok .next) s') :
    wpAny (model X.prog X.w) X.A (comprehension (.ListComp elt [⟨tg, iter, ifs, 0⟩] scope pos) scope X.env pos' (newList []) false (eval iter X.env) use) Qf X.xe s := by
  have hfree : ∀ y ∈ scope.names, y.2 = .free → ∃ c, X.env.cells.lookup y.1 = some c := fun y hy e => by
    rcases ok.free y hy e with k | k
    · exact I.ok.has _ (.inl k)
    · exact I.ok.has _ (.inr k)
  refine wpAny_comprehension_free (use := use) rfl hs (closure_ok hfree) ok.kind (fun y hy e => by rw [ok.uniq y hy, e])
    (thn (hi.run pins s σ H _ I h) fun xv s1 hx => thn hx fun itv s2 h2 => ?_)
  obtain ⟨it, fp, tn, J, H2, e, I2, T, st2, f2, q⟩ := h2
  subst e
  refine wpAny_newObj_type (newEnv_comp ?_) (by show 0 ≤ sizeLine; decide)
  generalize hD : s2.heap.objs.size = D
  have hDn : H2 D = none := I2.hok.fresh (Nat.le_of_eq hD)
  obtain ⟨W, ⟨m0, w0⟩, turn⟩ := q D hDn
  generalize hs3 : ({ s2 with heap := s2.heap.push { cls := .type "list", data := .seq ([] : List Value).toArray } } : Shared) = s3
  have I3 : L2.Inv X pins σ (upd H2 D (.lst [])) s3 := by
    rw [← hs3]
    refine I2.laid (t' := s2.toks) (fun b o e => Heap.get?_push_of_some _ e) (Nat.le_of_eq hD) ⟨Nat.zero_le _, [], 0, .nil, ?_⟩
    rw [← hD]
    exact Heap.get?_push_size _ rfl
  have h3 : s3.heap = s2.heap.push { cls := .type "list", data := .seq ([] : List Value).toArray } := by rw [← hs3]
  have sz : ∀ b ∈ fp, b < s2.heap.objs.size := fun b hb => by
    obtain ⟨o, e, _⟩ := T.obj _ _ st2 b hb
    exact Heap.lt_size e
  have f3 : ∀ b ∈ fp, FpOk X pins (upd H2 D (.lst [])) b ∧ b < s3.heap.objs.size := fun b hb => by
    have hlt := sz b hb
    refine ⟨⟨?_, (f2 b hb).2⟩, by rw [h3, Heap.size_push]; exact Nat.lt_succ_of_lt hlt⟩
    rw [upd_ne (by rw [← hD]; exact Nat.ne_of_lt hlt)]
    exact (f2 b hb).1
  have st3 : tn 0 s3.heap := T.keep _ _ _ st2 fun b _ o e => by rw [h3]; exact Heap.get?_push_of_some _ e
  have I4 := block_startH I3 ok hN f3
  have pg := hg s3 (upd H2 D (.lst [])) s3.heap.objs.size (cellsFrom (s3.heap.objs.size + 1) scope.names (cloFrom X.env.cells scope.names [])) fp
  have pt := ht s3 (upd H2 D (.lst [])) s3.heap.objs.size (cellsFrom (s3.heap.objs.size + 1) scope.names (cloFrom X.env.cells scope.names [])) fp
  have pe := he s3 (upd H2 D (.lst [])) s3.heap.objs.size (cellsFrom (s3.heap.objs.size + 1) scope.names (cloFrom X.env.cells scope.names [])) fp
  show codeAny _ _ (.compStart (.ListComp elt [⟨tg, iter, ifs, 0⟩] scope pos) 0 (.ref it) (.ref D) (compEnvC scope (cellsFrom (s3.heap.objs.size + 1) scope.names (cloFrom X.env.cells scope.names [])) s3.heap.objs.size X.env)) (compPost (model X.prog X.w) X.A X.xe use Qf (.ref D) s3.heap.objs.size) { s3 with heap := pushCells (s3.heap.push { cls := .type "dict", data := .dict #[] }) scope.names }
  have nfp : ∀ b ∈ fp, (upd H2 D (.lst [])) b = none := fun b hb => (f3 b hb).1.1
  generalize hce : compEnvC scope (cellsFrom (s3.heap.objs.size + 1) scope.names (cloFrom X.env.cells scope.names [])) s3.heap.objs.size X.env = ce at I4 pg pt pe ⊢
  have cL : ce.locals = s3.heap.objs.size := by subst hce; rfl
  generalize hH3 : upd H2 D (.lst []) = H3 at I3 I4 pg pt pe w0 nfp f3
  generalize hs4 : ({ s3 with heap := pushCells (s3.heap.push { cls := .type "dict", data := .dict #[] }) scope.names } : Shared) = s4 at I4 ⊢
  have st4 : tn 0 s4.heap := T.keep _ _ _ st3 fun b _ o e => by rw [← hs4]; exact pushCells_keeps _ _ _ _ (Heap.get?_push_of_some _ e)
  have npn : ∀ b ∈ fp, ∀ p ∈ X.pn, p.1 ≠ b := fun b hb p hp => by
    exact fun z => (f2 b hb).2.2.2.2.2 p (List.mem_append_left _ hp) z
  have stat : ∀ {σ' : L2.St} {H' : Hp} {s' : Shared}, L2.Inv (blkH X s3 H3 scope ce fp) [] σ' H' s' → (∀ b ∈ fp, H' b = none) → ∀ b ∈ fp, FpOk (blkH X s3 H3 scope ce fp) [] H' b := fun {σ' H' s'} I' hn b hb =>
    ⟨hn b hb, (I'.ok.exf b hb).1, I'.ok.exfs b hb, .inl hb, fun x c e => (I'.ok.exf b hb).2 x c e, fun p hp => npn b hb p (by simpa using hp)⟩
  have loop : codeAny (model X.prog X.w) X.A (.compLoop (.ListComp elt [⟨tg, iter, ifs, 0⟩] scope pos) 0 (.ref it) (.ref D) ce) (compPost (model X.prog X.w) X.A X.xe use Qf (.ref D) s3.heap.objs.size) s4 := by
    refine compLoop_any (fun n s' => ∃ i H', L2.Inv (blkH X s3 H3 scope ce fp) [] (wipe σ (own.map (·.2))) H' s' ∧ tn i s'.heap ∧ (∀ b ∈ fp, H' b = none) ∧ W i n H') ?_ m0 ⟨0, H3, I4, st4, nfp, w0⟩
    rintro n s5 ⟨i, H5, I5, st5, n5, w5⟩
    rcases turn i n H5 w5 with ⟨stop, qq⟩ | ⟨go, Nx, hNx, step⟩
    · have td := T.done (blkH X s3 H3 scope ce fp) rfl rfl rfl hc i [] s5 _ H5 (fun _ _ => False) I5 (stat I5 n5) st5 stop
      refine thnF td fun r s6 ⟨hr, I6⟩ => ?_
      subst hr
      have I7 : L2.Inv X pins σ H5 s6 := I3.call' (ch := fp) I6.os I6.base I6.hok I6.bare fun b hb => ⟨(f3 b hb).1.2.2.2.1, (f3 b hb).1.2.1, (f3 b hb).1.2.2.2.2.1, (f3 b hb).1.2.2.2.2.2⟩
      have nC : H5 s3.heap.objs.size = none := by
        have z : H5 ce.locals = none := I6.free
        rw [cL] at z
        exact z
      obtain ⟨m, hn, _⟩ := I6.loc
      have hn : s6.heap.Ns ce.locals m := hn
      rw [cL] at hn
      exact hRR D s3.heap.objs.size s6 m H5 I7 qq hn (I3.fpOk (Nat.le_refl _) nC)
    · have ti := T.item (blkH X s3 H3 scope ce fp) rfl rfl rfl hc i [] s5 _ H5 (fun _ _ => False) I5 (stat I5 n5) st5 go
      refine thnF ti fun r s6 ⟨u, hr, h6⟩ => ?_
      subst hr
      refine thnF h6 fun _ s7 ⟨x, H7, I7, r7, y7, st7, n7⟩ => ?_
      have I7' := I7.pinned (stat I7 n7) (T.obj _ _ st7)
      refine thnF (pg.run _ s7 _ H7 x u _ I7' r7 (step x H7 y7)) fun _ s8 ⟨σ8, H8, I8, hw8, q8⟩ => ?_
      refine thnF (pt.run _ s8 σ8 H8 _ I8 q8) fun b s9 ⟨H9, I9, q9⟩ => ?_
      have fin : ∀ {s' : Shared} {H' : Hp}, L2.Inv (blkH X s3 H3 scope ce fp) ([] ++ pinsAt fp s7.heap) σ8 H' s' → Nx H' → ∃ m, m < n ∧ ∃ i H', L2.Inv (blkH X s3 H3 scope ce fp) [] (wipe σ (own.map (·.2))) H' s' ∧ tn i s'.heap ∧ (∀ b ∈ fp, H' b = none) ∧ W i m H' := fun {s' H'} I' nx => by
        obtain ⟨m', hm, w'⟩ := hNx H' nx
        have pin' : ∀ b ∈ fp, ∀ o, s7.heap.get? b = some o → s'.heap.get? b = some o ∧ H' b = none := fun b hb o e =>
          let z := I'.pin (b, o) (List.mem_append_right _ (List.mem_append_right _ (mem_pinsAt hb e)))
          ⟨z.1, z.2.1⟩
        have hl : (wipe σ (own.map (·.2))).length = σ8.length := by rw [← hw8, wipe_length]
        refine ⟨m', hm, i + 1, H', (I'.unpinned (pins := [])).weak hl (fun j v e => ?_), T.keep _ _ _ st7 fun b hb o e => (pin' b hb o e).1, fun b hb => ?_, w'⟩
        · rw [← hw8] at e
          exact (wipe_some e).1
        · obtain ⟨o, e, _⟩ := T.obj _ _ st7 b hb
          exact (pin' b hb o e).2
      cases b with
      | false =>
        simp only [Bool.false_eq_true, if_false] at q9 ⊢
        exact fin I9 q9
      | true =>
        simp only [if_true] at q9 ⊢
        refine thnF (pe.run _ s9 σ8 H9 _ I9 q9) fun z s10 ⟨yv, H10, I10, r10, acc, hD10, hz10, nx⟩ => ?_
        exact app_ok (X := blkH X s3 H3 scope ce fp) I10 hD10 hz10 r10 fun s11 I11 => fin I11 nx
  exact codeAny_compStart_list loop (T.self X.A 0 _ _ _ st4 loop)
/-- [e for x in range(n) if t] within an except suite -/
theorem pe_lcH {elt tg iter : Expr} {ifs : List Expr} {scope : Scope} {own : List (Str × Nat)} {pos : Pos} {wi : TI} {g : TG} {tt : TT} {te : TE} (hc : HotC X) (hN : X.N.Nodup) (hi : PIH X tg iter wi) (ok : BlkOk X.N X.env.scope scope own)
    (hg : ∀ (s : Shared) (H : Hp) (C : Addr) (cl : List (Str × Addr)) (fp : List Addr), PG (blkH X s H scope (compEnvC scope cl C X.env) fp) tg g) (ht : ∀ (s : Shared) (H : Hp) (C : Addr) (cl : List (Str × Addr)) (fp : List Addr), PTs (blkH X s H scope (compEnvC scope cl C X.env) fp) ifs tt)
    (he : ∀ (s : Shared) (H : Hp) (C : Addr) (cl : List (Str × Addr)) (fp : List Addr), PE (blkH X s H scope (compEnvC scope cl C X.env) fp) elt te) (hs : ∀ x, foldedSetIterable iter X.env x = pure x := by intro _; rfl) :
    PE X (.ListComp elt [⟨tg, iter, ifs, 0⟩] scope pos) (tLc wi g tt te (own.map (·.2))) := by
  refine ⟨fun pins s σ H Q I h => ?_⟩
  rw [eval_ListComp]
  refine lc_coreH hc hN I hi ok hg ht he hs h fun D C s' m H' I' q hn f => ⟨m, hn, fun h'' sb => ?_⟩
  obtain ⟨f0, f1, f2, f3, f4, f5⟩ := f
  exact ⟨.ref D, H', I'.turned (t' := s'.toks) (fun b o hb e => (sb.2 b hb).trans e) f0 f1 f3 f4 f5, rfl, q⟩
end
/-! ### promises that know the handled error -/
structure FnP (P : Program) (w : World) (K : PySem.W.Frag) (mg : Str → Option Value) (base : Heap) (k : Nat) (f : Addr) (fd : FuncData) (ps : List Str) (sp : Addr × Obj → Sp) : Prop where
  arity : ∀ p vs H Q E, sp p vs H Q E → vs.length = ps.length
  goes : ∀ (A : Around) (outer : List PySem.Env) (s : Shared) (H : Hp) (args : Args) (us : List Value) (vs : List V) (Q : VK) (E : XK) (p : Addr × Obj), RoomH k A → NoG A → Hot1 A p → PinOk outer H s p → Env0 P w K mg base A outer s H → BindsTo s fd args (ps.zip us) → Vals vs us → sp p vs H Q E →
    codeAny (model P w) A (.call (.ref f) args) (CR CX0 outer P w H s Q E) s
section
variable {P : Program} {w : World} {K : PySem.W.Frag} {mg : Str → Option Value} {base : Heap} {k : Nat} {f : Addr} {fd : FuncData} {ps N : List Str} {sp : Addr × Obj → Sp}
theorem okP {x qual : Str} {st : Stmt} (F : Fun K x qual st f fd) (S : FnScope N ps (defScope st)) (len : ∀ p vs H Q E, sp p vs H Q E → vs.length = ps.length)
    (body : ∀ (cdv : Value) (A : Around) (outer : List PySem.Env) (s : Shared) (H : Hp) (vs : List V) (Q : VK) (E : XK) (p : Addr × Obj), Hot1 A p → RoomH k (A.deeper (envOfC qual (defScope st) s.heap.objs.size f cdv)) → NoG A → sp p vs H Q E →
      ∃ t, PSs (cxH CX0 P w K mg base N qual (defScope st) f cdv A outer s H E p) (defBody st) t ∧ t ⟨fun _ H' => Q .non H', Q, fun _ _ => False, fun _ _ => False⟩ (L2.start N vs) H) : FnP P w K mg base (k + 1) f fd ps sp := by
  obtain ⟨oc, od, kV, doc, pm, an, cdv, ct, osl, rfl, lk, hcd⟩ := F.ex
  refine ⟨len, fun A outer s H args us vs Q E p room ng hot pin env binds rel promise => ?_⟩
  have inK : K.In s.heap := env.mod.kin.keeps fun b o h => (env.bs b o h).1
  have kinds : ∀ y ∈ ps.zip us, (defScope st).names.lookup y.1 = some .local ∨
      ((defScope st).names.lookup y.1 = some .cell ∧ ((cellsFrom (s.heap.objs.size + 1) (defScope st).names []).lookup y.1).isSome = true) := by
    rintro ⟨n, v⟩ mem
    rcases S.par n (List.of_mem_zip mem).1 with loc | cel
    · exact Or.inl loc
    · exact Or.inr ⟨cel, PySem.W.cellsFrom_some _ _ _ (Or.inl cel)⟩
  apply codeAny_call_function room.depth (inK _ _ lk) rfl S.co S.gen rfl (PySem.W.codeRec_of inK hcd)
  apply binds
  apply wpAny_newFunctionEnv_cells S.kind kinds
  intro ev hev s1 x
  subst hev
  refine ⟨?_, codeAny_func ?_⟩
  · have nl : s.heap.NoLimit := env.mod.nolimit.keeps fun b o h => (env.bs b o h).1
    exact nl.keeps x.toInCall.keep
  obtain ⟨t, ht, hq⟩ := body cdv A outer s H vs Q E p hot (room.deeper _) ng promise
  have I : L2.Inv (cxH CX0 P w K mg base N qual (defScope st) f cdv A outer s H E p) [] (L2.start N vs) H s1 := inv_startH S pin env (len _ _ _ _ _ promise) rel x
  refine wpAny_mono (ht.run [] s1 (L2.start N vs) H _ I hq) (fun fl s' hs => ?_) fun e s' hs => hs
  rcases fl with _ | _ | _ | v
  · obtain ⟨σ', H', J, q⟩ := hs
    exact ⟨.non, H', J.os, J.bare, J.base, J.hok, rfl, q⟩
  · obtain ⟨_, _, _, q⟩ := hs
    exact q.elim
  · obtain ⟨_, _, _, q⟩ := hs
    exact q.elim
  · obtain ⟨y, σ', H', J, r, q⟩ := hs
    exact ⟨y, H', J.os, J.bare, J.base, J.hok, r, q⟩
end
section
variable {X : Cx} {k : Nat} {f : Addr} {fd : FuncData} {ps : List Str} {sp : Addr × Obj → Sp} {x : Str} {q pos : Pos} {e : Expr} {es : List Expr} {t : TA} {p : Addr × Obj}
theorem pe_callP (F : FnP X.prog X.w X.K X.mg X.base k f fd ps sp) (hr : RoomH k X.A) (ng : NoG X.A) (hot : Hot1 X.A p) (hp : p ∈ X.pn) (hg : Gl X x) (hm : X.mg x = some (.ref f)) (hk : PySem.W.keepIn X.K (.ref f) = true) (hb : Binds X.K fd ps [])
    (ha : PA X (e :: es) t) (hdb : (x == ("__debug__" : Str)) = false := by decide) (he : starEach (e :: es) X.env = (false, eval e X.env) :: starEach es X.env := by rfl) (hpl : (backTo pos (starEach es X.env)).any (·.1) = false := by rfl) :
    PE X (.Call (.Name x q) (e :: es) [] pos) (fun σ H Q => t σ H fun vs H1 => sp p vs H1 Q fun _ _ _ => False) := by
  refine ⟨fun pins s σ H Q I h => ?_⟩
  refine wpAny_Call_Name_kw (ld_glob I hg hm ?_ hdb)
  refine PySem.W.callWith_K (h₀ := X.base) I.ok.mod.kin hk (thn (ha.run pos pins s σ H _ I h) fun us s1 ⟨vs, H1, I1, r, q⟩ => ⟨I1.kIn, ?_⟩) he hpl
  have hl : us.length = ps.length := by rw [← r.length]; exact F.arity _ _ _ _ _ q
  have b := hb s1 us I1.kIn (by rw [List.append_nil]; exact hl)
  rw [List.append_nil] at b
  have P1 := I1.pin p (List.mem_append_left _ hp)
  have hpin : PinOk X.stack H1 s1 p := ⟨P1.1, P1.2.1, fun hm => (List.mem_cons.mp (I1.stkSub p.1 hm)).elim P1.2.2.1 P1.2.2.2.1, P1.2.2.2.2⟩
  refine wpAny_call (codeAny_mono (F.goes X.A X.stack s1 H1 ⟨us, []⟩ us vs _ (fun _ _ _ => False) p hr ng hot hpin I1.env0 b r q) fun r s' hq => ?_)
  cases r with
  | error e => exact hq.elim
  | ok fl =>
    cases fl with
    | ret u => exact I1.after hq
    | next => exact hq.elim
    | brk => exact hq.elim
    | cont => exact hq.elim
end
/-! ### isinstance and fields of the handled error, where it is pinned -/
theorem call_isP {X : Cx} {p : Addr × Obj} {cls : Value} {d : Option Addr} (hp : p ∈ X.pn) (hz : Zc cls d p.2) (hf : ∃ vs, p.2.data = .fields vs) : CallR X (.builtin "isinstance") (rIsD X.K p.1 cls d) := by
  intro pins s σ H xs us Q I r h
  obtain ⟨D, dd, fs, c, cv, b, ec, ed, C, exs, hH, hcv, e, q⟩ := h
  subst ec ed exs
  cases r with
  | cons rx rr =>
    cases rr with
    | cons rt rr =>
      cases rr
      cases rx
      have eu := hcv _ rt
      subst eu
      obtain ⟨hget, _⟩ := I.pin p (List.mem_append_left _ hp)
      obtain ⟨vs, hv⟩ := hf
      have hx : ObjOk X.prog X.w H s.heap dd (.xd fs) := I.hok dd _ hH
      obtain ⟨mA, hns, _⟩ := hx
      obtain ⟨od, ho, _⟩ := lookIn_ns hns
      have hcl : (PySem.W.clsIn X.K D).isSome = true := by
        obtain ⟨cd, hc, _⟩ := PySem.W.any_some C.hd
        rw [hc]
        rfl
      have J : PySem.W.InstAt s.heap p.1 p.2 D (some od) := ⟨hget, hz.1, by unfold PySem.W.notCls; rw [hv], by rw [hz.2]; exact ho⟩
      exact PySem.W.kia_one (PySem.W.kitx_exc hcl C.hg C.hk C.hs C.ha C.hn C.ht C.hm) I.kIn J e (fun z => nomatch z) fun tk => ⟨.bl b, H, I.kept (t' := tk) fun _ _ z => z, rfl, q⟩
/-- isinstance of the handled error, whether it has fields or none -/
def rIsP (K : PySem.W.Frag) (a : Addr) (cls : Value) (d : Option Addr) : List V → Hp → VK → Prop := fun xs H Q => ∃ (D : Addr) (c : V) (cv : Value) (b : Bool), cls = .ref D ∧ (∀ dd, d = some dd → ∃ fs, H dd = some (.xd fs)) ∧ ExcC K D ∧ xs = [.ref a, c] ∧ (∀ u, RelV c u → u = cv) ∧ PySem.W.kitOne K (.ref D) cv = some b ∧ Q (.bl b) H
theorem call_isPN {X : Cx} {p : Addr × Obj} {cls : Value} {d : Option Addr} (hp : p ∈ X.pn) (hz : Zc cls d p.2) (hf : ∃ vs, p.2.data = .fields vs) : CallR X (.builtin "isinstance") (rIsP X.K p.1 cls d) := by
  intro pins s σ H xs us Q I r h
  obtain ⟨D, c, cv, b, ec, hH, C, exs, hcv, e, q⟩ := h
  subst exs
  cases d with
  | some dd =>
    obtain ⟨fs, hH⟩ := hH dd rfl
    exact call_isP hp hz hf pins s σ H _ us Q I r ⟨D, dd, fs, c, cv, b, ec, rfl, C, rfl, hH, hcv, e, q⟩
  | none =>
    subst ec
    cases r with
    | cons rx rr =>
      cases rr with
      | cons rt rr =>
        cases rr
        cases rx
        have eu := hcv _ rt
        subst eu
        obtain ⟨hget, _⟩ := I.pin p (List.mem_append_left _ hp)
        obtain ⟨vs, hv⟩ := hf
        have hcl : (PySem.W.clsIn X.K D).isSome = true := by
          obtain ⟨cd, hc, _⟩ := PySem.W.any_some C.hd
          rw [hc]
          rfl
        have J : PySem.W.InstAt s.heap p.1 p.2 D none := ⟨hget, hz.1, by unfold PySem.W.notCls; rw [hv], by rw [hz.2]; trivial⟩
        exact PySem.W.kia_one (PySem.W.kitx_exc hcl C.hg C.hk C.hs C.ha C.hn C.ht C.hm) I.kIn J e (fun z => nomatch z) fun tk => ⟨.bl b, H, I.kept (t' := tk) fun _ _ z => z, rfl, q⟩
/-- e.f, e the handled error, of which the promise tells class and fields -/
def tXfP (K : PySem.W.Frag) (a : Addr) (cls : Value) (d : Option Addr) (f : Str) (te : TE) : TE := fun σ H Q => te σ H fun x H1 => x = .ref a ∧ ∃ (C dd : Addr) (fs : List (Str × V)) (v : V), cls = .ref C ∧ XfC K C ∧ PySem.W.findIn K (.ref C) f = some none ∧ d = some dd ∧ H1 dd = some (.xd fs) ∧ fs.lookup f = some v ∧ Q v H1
theorem pe_xfP {X : Cx} {p : Addr × Obj} {cls : Value} {d : Option Addr} {e : Expr} {te : TE} {pos : Pos} {n : Str} (hp : p ∈ X.pn) (hz : Zc cls d p.2) (hf : ∃ vs, p.2.data = .fields vs) (he : PE X e te) (hb : attributeBase e n X.env (eval e X.env) = eval e X.env := by rfl) :
    PE X (.Attribute e n pos) (tXfP X.K p.1 cls d n te) := by
  refine ⟨fun pins s σ H Q I h => ?_⟩
  refine attr_of hb (thn (he.run pins s σ H _ I h) fun u s1 hh => ?_)
  obtain ⟨x, H1, I1, rx, ex, C, dd, fs, v, ec, T, hno, ed, ea, l, q⟩ := hh
  subst ex
  obtain rfl : u = Value.ref p.1 := rx
  subst ec
  subst ed
  obtain ⟨ha, _⟩ := I1.pin p (List.mem_append_left _ hp)
  obtain ⟨vs, hd⟩ := hf
  have hx : ObjOk X.prog X.w H1 s1.heap dd (.xd fs) := I1.hok dd _ ea
  obtain ⟨mA, hns, hr⟩ := hx
  obtain ⟨od, ho, hl⟩ := lookIn_ns hns
  obtain ⟨u, hu, ru⟩ := RelO.some_of (v := v) (o := mA n) (by rw [← l]; exact hr n)
  have J : PySem.W.InstAt s1.heap p.1 p.2 C (some od) := ⟨ha, hz.1, by unfold PySem.W.notCls; rw [hd] <;> rfl, by rw [hz.2]; exact ho⟩
  exact HandSPX.exc_get I1.kIn J T.ga T.gg T.exC (PySem.W.findObj_own T.hdC hno rfl (by rw [hl, hu])) (handed_of ru) ⟨v, H1, I1.tok _, ru, q⟩
end V2

set_option Elab.async false
set_option linter.all false
set_option maxRecDepth 100000
set_option maxHeartbeats 4000000
/-! VExm (for k03): except (A, B, ..) as n with any number of classes. -/
namespace V2
open PySem PySem.Spec PySem.Calls PySem.W
section
variable {M : Model} {K : Frag}
theorem exm_tupL {cs : List Value} {cls : Value} {tp e : Addr} {b : Bool} {h : Heap} (X : K.In h) (LT : Looks M h (typeOf (.ref e)) cls) (hp : h.get? tp = some { cls := .type "tuple", data := .seq cs.toArray }) (hx : exmAny K cls cs = some b) :
    Looks M h (excMatches (.ref e) (.ref tp)) b := by
  intro A Q E s k₀ q
  obtain ⟨hh, g, d, tk, os⟩ := s
  have k : ∀ b o, h.get? b = some o → hh.get? b = some o := k₀
  have LT0 : Looks M h (isInstance (.ref tp) (.type "tuple")) true := ((Looks.ld hp).andThen .now).andThen (Looks.of_pure isSubtype_tuple_tuple)
  have LT := LT.keeps k
  have LT0 := LT0.keeps k
  have hp' := k _ _ hp
  have XX := X.keeps k
  unfold excMatches
  refine wpAny_bind (LT0.at ?_)
  dsimp only
  rw [if_pos rfl]
  first
    | refine wpAny_bind (wpAny_seqItems hp' rfl ?_)
    | refine wpAny_bind (wpAny_bind (wpAny_seqItems hp' rfl (wpAny_pure ?_)))
  dsimp only [Option.getD_some, Option.getD]
  refine wpAny_bind (wpAny_pure ?_)
  have all : ∀ (l : List Value) (b : Bool), exmAny K cls l = some b → ∀ c ∈ l, ∃ v, exmOne K cls c = some v := by
    intro l
    induction l with
    | nil => exact fun _ _ c h => nomatch h
    | cons c l ih =>
      intro b h x hx
      obtain ⟨b1, d1, x1, y1, _⟩ := exmAny_cons h
      rcases List.mem_cons.mp hx with rfl | hx
      · exact ⟨b1, x1⟩
      · exact ih d1 y1 x hx
  have loop1 : ∀ (l : List Value) {Q : PUnit → Shared → Prop}, (∀ c ∈ l, ∃ v, exmOne K cls c = some v) → Q PUnit.unit ⟨hh, g, d, tk, os⟩ → wpAny M A (forIn l PUnit.unit fun c __s => do
      let __do_lift ← isExcClass c
      if (!__do_lift) = true then do
          rule "try.except-non-exception-class"
          raiseErrorWords "TypeError" "catching classes that do not inherit from BaseException is not allowed"
          pure (ForInStep.yield PUnit.unit)
        else pure (ForInStep.yield PUnit.unit)) Q E ⟨hh, g, d, tk, os⟩ := by
    intro l
    induction l with
    | nil =>
      intro Q _ h
      simp only [List.forIn_nil]
      exact wpAny_pure h
    | cons c l ih =>
      intro Q hl h
      obtain ⟨v, hv⟩ := hl c (.head _)
      obtain ⟨e1, _⟩ := exm_cls (M := M) XX hv
      simp only [List.forIn_cons]
      refine wpAny_bind (wpAny_bind (e1.at ?_))
      simp only [Bool.not_true, Bool.false_eq_true, if_false]
      exact wpAny_pure (ih (fun x hx => hl x (.tail _ hx)) h)
  have loop2 : ∀ (l : List Value) (b : Bool) {Q : Option Bool × Unit → Shared → Prop}, exmAny K cls l = some b → Q (if b = true then (some true, ()) else (none, ())) ⟨hh, g, d, tk, os⟩ → wpAny M A (forIn l ((none, ()) : Option Bool × Unit) fun c __s => do
      let __do_lift ← isSubtype cls c
      if __do_lift = true then pure (ForInStep.done (some true, ())) else pure (ForInStep.yield (none, ()))) Q E ⟨hh, g, d, tk, os⟩ := by
    intro l
    induction l with
    | nil =>
      intro b Q hb h
      cases hb
      simp only [List.forIn_nil]
      exact wpAny_pure h
    | cons c l ih =>
      intro b Q hb h
      obtain ⟨b1, d1, x1, y1, z1⟩ := exmAny_cons hb
      obtain ⟨_, S1⟩ := exm_cls (M := M) XX x1
      simp only [List.forIn_cons]
      refine wpAny_bind (wpAny_bind (S1.at ?_))
      cases b1 with
      | true =>
        subst z1
        simp only [if_true]
        exact wpAny_pure (wpAny_pure h)
      | false =>
        simp only [Bool.false_eq_true, if_false]
        refine wpAny_pure (ih d1 y1 ?_)
        rw [z1] at h
        exact h
  refine wpAny_bind (loop1 cs (all cs b hx) ?_)
  refine wpAny_bind (LT.at ?_)
  refine wpAny_bind (loop2 cs b hx ?_)
  cases b with
  | true => exact wpAny_pure q
  | false => exact wpAny_pure q
end
end V2
namespace V2
open PySem PySem.Spec PyProof.Rows L2
theorem flying_keeps {B h h' : Heap} {l : List PySem.Env} {e : Addr} {Z : Obj → Prop} (x : HandSPX.FlyingZ B l e Z h) (k : ∀ b o, h.get? b = some o → h'.get? b = some o) : HandSPX.FlyingZ B l e Z h' := by
  obtain ⟨x1, x2, x3, oe, vs, T, oT, ts, t1, t2, t3, t4, t5, t6, t7, t8, t9⟩ := x
  exact ⟨fun b o q => k b o (x1 b o q), x2, Heap.FunFrames.of_keeps (fun b o q _ => ⟨o, k b o q, rfl⟩) x3, oe, vs, T, oT, ts, k _ _ t1, t2, t3, t4, t5, t6, k _ _ t7, t8, t9⟩
/-- the names of a clause's classes -/
inductive NamesL (X : Cx) : List Expr → List Value → Prop
  | nil : NamesL X [] []
  | cons {x : Str} {c : Value} {p : Pos} {es : List Expr} {cs : List Value} (h : Names X x c) (r : NamesL X es cs) : NamesL X (.Name x p :: es) (c :: cs)
theorem NamesL.len {X : Cx} {es : List Expr} {cs : List Value} (h : NamesL X es cs) : cs.length = es.length := by
  induction h with
  | nil => rfl
  | cons _ _ ih => exact congrArg (· + 1) ih
theorem NamesL.suite {X : Cx} {q : Addr} {pn : List (Addr × Obj)} {es : List Expr} {cs : List Value} (h : NamesL X es cs) : NamesL (X.suite q pn) es cs := by
  induction h with
  | nil => exact .nil
  | cons h _ ih => exact .cons h ih
theorem eval_namesL {X : Cx} {pins : List (Addr × Obj)} {σ : L2.St} {H : Hp} {s : Shared} {E : Value → Shared → Prop} {pos : Pos} {es : List Expr} {cs : List Value} (n : NamesL X es cs) (I : L2.Inv X pins σ H s) :
    ∀ {Q : List Value → Shared → Prop}, Q cs s → wpAny (model X.prog X.w) X.A (spliced (backTo pos (starEach es X.env))) Q E s := by
  induction n with
  | nil => exact fun h => wpAny_items_nil h
  | @cons x c p es cs h r ih =>
    intro Q q
    refine wpAny_items_cons ?_
    obtain ⟨hg, hdbg, hm | ⟨hm, hv, hnn⟩⟩ := h
    · exact ld_glob I hg hm (ih q) hdbg
    · exact ld_blt I hg hm hv (ih q) hnn hdbg
def wAnyT (K : PySem.W.Frag) (cs : List Value) (i : Nat) (ts : Addr → Value → Option Addr → TS) (Wout : WX) (D : Ends) : WX := fun cls d σ H =>
  ∃ b, PySem.W.exmAny K cls cs = some b ∧ (b = true → ∀ q, H q = none → ts q cls d (goneAt i D) (σ.set i (some (.ref q))) H) ∧ (b = false → Wout cls d σ H)
section
variable {X : Cx} {n : Str} {i : Nat} {body suite : List Stmt} {b0 : Stmt} {es : List Expr} {cs : List Value} {kk : Nat} {tpos at2 at0 : Pos} {tb : WX → TS} {ts : Addr → Value → Option Addr → TS} {Wo : WX}
/-- try: body, except (A, B, ..) as n: suite; the error's context is known to be None -/
theorem ps_tryT (st : X.stack = X.env :: X.outer) (fr : X.env.frame = some X.env.locals) (nd : X.N.Nodup) (ni : X.N[i]? = some n) (nl : X.env.kindOf n = some .local) (nms : NamesL X es cs) (small : cs.length ≤ 1000) (tk : L2N.Takes X Wo)
    (tbd : ∀ (W' : WX) (pn : List (Addr × Obj)) (xe : Value → Shared → Prop), L2N.Takes (X.tr pn xe) W' → PassesOwn (model X.prog X.w) X.A X.env xe → PSs (X.tr pn xe) body (tb W'))
    (su : ∀ (q : Addr) (o : Obj) (k : Value) (d : Option Addr) (pn : List (Addr × Obj)), L2N.Zn k d o → (∃ vs, o.data = .fields vs) → PSs (X.suite q ((q, o) :: pn)) (b0 :: suite) (ts q k d)) :
    PS X (.Try body [.ExceptHandler (some (.Tuple es kk tpos)) (some n) (b0 :: suite) at2] [] [] at0) (fun D σ H => tb (wAnyT X.K cs i ts Wo D) D σ H) := ⟨fun pins s σ H D inv want => by
  have good := inv.ok
  have frs1 : X.A.frames = some (X.env :: X.outer) := by rw [good.frames, st]
  refine wpAny_Try_except (wpAny_mono ((tbd (wAnyT X.K cs i ts Wo D) (X.pn ++ pins) (fun e s₁ => wpAny (model X.prog X.w) X.A (noteFrame e X.env) (fun _ s₂ => wpAny (model X.prog X.w) X.A (setFlight e none) (fun _ s₃ => wpAny (model X.prog X.w) X.A (handleBy e X.env [.ExceptHandler (some (.Tuple es kk tpos)) (some n) (b0 :: suite) at2]) (SP X pins D) X.xe s₃) X.xe s₂) X.xe s₁) (fun u t thrown => ?_) PassesOwn.looking).run [] s σ H D (inv.toTry _) want) (fun g s1 ended => ?_) fun _ _ z => z)
  · obtain ⟨q, base, s0, pins0, σ1, H1, k, d, rfl, inv0, nb, up, sky, nq, os, ag, b, eb, yes, no⟩ := thrown
    have invT : L2.Inv X pins σ1 H1 s0 := inv0.ofTry good
    have skyT : Sky base (X.env :: X.outer) q (L2N.Zn k d) X.env.locals t.heap := by rw [← st]; exact sky
    show wpAny (model X.prog X.w) X.A (noteFrame (.ref q) X.env) _ _ _
    refine L2N.Sky.land L2N.Zn.steady frs1 fr skyT fun g1 fl1 up1 => ?_
    have inv1 : L2.Inv X pins σ1 H1 { t with heap := g1 } := invT.landed nb fl1.1 (up.trans up1) os ag
    obtain ⟨oq, fq, hq, zq, dq⟩ := fl1.there
    have notMem : q ∉ frs (X.env :: X.outer) := fun m => by
      obtain ⟨_, o2, e2, nf⟩ := fl1.2.2.1.mem m
      rw [hq] at e2
      cases e2
      exact nf _ dq
    have neL : q ≠ X.env.locals := fun z => notMem (List.mem_filterMap.mpr ⟨X.env, .head _, by rw [fr, z]⟩)
    have neF : q ∉ X.fs := fun m => by
      obtain ⟨e, me, z⟩ := List.mem_filterMap.mp m
      exact notMem (List.mem_filterMap.mpr ⟨e, .tail _ me, z⟩)
    have sui := inv1.suite hq dq nq neL neF
    refine wpAny_handleBy_cons (codeAny_handlers_test ?_) (fun z => by cases z)
    have small' : cs.length ≤ sizeLine := Nat.le_trans small (by decide)
    refine wpAny_Tuple (eval_namesL (X := X.suite q ((q, oq) :: (X.pn ++ pins))) nms.suite sui ⟨small', ?_⟩)
    let g2 : Heap := g1.push { cls := .type "tuple", data := .seq cs.toArray }
    have kp : ∀ b o, g1.get? b = some o → g2.get? b = some o := fun b o e => Heap.get?_push_of_some _ e
    have fl2 := flying_keeps fl1 kp
    have up2 : t.heap.UpToSlots g2 := up1.trans (Heap.UpToSlots.of_keeps kp)
    have inv2 : L2.Inv X pins σ1 H1 { t with heap := g2 } := invT.landed nb fl2.1 (up.trans up2) os ag
    have lk : PySem.W.Looks (model X.prog X.w) g2 (typeOf (.ref q)) k := fun A Q E s kq z => wpAny_typeOf_ref (kq _ _ (kp _ _ hq)) (by rw [zq.1]; exact z)
    have one := exm_tupL (M := model X.prog X.w) inv2.kIn lk (Heap.get?_push_size g1 rfl) eb
    refine one.here ?_
    cases b with
    | false =>
      show wpAny _ X.A (handleBy (.ref q) X.env []) _ _ _
      refine wpAny_handleBy_nil ?_
      obtain ⟨_, _, _, o3, f3, T, oT, t3, e3, _, d3, r3, _⟩ := id fl2
      unfold PySem.passOn
      refine wpAny_bind (wpAny_field e3 d3 r3 ?_)
      rw [if_neg (by simp : ¬ ((Value.ref T == Value.none) = true))]
      have out : wpAny (model X.prog X.w) X.A (setFlight (.ref q) X.env.frame) (fun _ s4 => wpAny (model X.prog X.w) X.A (throw (.ref q) : Sem Flow) (SP X pins D) X.xe s4) X.xe { t with heap := g2 } := by
        rw [fr]
        exact HandSPX.setFlight_upZ fl2 fun g3 fl3 up3 => wpAny_throw (tk _ _ ⟨q, base, s0, pins, σ1, H1, k, d, rfl, invT, nb, (up.trans up2).trans up3, .inr (.inr (by rw [st]; exact fl3)), nq, os, ag, no rfl⟩)
      first | exact wpAny_bind (wpAny_pure (wpAny_bind out)) | exact wpAny_bind out
    | true =>
      refine codeAny_handlers_suite_as (HandSPX.lands_againZ fl2 fun g3 fl3 up3 => ?_)
      obtain ⟨o2, f2, e2, z2, d2⟩ := fl3.there
      have sui2 := (invT.landed nb fl3.1 ((up.trans up2).trans up3) os ag : L2.Inv X pins σ1 H1 { t with heap := g3 }).suite e2 d2 nq neL neF
      refine store_ok (X := X.suite q ((q, o2) :: (X.pn ++ pins))) (v := .ref q) sui2 nd ni (.inl nl) rfl (fun s5 sui5 => wpAny_mono ((su q o2 k d (X.pn ++ pins) z2 ⟨_, d2⟩).run [] s5 _ H1 _ sui5 (yes rfl q nq)) (fun g s6 e6 => ?_) fun _ _ z => z.elim) (.inr nl)
      cases g with
      | next => obtain ⟨σ6, H6, i6, q6⟩ := e6; exact gone_ok (i6.unsuite good) nd ni nl fun s7 i7 => ⟨_, _, i7, q6⟩
      | brk => obtain ⟨σ6, H6, i6, q6⟩ := e6; exact gone_ok (i6.unsuite good) nd ni nl fun s7 i7 => ⟨_, _, i7, q6⟩
      | cont => obtain ⟨σ6, H6, i6, q6⟩ := e6; exact gone_ok (i6.unsuite good) nd ni nl fun s7 i7 => ⟨_, _, i7, q6⟩
      | ret u => obtain ⟨v6, σ6, H6, i6, r6, q6⟩ := e6; exact gone_ok (i6.unsuite good) nd ni nl fun s7 i7 => ⟨_, _, _, i7, r6, q6⟩
  · cases g with
    | next => obtain ⟨σ2, H2, i2, z⟩ := ended; exact wpAny_execs_nil ⟨σ2, H2, i2.ofTry good, z⟩
    | brk => obtain ⟨σ2, H2, i2, z⟩ := ended; exact ⟨σ2, H2, i2.ofTry good, z⟩
    | cont => obtain ⟨σ2, H2, i2, z⟩ := ended; exact ⟨σ2, H2, i2.ofTry good, z⟩
    | ret u => obtain ⟨v, σ2, H2, i2, r, z⟩ := ended; exact ⟨v, σ2, H2, i2.ofTry good, r, z⟩⟩
end
end V2

set_option Elab.async false
set_option linter.all false
set_option maxRecDepth 100000
set_option maxHeartbeats 2000000
/-! VErrN (for k03): errors of one's own that lay a field, raised where nothing is handled: their context is None. -/
namespace V2
open PySem PySem.Spec
/-- KeyError: it has the __new__ of LookupError -/
theorem lowKeyError : LowF "KeyError" "LookupError.__new__" "KeyError.__init__" [.type "KeyError", .type "LookupError", .type "Exception", .type "BaseException", .type "object"] :=
  ⟨⟨_, _, _, PySem.F.excBase_LookupError, by decide +kernel⟩, by decide +kernel, by decide +kernel, by decide +kernel, by decide +kernel,
    entryFor_alias (id' := "BaseException.__init__") (by rw [fastTable_eq_tree]; kernel_rfl) (by first | rfl | decide +kernel) (by decide +kernel) (by rw [fastTable_eq_tree]; kernel_rfl),
    by kernel_rfl, by kernel_rfl, by kernel_rfl, by decide +kernel⟩
end V2
namespace V2
open PySem PySem.Spec PyProof.Rows L2
section
variable {X : Cx} {e : Expr} {te : TE} {f : Str} {p pos : Pos} {C : Addr} {B mk ini : String} {up : List Value}
theorem mk_endN {pins : List (Addr × Obj)} {σ : L2.St} {H1 H2 : Hp} {Q : XK} {hp hp2 h2 : Heap} {g1 g2 : Array GenState} {d1 d2 : Drawn} {t1 t2 : Nat} {os1 os2 : OsState} {a C d : Addr} {fs : List (Str × V)} (T : Raises X (.ref C)) (I1 : L2.Inv X pins σ H1 ⟨hp, g1, d1, t1, os1⟩)
    (ha : hp.objs.size ≤ a) (k : ∀ b o, hp.get? b = some o → hp2.get? b = some o) (un : Un (frs X.stack) [] (upd H1 a (exo a C none)) H2 hp2 h2) (hok : HOk X.prog X.w H2 h2) (ho : os2 = os1) (hb : AllBare g2)
    (ea : H2 a = some (exo a C (some d))) (ed : H2 d = some (exd d fs)) (hd1 : H1 d = none) (q : Q (.ref C) (some d) (upd (del H2 a) d (.xd fs))) : L2N.MkP X pins σ Q (.ref a) ⟨h2, g2, d2, t2, os2⟩ := by
  obtain ⟨t0, G, J, kG, ge, hoe, na⟩ := mk_end0 (d2 := d2) (t2 := t2) I1 ha k un hok ho hb ea ed hd1
  exact ⟨a, _, _, ⟨G, g2, d2, t2, os2⟩, _, .ref C, some d, rfl, J, kG, ge, hoe, ⟨rfl, rfl, fun vs e => by cases e; rfl⟩, rfl, rfl, na, rfl, hb, T, q⟩
/-- C(e) in raise, C's __init__ laying its field -/
theorem pmk_errN {CX : CXT} {x : Str} {fI : Addr} {k : Nat} {fd : FuncData} {ps : List Str} (T : ErrC X.K C B mk ini up) (iC : PySem.W.findIn X.K (.ref C) "__init__" = some (some (.ref fI))) (tI : PySem.W.typeIn X.K (.ref fI) = some (.type "function"))
    (F : FnOk X.prog X.w X.K X.mg X.base CX k fI fd ps (spLay C f)) (hr : Room (k + 1) X.A) (hb : Binds X.K fd ps []) (hx : Passes CX X (fun _ _ _ => False)) (hg : Gl X x) (hm : X.mg x = some (.ref C)) (pa : PA X [e] (tCons te tNil)) (n2 : (x == ("__debug__" : Str)) = false := by decide)
    (he : starEach [e] X.env = (false, eval e X.env) :: starEach [] X.env := by rfl) (hpl : (backTo pos (starEach [] X.env)).any (·.1) = false := by rfl) : L2N.PMk X (.Call (.Name x p) [e] [] pos) (tErr C f te) := by
  intro pins s σ H Q I h
  obtain ⟨nm, q, N, bs, bm, sn, sub, ab, col, dd, k0, k1, k2, k3, k5, hC, hT, _⟩ := T.cls
  refine wpAny_Call_Name_kw (ld_glob I hg hm ?_ n2)
  refine PySem.W.callWith_K (h₀ := X.base) I.ok.mod.kin T.kC (thn (pa.run pos pins s σ H (fun vs H1 => ∃ y, vs = [y] ∧ ∀ d, H1 d = none → Q (.ref C) (some d) (upd H1 d (.xd [(f, y)]))) I (show te σ H _ from ?_)) fun us s1 ⟨vs, H1, I1, r1, y, ev, q1⟩ => ⟨I1.kIn, ?_⟩) he hpl
  · exact (show (fun y H1 => ∀ d, H1 d = none → Q (.ref C) (some d) (upd H1 d (.xd [(f, y)]))) = (fun y H1 => ∃ z, [y] = [z] ∧ ∀ d, H1 d = none → Q (.ref C) (some d) (upd H1 d (.xd [(f, z)]))) from by
      funext y H1
      exact propext ⟨fun h => ⟨y, rfl, h⟩, fun ⟨z, e, h⟩ => by cases e; exact h⟩) ▸ h
  subst ev
  show wpAny _ _ (call (.ref C) us) _ _ _
  obtain ⟨hp, g, dr, tk, os⟩ := s1
  let m := hp.objs.size + 1
  have free : H1 m = none := I1.hok.fresh (Nat.le_succ _)
  have kk : ∀ b o, hp.get? b = some o → ((hp.push (PySem.W.kdv_tup us)).push (PySem.HandSPX.excO C hp.objs.size)).get? b = some o := fun b o e => Heap.get?_push_of_some _ (Heap.get?_push_of_some _ e)
  have got : ((hp.push (PySem.W.kdv_tup us)).push (PySem.HandSPX.excO C hp.objs.size)).get? (hp.objs.size + 1) = some (PySem.HandSPX.excO C hp.objs.size) := by heap_get
  have I2 : Inv X pins σ (upd H1 m (exo m C none)) ⟨(hp.push (PySem.W.kdv_tup us)).push (PySem.HandSPX.excO C hp.objs.size), g, dr, tk, os⟩ := I1.laid (t' := tk) (a := m) (o := exo m C none) kk (Nat.le_succ _) (exo_ok got)
  have r2 : Vals [V.ref m, y] (Value.ref m :: us ++ []) := by rw [List.append_nil]; exact Paired.cons (show RelV (.ref m) (.ref m) from rfl) r1
  have few : us.length ≤ sizeLine := by
    rw [← Paired.length r1]
    show 1 ≤ sizeLine
    decide
  have sp0 : spLay C f [V.ref m, y] (upd H1 m (exo m C none)) (fun v H2 => v = .non ∧ ∃ d, H1 d = none ∧ d ≠ m ∧ H2 = upd (upd (upd H1 m (exo m C none)) d (exd d [(f, y)])) m (exo m C (some d))) (fun _ _ _ => False) :=
    ⟨m, y, rfl, upd_same, fun dx nd ne => ⟨rfl, dx, by rw [upd_ne ne] at nd; exact nd, ne, rfl⟩⟩
  have len : (Value.ref m :: us ++ []).length = ps.length := r2.length.symm.trans (F.len _ _ _ _ sp0)
  refine wpAny_call (over_call T.low hT (I1.kIn _ _ hC) (PySem.W.looks_findIn I1.kIn iC) (fun self => PySem.W.bind_fn I1.kIn self tI) few
    (codeAny_mono (F.run _ X.stack _ _ ⟨Value.ref m :: us, []⟩ (Value.ref m :: us ++ []) _ _ (fun _ _ _ => False) (hr.make C us []) (I2.env0.make C us []) (hb _ (Value.ref m :: us) I2.kIn len) r2 sp0) fun r s' hq => ?_))
  cases r with
  | error er => exact hx pins σ _ _ er s' I2 hq
  | ok fl =>
    cases fl with
    | ret u =>
      obtain ⟨v, H2, os2, bare2, un2, hok2, rv, ev, d, nd, ne, e2⟩ := hq
      subst ev e2
      obtain ⟨h2, g2, d2, t2, os'⟩ := s'
      refine ⟨rv, mk_endN (raises_own T.exC T.tyC) I1 (Nat.le_succ _) kk un2 hok2 os2 bare2 upd_same (by rw [upd_ne ne, upd_same]) nd ?_⟩
      rw [laid_eq free nd ne]
      exact q1 d nd
    | next => exact False.elim hq
    | brk => exact False.elim hq
    | cont => exact False.elim hq
end

section
variable {P : Program} {w : World} {K : PySem.W.Frag} {mg : Str → Option Value} {base : Heap}
/-- a def that may raise where nothing is handled -/
theorem okXN {x qual : Str} {st : Stmt} {f : Addr} {fd : FuncData} {N ps : List Str} {k : Nat} {sp : Sp} (F : Fun K x qual st f fd) (S : FnScope N ps (defScope st)) (len : ∀ vs H Q E, sp vs H Q E → vs.length = ps.length)
    (hbody : ∀ (cdv : Value) (A : Around) (outer : List PySem.Env) (s : Shared) (H : Hp) (vs : List V) (Q : VK) (E : XK), Room k (A.deeper (envOfC qual (defScope st) s.heap.objs.size f cdv)) → sp vs H Q E →
      ∃ t, PSs (cxOf (L2N.CX P w) P w K mg base N qual (defScope st) f cdv A outer s H E) (defBody st) t ∧ t ⟨fun _ H' => Q .non H', Q, fun _ _ => False, fun _ _ => False⟩ (L2.start N vs) H) : FnOk P w K mg base (L2N.CX P w) (k + 1) f fd ps sp := by
  obtain ⟨oc, od, kV, doc, pm, an, cdv, ct, osl, rfl, lk, hcd⟩ := F.ex
  exact fn_of lk hcd S len fun A outer s H vs Q E hr hsp => hbody cdv A outer s H vs Q E hr hsp
end
end V2
namespace V2
open PySem PySem.Spec PyProof.Rows L2
/-! ### facts of many classes of errors at once -/
/-- which is an instance of which: each of itself alone -/
def kitsIn (K : PySem.W.Frag) (cs : List Addr) : Bool := (List.range cs.length).all fun n => (List.range cs.length).all fun m => decide (PySem.W.kitOne K (.ref (cs.getD n 0)) (.ref (cs.getD m 0)) = some (decide (n = m)))
/-- .. and of classes above -/
def kitsUp (K : PySem.W.Frag) (cs : List Addr) (bs : List Value) (tab : List (List Bool)) : Bool := (List.range cs.length).all fun n => (List.range bs.length).all fun j => decide (PySem.W.kitOne K (.ref (cs.getD n 0)) (bs.getD j .none) = some ((tab.getD n []).getD j false))
def excOf (K : PySem.W.Frag) (D : Addr) : Bool :=
  decide (PySem.W.findIn K (.ref D) "__getattribute__" = some (some (.builtin "BaseException.__getattribute__"))) && decide (PySem.W.findIn K (.ref D) "__getattr__" = some none) && decide (PySem.W.subIn K (.ref D) (.type "BaseException") = some true) && PySem.W.hasDictIn K D
    && decide (PySem.W.findIn K (.ref D) "__class__" = some (some (.builtin "object.__class__"))) && decide (PySem.W.specialIn K (.builtin "object.__class__") "__get__" = some (some (.builtin "getset_descriptor.__get__"))) && decide (PySem.W.takesIn K (.builtin "object.__class__") = some true)
    && decide (PySem.W.mroIn K D (.type "object") = some true)
def excsOf (K : PySem.W.Frag) (cs : List Addr) : Bool := cs.all (excOf K)
theorem kitsIn_at {K : PySem.W.Frag} {cs : List Addr} (h : kitsIn K cs = true) {n m : Nat} (hn : n < cs.length) (hm : m < cs.length) : PySem.W.kitOne K (.ref (cs.getD n 0)) (.ref (cs.getD m 0)) = some (decide (n = m)) :=
  of_decide_eq_true (List.all_eq_true.mp (List.all_eq_true.mp h n (List.mem_range.mpr hn)) m (List.mem_range.mpr hm))
theorem kitsUp_at {K : PySem.W.Frag} {cs : List Addr} {bs : List Value} {tab : List (List Bool)} (h : kitsUp K cs bs tab = true) {n j : Nat} (hn : n < cs.length) (hj : j < bs.length) : PySem.W.kitOne K (.ref (cs.getD n 0)) (bs.getD j .none) = some ((tab.getD n []).getD j false) :=
  of_decide_eq_true (List.all_eq_true.mp (List.all_eq_true.mp h n (List.mem_range.mpr hn)) j (List.mem_range.mpr hj))
theorem excOf_C {K : PySem.W.Frag} {D : Addr} (h : excOf K D = true) : ExcC K D := by
  unfold excOf at h
  simp only [Bool.and_eq_true, decide_eq_true_eq] at h
  obtain ⟨⟨⟨⟨⟨⟨⟨h1, h2⟩, h3⟩, h4⟩, h5⟩, h6⟩, h7⟩, h8⟩ := h
  exact ⟨h1, h2, h3, h4, h5, h6, h7, h8⟩
theorem excsOf_at {K : PySem.W.Frag} {cs : List Addr} (h : excsOf K cs = true) {n : Nat} (hn : n < cs.length) : ExcC K (cs.getD n 0) := by
  refine excOf_C (List.all_eq_true.mp h _ ?_)
  rw [List.getD_eq_getElem?_getD, List.getElem?_eq_getElem hn]
  exact List.getElem_mem hn
end V2
namespace V2
open PySem PySem.Spec PyProof.Rows L2
/-! ### the handled error in a world -/
/-- the world knows that the fields at d, if there are any, stand -/
def Knows (W : Wd) (d : Option Addr) : Prop := ∀ dd, d = some dd → ∀ H, W.J H → ∃ fs, H dd = some (.xd fs)
theorem cx_isP {K : PySem.W.Frag} {W : Wd} {D q : Addr} {d : Option Addr} {c : V} {cv : Value} {b : Bool} (kn : Knows W d) (C : ExcC K D) (hc : ∀ u, RelV c u → u = cv) (hk : PySem.W.kitOne K (.ref D) cv = some b) : CX1 K W (rIsP K q (.ref D) d) [.v (.ref q), .v c] (· = .d (.bool b)) := fun us H j i Q k => by
  cases i with
  | cons i1 i2 =>
    cases i2 with
    | cons i2 i3 =>
      cases i3
      have e1 : _ = V.ref q := i1
      have e2 : _ = c := i2
      subst e1 e2
      exact ⟨D, _, cv, b, rfl, fun dd e => kn dd e H j, C, rfl, hc, hk, k _ H _ (.refl j) rfl (.bl b)⟩
end V2

set_option Elab.async false
set_option linter.all false
set_option maxRecDepth 100000
set_option maxHeartbeats 4000000
/-! VTryC (for k03): except (A, B, ..) as n where a comprehension of the suite reads n: n stands in a cell. -/
namespace V2
open PySem PySem.Spec PyProof.Rows L2
section
variable {X : Cx} {pins : List (Addr × Obj)} {σ : L2.St} {H : Hp} {s : Shared}
/-- the cell of a name is emptied -/
theorem emptied (hN : X.N.Nodup) {i : Nat} {n : Str} {c : Addr} {h' : Heap} (I : L2.Inv X pins σ H s) (hi : X.N[i]? = some n) (fnn : X.fn n = true) (hc : X.env.cells.lookup n = some c) (hc' : h'.IsCell c none) (hs : Heap.SameBut c s.heap h') (hk : X.env.kindOf n = some .cell) : L2.Inv X pins (σ.set i none) H { s with heap := h' } := by
  obtain ⟨m, hn, hl⟩ := id I.loc
  have cne := I.cne
  obtain ⟨w', z⟩ := I.cell n c hc
  obtain ⟨oc, hoc, hocd⟩ := id z
  refine ⟨I.ok, I.os, I.bare, ⟨fun b o e n' hb hx => ?_, fun b o e n' hb hx => ?_, I.base.free, fun b o e hx => ?_, I.base.tups, I.base.frzs, I.base.tbls⟩, ⟨m, hn.sameBut hs (Ne.symm (cne n c hc)), fun j y v' e1 e2 e3 => ?_⟩, fun y c' e => ?_, I.free, I.freeC, fun p hp => ?_, fun b ob e => ?_, by simpa using I.len⟩
  · exact (hs.2 b (Nat.ne_of_lt (Nat.lt_of_lt_of_le (Heap.lt_size e) (I.ok.cab n c fnn hc)))).trans (I.base.keep b o e n' hb hx)
  · obtain ⟨sl, e1⟩ := I.base.slot b o e n' hb hx
    exact ⟨sl, (hs.2 b (Nat.ne_of_lt (Nat.lt_of_lt_of_le (Heap.lt_size e) (I.ok.cab n c fnn hc)))).trans e1⟩
  · obtain ⟨o', e1⟩ := I.base.there b o e hx
    exact ⟨o', (hs.2 b (Nat.ne_of_lt (Nat.lt_of_lt_of_le (Heap.lt_size e) (I.ok.cab n c fnn hc)))).trans e1⟩
  · by_cases hj : j = i
    · subst hj
      by_cases hlt : j < σ.length
      · rw [List.getElem?_set_self hlt] at e2; cases e2
      · rw [List.getElem?_eq_none (by simpa using hlt)] at e2; cases e2
    · rw [List.getElem?_set_ne (Ne.symm hj)] at e2
      obtain ⟨u', r', q⟩ := hl j y v' e1 e2 e3
      refine ⟨u', r', ?_⟩
      rcases q with q | ⟨k, c', e, z'⟩
      · exact .inl q
      · by_cases hy : y = n
        · subst hy
          rw [hc] at e
          cases e
          exact absurd (nodup_ix hN e1 hi) hj
        · refine .inr ⟨k, c', e, z'.sameBut hs ?_⟩
          rintro rfl
          exact hy (I.ok.inj _ _ _ e hc)
  · by_cases hcc : c' = c
    · subst hcc; exact ⟨_, hc'⟩
    · obtain ⟨w2, z2⟩ := I.cell y c' e
      exact ⟨w2, z2.sameBut hs hcc⟩
  · obtain ⟨e, n', ne, nf, d⟩ := I.pin p hp
    refine ⟨(hs.2 p.1 ?_).trans e, n', ne, nf, d⟩
    intro q
    rw [q, hoc] at e
    have q' : oc = p.2 := Option.some.inj e
    exact d w' (by rw [← q']; exact hocd)
  · refine (I.hok b ob e).stay (fun c' w'' hc'' q => (hs.2 c' ?_).trans q) (fun _ q => q) fun _ _ q => q
    rintro rfl
    have fc := I.freeC n c' hc
    rcases hc'' with rfl | hc''
    · rw [fc] at e; cases e
    · rw [fc] at hc''; cases hc''
/-- the name of an except clause goes, where it stands in a cell -/
theorem gone_okC {M : Model} {A : Around} {E : Value → Shared → Prop} {i : Nat} {n : Str} {pos : Pos} {Q : Unit → Shared → Prop} (I : L2.Inv X pins σ H s) (hN : X.N.Nodup) (hi : X.N[i]? = some n) (hl : X.env.kindOf n = some .cell) (fnn : X.fn n = true)
    (h : ∀ s', L2.Inv X pins (σ.set i none) H s' → Q () s') : wpAny M A (do bindName X.env n .none; unbindBehindTheSuite X.env n pos) Q E s := by
  refine wpAny_bind (wpAny_bindName (store_ok2 (v := .non) I hN hi (.inr hl) rfl (fun s' I' _ => ?_) (.inl fnn)))
  unfold unbindBehindTheSuite
  refine wpAny_onRaise ?_
  obtain ⟨m, hn, hlk⟩ := id I'.loc
  have hiσ : i < σ.length := by rw [I.len]; exact (List.getElem?_eq_some_iff.mp hi).1
  obtain ⟨u, r, q⟩ := hlk i n .non hi (List.getElem?_set_self hiσ) (.inr (.inl hl))
  rcases q with ⟨k, _⟩ | ⟨k, c, hc, z⟩
  · have k' : X.env.kindOf n = some .local := k
    rw [hl] at k'; cases k'
  · refine PySem.W.ksm_unbind_cell (.inl hl) hc z fun h' hc' hs => ?_
    have e := emptied hN I' hi fnn hc hc' hs hl
    rw [List.set_set] at e
    exact h _ e
end
section
variable {X : Cx} {n : Str} {i : Nat} {body suite : List Stmt} {b0 : Stmt} {es : List Expr} {cs : List Value} {kk : Nat} {tpos at2 at0 : Pos} {tb : WX → TS} {ts : Addr → Value → Option Addr → TS} {Wo : WX}
/-- try: body, except (A, B, ..) as n: suite; the error's context is known to be None; a comprehension of the suite reads the name, so it stands in a cell -/
theorem ps_tryTC (st : X.stack = X.env :: X.outer) (fr : X.env.frame = some X.env.locals) (nd : X.N.Nodup) (ni : X.N[i]? = some n) (nl : X.env.kindOf n = some .cell) (fnn : X.fn n = true) (nms : NamesL X es cs) (small : cs.length ≤ 1000) (tk : L2N.Takes X Wo)
    (tbd : ∀ (W' : WX) (pn : List (Addr × Obj)) (xe : Value → Shared → Prop), L2N.Takes (X.tr pn xe) W' → PassesOwn (model X.prog X.w) X.A X.env xe → PSs (X.tr pn xe) body (tb W'))
    (su : ∀ (q : Addr) (o : Obj) (k : Value) (d : Option Addr) (pn : List (Addr × Obj)), L2N.Zn k d o → (∃ vs, o.data = .fields vs) → PSs (X.suite q ((q, o) :: pn)) (b0 :: suite) (ts q k d)) :
    PS X (.Try body [.ExceptHandler (some (.Tuple es kk tpos)) (some n) (b0 :: suite) at2] [] [] at0) (fun D σ H => tb (wAnyT X.K cs i ts Wo D) D σ H) := ⟨fun pins s σ H D inv want => by
  have good := inv.ok
  have frs1 : X.A.frames = some (X.env :: X.outer) := by rw [good.frames, st]
  refine wpAny_Try_except (wpAny_mono ((tbd (wAnyT X.K cs i ts Wo D) (X.pn ++ pins) (fun e s₁ => wpAny (model X.prog X.w) X.A (noteFrame e X.env) (fun _ s₂ => wpAny (model X.prog X.w) X.A (setFlight e none) (fun _ s₃ => wpAny (model X.prog X.w) X.A (handleBy e X.env [.ExceptHandler (some (.Tuple es kk tpos)) (some n) (b0 :: suite) at2]) (SP X pins D) X.xe s₃) X.xe s₂) X.xe s₁) (fun u t thrown => ?_) PassesOwn.looking).run [] s σ H D (inv.toTry _) want) (fun g s1 ended => ?_) fun _ _ z => z)
  · obtain ⟨q, base, s0, pins0, σ1, H1, k, d, rfl, inv0, nb, up, sky, nq, os, ag, b, eb, yes, no⟩ := thrown
    have invT : L2.Inv X pins σ1 H1 s0 := inv0.ofTry good
    have skyT : Sky base (X.env :: X.outer) q (L2N.Zn k d) X.env.locals t.heap := by rw [← st]; exact sky
    show wpAny (model X.prog X.w) X.A (noteFrame (.ref q) X.env) _ _ _
    refine L2N.Sky.land L2N.Zn.steady frs1 fr skyT fun g1 fl1 up1 => ?_
    have inv1 : L2.Inv X pins σ1 H1 { t with heap := g1 } := invT.landed nb fl1.1 (up.trans up1) os ag
    obtain ⟨oq, fq, hq, zq, dq⟩ := fl1.there
    have notMem : q ∉ frs (X.env :: X.outer) := fun m => by
      obtain ⟨_, o2, e2, nf⟩ := fl1.2.2.1.mem m
      rw [hq] at e2
      cases e2
      exact nf _ dq
    have neL : q ≠ X.env.locals := fun z => notMem (List.mem_filterMap.mpr ⟨X.env, .head _, by rw [fr, z]⟩)
    have neF : q ∉ X.fs := fun m => by
      obtain ⟨e, me, z⟩ := List.mem_filterMap.mp m
      exact notMem (List.mem_filterMap.mpr ⟨e, .tail _ me, z⟩)
    have sui := inv1.suite hq dq nq neL neF
    refine wpAny_handleBy_cons (codeAny_handlers_test ?_) (fun z => by cases z)
    have small' : cs.length ≤ sizeLine := Nat.le_trans small (by decide)
    refine wpAny_Tuple (eval_namesL (X := X.suite q ((q, oq) :: (X.pn ++ pins))) nms.suite sui ⟨small', ?_⟩)
    let g2 : Heap := g1.push { cls := .type "tuple", data := .seq cs.toArray }
    have kp : ∀ b o, g1.get? b = some o → g2.get? b = some o := fun b o e => Heap.get?_push_of_some _ e
    have fl2 := flying_keeps fl1 kp
    have up2 : t.heap.UpToSlots g2 := up1.trans (Heap.UpToSlots.of_keeps kp)
    have inv2 : L2.Inv X pins σ1 H1 { t with heap := g2 } := invT.landed nb fl2.1 (up.trans up2) os ag
    have lk : PySem.W.Looks (model X.prog X.w) g2 (typeOf (.ref q)) k := fun A Q E s kq z => wpAny_typeOf_ref (kq _ _ (kp _ _ hq)) (by rw [zq.1]; exact z)
    have one := exm_tupL (M := model X.prog X.w) inv2.kIn lk (Heap.get?_push_size g1 rfl) eb
    refine one.here ?_
    cases b with
    | false =>
      show wpAny _ X.A (handleBy (.ref q) X.env []) _ _ _
      refine wpAny_handleBy_nil ?_
      obtain ⟨_, _, _, o3, f3, T, oT, t3, e3, _, d3, r3, _⟩ := id fl2
      unfold PySem.passOn
      refine wpAny_bind (wpAny_field e3 d3 r3 ?_)
      rw [if_neg (by simp : ¬ ((Value.ref T == Value.none) = true))]
      have out : wpAny (model X.prog X.w) X.A (setFlight (.ref q) X.env.frame) (fun _ s4 => wpAny (model X.prog X.w) X.A (throw (.ref q) : Sem Flow) (SP X pins D) X.xe s4) X.xe { t with heap := g2 } := by
        rw [fr]
        exact HandSPX.setFlight_upZ fl2 fun g3 fl3 up3 => wpAny_throw (tk _ _ ⟨q, base, s0, pins, σ1, H1, k, d, rfl, invT, nb, (up.trans up2).trans up3, .inr (.inr (by rw [st]; exact fl3)), nq, os, ag, no rfl⟩)
      first | exact wpAny_bind (wpAny_pure (wpAny_bind out)) | exact wpAny_bind out
    | true =>
      refine codeAny_handlers_suite_as (HandSPX.lands_againZ fl2 fun g3 fl3 up3 => ?_)
      obtain ⟨o2, f2, e2, z2, d2⟩ := fl3.there
      have sui2 := (invT.landed nb fl3.1 ((up.trans up2).trans up3) os ag : L2.Inv X pins σ1 H1 { t with heap := g3 }).suite e2 d2 nq neL neF
      refine store_ok (X := X.suite q ((q, o2) :: (X.pn ++ pins))) (v := .ref q) sui2 nd ni (.inr nl) rfl (fun s5 sui5 => wpAny_mono ((su q o2 k d (X.pn ++ pins) z2 ⟨_, d2⟩).run [] s5 _ H1 _ sui5 (yes rfl q nq)) (fun g s6 e6 => ?_) fun _ _ z => z.elim) (.inl fnn)
      cases g with
      | next => obtain ⟨σ6, H6, i6, q6⟩ := e6; exact gone_okC (i6.unsuite good) nd ni nl fnn fun s7 i7 => ⟨_, _, i7, q6⟩
      | brk => obtain ⟨σ6, H6, i6, q6⟩ := e6; exact gone_okC (i6.unsuite good) nd ni nl fnn fun s7 i7 => ⟨_, _, i7, q6⟩
      | cont => obtain ⟨σ6, H6, i6, q6⟩ := e6; exact gone_okC (i6.unsuite good) nd ni nl fnn fun s7 i7 => ⟨_, _, i7, q6⟩
      | ret u => obtain ⟨v6, σ6, H6, i6, r6, q6⟩ := e6; exact gone_okC (i6.unsuite good) nd ni nl fnn fun s7 i7 => ⟨_, _, _, i7, r6, q6⟩
  · cases g with
    | next => obtain ⟨σ2, H2, i2, z⟩ := ended; exact wpAny_execs_nil ⟨σ2, H2, i2.ofTry good, z⟩
    | brk => obtain ⟨σ2, H2, i2, z⟩ := ended; exact ⟨σ2, H2, i2.ofTry good, z⟩
    | cont => obtain ⟨σ2, H2, i2, z⟩ := ended; exact ⟨σ2, H2, i2.ofTry good, z⟩
    | ret u => obtain ⟨v, σ2, H2, i2, r, z⟩ := ended; exact ⟨v, σ2, H2, i2.ofTry good, r, z⟩⟩
end
/-- every class of cs is caught by one of ks -/
def exmsIn (K : PySem.W.Frag) (cs : List Addr) (ks : List Value) : Bool := (List.range cs.length).all fun n => decide (PySem.W.exmAny K (.ref (cs.getD n 0)) ks = some true)
theorem exmsIn_at {K : PySem.W.Frag} {cs : List Addr} {ks : List Value} (h : exmsIn K cs ks = true) {n : Nat} (hn : n < cs.length) : PySem.W.exmAny K (.ref (cs.getD n 0)) ks = some true :=
  of_decide_eq_true (List.all_eq_true.mp h n (List.mem_range.mpr hn))
theorem roomH_mark {k : Nat} {A : Around} (r : Room k A) (h : Option Value) : L2H.RoomH k (A.mark h) := ⟨r.dp, r.un⟩
end V2

set_option Elab.async false
set_option linter.all false
set_option maxRecDepth 100000
set_option maxHeartbeats 4000000
namespace V2
open PySem PySem.Spec PyProof.Rows L2

/-! ### the text -/
def topS (i : Nat) : Stmt := PySem.Challenge.pw_mouthrules_k03_refusals_apart.main.body.getD i (.Pass ⟨0, 0, 0, 0⟩)
abbrev s_NoKinds_init : Stmt := inClass (topS 2) 0
theorem sc_NoKinds_init : FnScope ["self", "thing"] ["self", "thing"] (defScope s_NoKinds_init) := ⟨rfl, rfl, rfl, by decide +kernel, rfl, by decide +kernel, by decide +kernel⟩
abbrev s_NoSign_init : Stmt := inClass (topS 3) 0
theorem sc_NoSign_init : FnScope ["self", "sign"] ["self", "sign"] (defScope s_NoSign_init) := ⟨rfl, rfl, rfl, by decide +kernel, rfl, by decide +kernel, by decide +kernel⟩
abbrev s_NoKey_init : Stmt := inClass (topS 4) 0
theorem sc_NoKey_init : FnScope ["self", "key"] ["self", "key"] (defScope s_NoKey_init) := ⟨rfl, rfl, rfl, by decide +kernel, rfl, by decide +kernel, by decide +kernel⟩
abbrev s_NoWorth_init : Stmt := inClass (topS 5) 0
theorem sc_NoWorth_init : FnScope ["self", "thing"] ["self", "thing"] (defScope s_NoWorth_init) := ⟨rfl, rfl, rfl, by decide +kernel, rfl, by decide +kernel, by decide +kernel⟩
abbrev s_NoText_init : Stmt := inClass (topS 6) 0
theorem sc_NoText_init : FnScope ["self", "thing"] ["self", "thing"] (defScope s_NoText_init) := ⟨rfl, rfl, rfl, by decide +kernel, rfl, by decide +kernel, by decide +kernel⟩
abbrev s_NoTexts_init : Stmt := inClass (topS 7) 0
theorem sc_NoTexts_init : FnScope ["self", "thing"] ["self", "thing"] (defScope s_NoTexts_init) := ⟨rfl, rfl, rfl, by decide +kernel, rfl, by decide +kernel, by decide +kernel⟩
abbrev s_NoMost_init : Stmt := inClass (topS 8) 0
theorem sc_NoMost_init : FnScope ["self", "most"] ["self", "most"] (defScope s_NoMost_init) := ⟨rfl, rfl, rfl, by decide +kernel, rfl, by decide +kernel, by decide +kernel⟩
abbrev s_NoWriting_init : Stmt := inClass (topS 9) 0
theorem sc_NoWriting_init : FnScope ["self", "number"] ["self", "number"] (defScope s_NoWriting_init) := ⟨rfl, rfl, rfl, by decide +kernel, rfl, by decide +kernel, by decide +kernel⟩
abbrev s_Fault_init : Stmt := inClass (topS 11) 0
theorem sc_Fault_init : FnScope ["self", "word"] ["self", "word"] (defScope s_Fault_init) := ⟨rfl, rfl, rfl, by decide +kernel, rfl, by decide +kernel, by decide +kernel⟩
abbrev s_NoName_init : Stmt := inClass (topS 15) 0
theorem sc_NoName_init : FnScope ["self", "name"] ["self", "name"] (defScope s_NoName_init) := ⟨rfl, rfl, rfl, by decide +kernel, rfl, by decide +kernel, by decide +kernel⟩
abbrev s_TooMany_init : Stmt := inClass (topS 17) 0
theorem sc_TooMany_init : FnScope ["self", "many"] ["self", "many"] (defScope s_TooMany_init) := ⟨rfl, rfl, rfl, by decide +kernel, rfl, by decide +kernel, by decide +kernel⟩
abbrev s_l_pool : Stmt := topS 19
theorem sc_l_pool : FnScope ["_law_script", "_law_k", "_law_cell", "_law_number", "_law_seed"] ["_law_script", "_law_k"] (defScope s_l_pool) := ⟨rfl, rfl, rfl, by decide +kernel, rfl, by decide +kernel, by decide +kernel⟩
abbrev s_l_take : Stmt := topS 20
theorem sc_l_take : FnScope ["_law_pool_here", "_law_many", "_law_digit"] ["_law_pool_here", "_law_many"] (defScope s_l_take) := ⟨rfl, rfl, rfl, by decide +kernel, rfl, by decide +kernel, by decide +kernel⟩
abbrev s_l_raised : Stmt := topS 21
theorem sc_l_raised : FnScope ["_law_number", "_law_thing"] ["_law_number", "_law_thing"] (defScope s_l_raised) := ⟨rfl, rfl, rfl, by decide +kernel, rfl, by decide +kernel, by decide +kernel⟩
abbrev s_l_raised_beside : Stmt := topS 22
theorem sc_l_raised_beside : FnScope ["_law_number", "_law_thing"] ["_law_number", "_law_thing"] (defScope s_l_raised_beside) := ⟨rfl, rfl, rfl, by decide +kernel, rfl, by decide +kernel, by decide +kernel⟩
abbrev s_l_is : Stmt := topS 23
theorem sc_l_is : FnScope ["_law_e", "_law_number", "_law_of_it"] ["_law_e", "_law_number"] (defScope s_l_is) := ⟨rfl, rfl, rfl, by decide +kernel, rfl, by decide +kernel, by decide +kernel⟩
abbrev s_l_above : Stmt := topS 24
theorem sc_l_above : FnScope ["_law_e", "_law_found"] ["_law_e"] (defScope s_l_above) := ⟨rfl, rfl, rfl, by decide +kernel, rfl, by decide +kernel, by decide +kernel⟩
abbrev s_l_due : Stmt := topS 25
theorem sc_l_due : FnScope ["_law_number"] ["_law_number"] (defScope s_l_due) := ⟨rfl, rfl, rfl, by decide +kernel, rfl, by decide +kernel, by decide +kernel⟩
abbrev s_l_field : Stmt := topS 26
theorem sc_l_field : FnScope ["_law_e", "_law_number"] ["_law_e", "_law_number"] (defScope s_l_field) := ⟨rfl, rfl, rfl, by decide +kernel, rfl, by decide +kernel, by decide +kernel⟩
abbrev s_l_taken : Stmt := topS 27
theorem sc_l_taken : FnScope ["_law_number", "_law_thing", "_law_e", "_law_other"] ["_law_number", "_law_thing"] (defScope s_l_taken) := ⟨rfl, rfl, rfl, by decide +kernel, rfl, by decide +kernel, by decide +kernel⟩
abbrev s_law : Stmt := topS 28
theorem sc_law : FnScope ["_law_script", "_law_pool_here", "_law_some", "_law_begin", "_law_thing", "_law_number"] ["_law_script"] (defScope s_law) := ⟨rfl, rfl, rfl, by decide +kernel, rfl, by decide +kernel, by decide +kernel⟩
structure Top (K : PySem.W.Frag) (mg : Str → Option Value) (f : Nat → Addr) (fd : Nat → FuncData) : Prop where
  F_NoKinds_init : Fun K "__init__" "NoKinds.__init__" s_NoKinds_init (f 0) (fd 0)
  F_NoSign_init : Fun K "__init__" "NoSign.__init__" s_NoSign_init (f 1) (fd 1)
  F_NoKey_init : Fun K "__init__" "NoKey.__init__" s_NoKey_init (f 2) (fd 2)
  F_NoWorth_init : Fun K "__init__" "NoWorth.__init__" s_NoWorth_init (f 3) (fd 3)
  F_NoText_init : Fun K "__init__" "NoText.__init__" s_NoText_init (f 4) (fd 4)
  F_NoTexts_init : Fun K "__init__" "NoTexts.__init__" s_NoTexts_init (f 5) (fd 5)
  F_NoMost_init : Fun K "__init__" "NoMost.__init__" s_NoMost_init (f 6) (fd 6)
  F_NoWriting_init : Fun K "__init__" "NoWriting.__init__" s_NoWriting_init (f 7) (fd 7)
  F_Fault_init : Fun K "__init__" "Fault.__init__" s_Fault_init (f 8) (fd 8)
  F_NoName_init : Fun K "__init__" "NoName.__init__" s_NoName_init (f 9) (fd 9)
  F_TooMany_init : Fun K "__init__" "TooMany.__init__" s_TooMany_init (f 10) (fd 10)
  F_l_pool : Fun K "_law_pool" "_law_pool" s_l_pool (f 11) (fd 11)
  g_l_pool : mg "_law_pool" = some (.ref (f 11))
  F_l_take : Fun K "_law_take" "_law_take" s_l_take (f 12) (fd 12)
  g_l_take : mg "_law_take" = some (.ref (f 12))
  F_l_raised : Fun K "_law_raised" "_law_raised" s_l_raised (f 13) (fd 13)
  g_l_raised : mg "_law_raised" = some (.ref (f 13))
  F_l_raised_beside : Fun K "_law_raised_beside" "_law_raised_beside" s_l_raised_beside (f 14) (fd 14)
  g_l_raised_beside : mg "_law_raised_beside" = some (.ref (f 14))
  F_l_is : Fun K "_law_is" "_law_is" s_l_is (f 15) (fd 15)
  g_l_is : mg "_law_is" = some (.ref (f 15))
  F_l_above : Fun K "_law_above" "_law_above" s_l_above (f 16) (fd 16)
  g_l_above : mg "_law_above" = some (.ref (f 16))
  F_l_due : Fun K "_law_due" "_law_due" s_l_due (f 17) (fd 17)
  g_l_due : mg "_law_due" = some (.ref (f 17))
  F_l_field : Fun K "_law_field" "_law_field" s_l_field (f 18) (fd 18)
  g_l_field : mg "_law_field" = some (.ref (f 18))
  F_l_taken : Fun K "_law_taken" "_law_taken" s_l_taken (f 19) (fd 19)
  g_l_taken : mg "_law_taken" = some (.ref (f 19))
  F_law : Fun K "law" "law" s_law (f 20) (fd 20)
  g_law : mg "law" = some (.ref (f 20))
  z_RuntimeError : mg "RuntimeError" = none
  z_KeyError : mg "KeyError" = none
  z_OverflowError : mg "OverflowError" = none
  z_max : mg "max" = none
  z_len : mg "len" = none
  z_isinstance : mg "isinstance" = none
  z_ValueError : mg "ValueError" = none
  z_LookupError : mg "LookupError" = none
  z_repr : mg "repr" = none
  z_range : mg "range" = none
  g_MouthError : mg "MouthError" = some (.ref (f 37))
  g_NoRow : mg "NoRow" = some (.ref (f 21))
  x_NoRow : PySem.W.excIn K (f 21) [.type "ValueError", .type "Exception", .type "BaseException", .type "object"] "ValueError.__new__" = true
  k_NoRow : PySem.W.keepIn K (.ref (f 21)) = true
  b_NoRow : PySem.W.subIn K (.ref (f 21)) (.type "BaseException") = some true
  t_NoRow : PySem.W.typeIn K (.ref (f 21)) = some (.type "type")
  c_NoRow : ExcC K (f 21)
  i_NoRow : PySem.W.kitOne K (.ref (f 21)) (.type "ValueError") = some true
  e_NoRow : PySem.W.exmOne K (.ref (f 21)) (.ref (f 21)) = some true
  g_Ends : mg "Ends" = some (.ref (f 22))
  x_Ends : PySem.W.excIn K (f 22) [.type "RuntimeError", .type "Exception", .type "BaseException", .type "object"] "RuntimeError.__new__" = true
  k_Ends : PySem.W.keepIn K (.ref (f 22)) = true
  b_Ends : PySem.W.subIn K (.ref (f 22)) (.type "BaseException") = some true
  t_Ends : PySem.W.typeIn K (.ref (f 22)) = some (.type "type")
  c_Ends : ExcC K (f 22)
  i_Ends : PySem.W.kitOne K (.ref (f 22)) (.type "RuntimeError") = some true
  e_Ends : PySem.W.exmOne K (.ref (f 22)) (.ref (f 22)) = some true
  g_Shut : mg "Shut" = some (.ref (f 23))
  x_Shut : PySem.W.excIn K (f 23) [.type "RuntimeError", .type "Exception", .type "BaseException", .type "object"] "RuntimeError.__new__" = true
  k_Shut : PySem.W.keepIn K (.ref (f 23)) = true
  b_Shut : PySem.W.subIn K (.ref (f 23)) (.type "BaseException") = some true
  t_Shut : PySem.W.typeIn K (.ref (f 23)) = some (.type "type")
  c_Shut : ExcC K (f 23)
  i_Shut : PySem.W.kitOne K (.ref (f 23)) (.type "RuntimeError") = some true
  e_Shut : PySem.W.exmOne K (.ref (f 23)) (.ref (f 23)) = some true
  g_Busy : mg "Busy" = some (.ref (f 24))
  x_Busy : PySem.W.excIn K (f 24) [.type "RuntimeError", .type "Exception", .type "BaseException", .type "object"] "RuntimeError.__new__" = true
  k_Busy : PySem.W.keepIn K (.ref (f 24)) = true
  b_Busy : PySem.W.subIn K (.ref (f 24)) (.type "BaseException") = some true
  t_Busy : PySem.W.typeIn K (.ref (f 24)) = some (.type "type")
  c_Busy : ExcC K (f 24)
  i_Busy : PySem.W.kitOne K (.ref (f 24)) (.type "RuntimeError") = some true
  e_Busy : PySem.W.exmOne K (.ref (f 24)) (.ref (f 24)) = some true
  g_Bare : mg "Bare" = some (.ref (f 25))
  x_Bare : PySem.W.excIn K (f 25) [.type "LookupError", .type "Exception", .type "BaseException", .type "object"] "LookupError.__new__" = true
  k_Bare : PySem.W.keepIn K (.ref (f 25)) = true
  b_Bare : PySem.W.subIn K (.ref (f 25)) (.type "BaseException") = some true
  t_Bare : PySem.W.typeIn K (.ref (f 25)) = some (.type "type")
  c_Bare : ExcC K (f 25)
  i_Bare : PySem.W.kitOne K (.ref (f 25)) (.type "LookupError") = some true
  e_Bare : PySem.W.exmOne K (.ref (f 25)) (.ref (f 25)) = some true
  g_NoKinds : mg "NoKinds" = some (.ref (f 26))
  w_NoKinds : ErrC K (f 26) "ValueError" "ValueError.__new__" "ValueError.__init__" [.type "ValueError", .type "Exception", .type "BaseException", .type "object"]
  iC_NoKinds : PySem.W.findIn K (.ref (f 26)) "__init__" = some (some (.ref (f 0)))
  tI_NoKinds : PySem.W.typeIn K (.ref (f 0)) = some (.type "function")
  no_NoKinds : PySem.W.findIn K (.ref (f 26)) "thing" = some none
  e_NoKinds : PySem.W.exmOne K (.ref (f 26)) (.ref (f 26)) = some true
  xf_NoKinds : XfC K (f 26)
  i_NoKinds : PySem.W.kitOne K (.ref (f 26)) (.type "ValueError") = some true
  g_NoSign : mg "NoSign" = some (.ref (f 27))
  w_NoSign : ErrC K (f 27) "ValueError" "ValueError.__new__" "ValueError.__init__" [.type "ValueError", .type "Exception", .type "BaseException", .type "object"]
  iC_NoSign : PySem.W.findIn K (.ref (f 27)) "__init__" = some (some (.ref (f 1)))
  tI_NoSign : PySem.W.typeIn K (.ref (f 1)) = some (.type "function")
  no_NoSign : PySem.W.findIn K (.ref (f 27)) "sign" = some none
  e_NoSign : PySem.W.exmOne K (.ref (f 27)) (.ref (f 27)) = some true
  xf_NoSign : XfC K (f 27)
  i_NoSign : PySem.W.kitOne K (.ref (f 27)) (.type "ValueError") = some true
  g_NoKey : mg "NoKey" = some (.ref (f 28))
  w_NoKey : ErrC K (f 28) "ValueError" "ValueError.__new__" "ValueError.__init__" [.type "ValueError", .type "Exception", .type "BaseException", .type "object"]
  iC_NoKey : PySem.W.findIn K (.ref (f 28)) "__init__" = some (some (.ref (f 2)))
  tI_NoKey : PySem.W.typeIn K (.ref (f 2)) = some (.type "function")
  no_NoKey : PySem.W.findIn K (.ref (f 28)) "key" = some none
  e_NoKey : PySem.W.exmOne K (.ref (f 28)) (.ref (f 28)) = some true
  xf_NoKey : XfC K (f 28)
  i_NoKey : PySem.W.kitOne K (.ref (f 28)) (.type "ValueError") = some true
  g_NoWorth : mg "NoWorth" = some (.ref (f 29))
  w_NoWorth : ErrC K (f 29) "ValueError" "ValueError.__new__" "ValueError.__init__" [.type "ValueError", .type "Exception", .type "BaseException", .type "object"]
  iC_NoWorth : PySem.W.findIn K (.ref (f 29)) "__init__" = some (some (.ref (f 3)))
  tI_NoWorth : PySem.W.typeIn K (.ref (f 3)) = some (.type "function")
  no_NoWorth : PySem.W.findIn K (.ref (f 29)) "thing" = some none
  e_NoWorth : PySem.W.exmOne K (.ref (f 29)) (.ref (f 29)) = some true
  xf_NoWorth : XfC K (f 29)
  i_NoWorth : PySem.W.kitOne K (.ref (f 29)) (.type "ValueError") = some true
  g_NoText : mg "NoText" = some (.ref (f 30))
  w_NoText : ErrC K (f 30) "ValueError" "ValueError.__new__" "ValueError.__init__" [.type "ValueError", .type "Exception", .type "BaseException", .type "object"]
  iC_NoText : PySem.W.findIn K (.ref (f 30)) "__init__" = some (some (.ref (f 4)))
  tI_NoText : PySem.W.typeIn K (.ref (f 4)) = some (.type "function")
  no_NoText : PySem.W.findIn K (.ref (f 30)) "thing" = some none
  e_NoText : PySem.W.exmOne K (.ref (f 30)) (.ref (f 30)) = some true
  xf_NoText : XfC K (f 30)
  i_NoText : PySem.W.kitOne K (.ref (f 30)) (.type "ValueError") = some true
  g_NoTexts : mg "NoTexts" = some (.ref (f 31))
  w_NoTexts : ErrC K (f 31) "ValueError" "ValueError.__new__" "ValueError.__init__" [.type "ValueError", .type "Exception", .type "BaseException", .type "object"]
  iC_NoTexts : PySem.W.findIn K (.ref (f 31)) "__init__" = some (some (.ref (f 5)))
  tI_NoTexts : PySem.W.typeIn K (.ref (f 5)) = some (.type "function")
  no_NoTexts : PySem.W.findIn K (.ref (f 31)) "thing" = some none
  e_NoTexts : PySem.W.exmOne K (.ref (f 31)) (.ref (f 31)) = some true
  xf_NoTexts : XfC K (f 31)
  i_NoTexts : PySem.W.kitOne K (.ref (f 31)) (.type "ValueError") = some true
  g_NoMost : mg "NoMost" = some (.ref (f 32))
  w_NoMost : ErrC K (f 32) "ValueError" "ValueError.__new__" "ValueError.__init__" [.type "ValueError", .type "Exception", .type "BaseException", .type "object"]
  iC_NoMost : PySem.W.findIn K (.ref (f 32)) "__init__" = some (some (.ref (f 6)))
  tI_NoMost : PySem.W.typeIn K (.ref (f 6)) = some (.type "function")
  no_NoMost : PySem.W.findIn K (.ref (f 32)) "most" = some none
  e_NoMost : PySem.W.exmOne K (.ref (f 32)) (.ref (f 32)) = some true
  xf_NoMost : XfC K (f 32)
  i_NoMost : PySem.W.kitOne K (.ref (f 32)) (.type "ValueError") = some true
  g_NoWriting : mg "NoWriting" = some (.ref (f 33))
  w_NoWriting : ErrC K (f 33) "ValueError" "ValueError.__new__" "ValueError.__init__" [.type "ValueError", .type "Exception", .type "BaseException", .type "object"]
  iC_NoWriting : PySem.W.findIn K (.ref (f 33)) "__init__" = some (some (.ref (f 7)))
  tI_NoWriting : PySem.W.typeIn K (.ref (f 7)) = some (.type "function")
  no_NoWriting : PySem.W.findIn K (.ref (f 33)) "number" = some none
  e_NoWriting : PySem.W.exmOne K (.ref (f 33)) (.ref (f 33)) = some true
  xf_NoWriting : XfC K (f 33)
  i_NoWriting : PySem.W.kitOne K (.ref (f 33)) (.type "ValueError") = some true
  g_Fault : mg "Fault" = some (.ref (f 34))
  w_Fault : ErrC K (f 34) "RuntimeError" "RuntimeError.__new__" "RuntimeError.__init__" [.type "RuntimeError", .type "Exception", .type "BaseException", .type "object"]
  iC_Fault : PySem.W.findIn K (.ref (f 34)) "__init__" = some (some (.ref (f 8)))
  tI_Fault : PySem.W.typeIn K (.ref (f 8)) = some (.type "function")
  no_Fault : PySem.W.findIn K (.ref (f 34)) "word" = some none
  e_Fault : PySem.W.exmOne K (.ref (f 34)) (.ref (f 34)) = some true
  xf_Fault : XfC K (f 34)
  i_Fault : PySem.W.kitOne K (.ref (f 34)) (.type "RuntimeError") = some true
  g_NoName : mg "NoName" = some (.ref (f 35))
  w_NoName : ErrC K (f 35) "KeyError" "LookupError.__new__" "KeyError.__init__" [.type "KeyError", .type "LookupError", .type "Exception", .type "BaseException", .type "object"]
  iC_NoName : PySem.W.findIn K (.ref (f 35)) "__init__" = some (some (.ref (f 9)))
  tI_NoName : PySem.W.typeIn K (.ref (f 9)) = some (.type "function")
  no_NoName : PySem.W.findIn K (.ref (f 35)) "name" = some none
  e_NoName : PySem.W.exmOne K (.ref (f 35)) (.ref (f 35)) = some true
  xf_NoName : XfC K (f 35)
  i_NoName : PySem.W.kitOne K (.ref (f 35)) (.type "KeyError") = some true
  g_TooMany : mg "TooMany" = some (.ref (f 36))
  w_TooMany : ErrC K (f 36) "OverflowError" "OverflowError.__new__" "OverflowError.__init__" [.type "OverflowError", .type "ArithmeticError", .type "Exception", .type "BaseException", .type "object"]
  iC_TooMany : PySem.W.findIn K (.ref (f 36)) "__init__" = some (some (.ref (f 10)))
  tI_TooMany : PySem.W.typeIn K (.ref (f 10)) = some (.type "function")
  no_TooMany : PySem.W.findIn K (.ref (f 36)) "many" = some none
  e_TooMany : PySem.W.exmOne K (.ref (f 36)) (.ref (f 36)) = some true
  xf_TooMany : XfC K (f 36)
  i_TooMany : PySem.W.kitOne K (.ref (f 36)) (.type "OverflowError") = some true
  me_ga : PySem.W.specialIn K (.ref (f 37)) "__getattribute__" = some (some (.builtin "type.__getattribute__"))
  me_rd : PySem.W.readsIn K (f 37) (.type "type") = true
  me_in : PySem.W.findCls K (.ref (f 37)) (.type "type") "__init__" = some (.val (.builtin "ValueError.__init__"))
  k16 : kitsIn K [(f 26), (f 27), (f 28), (f 29), (f 30), (f 31), (f 32), (f 33), (f 21), (f 34), (f 22), (f 23), (f 24), (f 35), (f 25), (f 36)] = true
  u16 : kitsUp K [(f 26), (f 27), (f 28), (f 29), (f 30), (f 31), (f 32), (f 33), (f 21), (f 34), (f 22), (f 23), (f 24), (f 35), (f 25), (f 36)] [.ref (f 37), .type "ValueError", .type "RuntimeError", .type "KeyError", .type "LookupError", .type "OverflowError"] [[true, true, false, false, false, false], [true, true, false, false, false, false], [true, true, false, false, false, false], [true, true, false, false, false, false], [true, true, false, false, false, false], [true, true, false, false, false, false], [true, true, false, false, false, false], [true, true, false, false, false, false], [true, true, false, false, false, false], [false, false, true, false, false, false], [false, false, true, false, false, false], [false, false, true, false, false, false], [false, false, true, false, false, false], [false, false, false, true, true, false], [false, false, false, false, true, false], [false, false, false, false, false, true]] = true
  c16 : excsOf K [(f 26), (f 27), (f 28), (f 29), (f 30), (f 31), (f 32), (f 33), (f 21), (f 34), (f 22), (f 23), (f 24), (f 35), (f 25), (f 36)] = true
  x16 : exmsIn K [(f 26), (f 27), (f 28), (f 29), (f 30), (f 31), (f 32), (f 33), (f 21), (f 34), (f 22), (f 23), (f 24), (f 35), (f 25), (f 36)] [.ref (f 37), .ref (f 34), .ref (f 22), .ref (f 23), .ref (f 24), .ref (f 35), .ref (f 25), .ref (f 36)] = true
section
variable {P : Program} {w : World} {K : PySem.W.Frag} {mg : Str → Option Value} {base : Heap} {f : Nat → Addr} {fd : Nat → FuncData}
theorem b_NoKinds_init (T : Top K mg f fd) : Binds K (fd 0) ["self", "thing"] [] := T.F_NoKinds_init.binds (ps := ["self", "thing"]) fun _ _ _ _ _ _ us hl => match us, hl with | [_, _], _ => rfl
theorem b_NoSign_init (T : Top K mg f fd) : Binds K (fd 1) ["self", "sign"] [] := T.F_NoSign_init.binds (ps := ["self", "sign"]) fun _ _ _ _ _ _ us hl => match us, hl with | [_, _], _ => rfl
theorem b_NoKey_init (T : Top K mg f fd) : Binds K (fd 2) ["self", "key"] [] := T.F_NoKey_init.binds (ps := ["self", "key"]) fun _ _ _ _ _ _ us hl => match us, hl with | [_, _], _ => rfl
theorem b_NoWorth_init (T : Top K mg f fd) : Binds K (fd 3) ["self", "thing"] [] := T.F_NoWorth_init.binds (ps := ["self", "thing"]) fun _ _ _ _ _ _ us hl => match us, hl with | [_, _], _ => rfl
theorem b_NoText_init (T : Top K mg f fd) : Binds K (fd 4) ["self", "thing"] [] := T.F_NoText_init.binds (ps := ["self", "thing"]) fun _ _ _ _ _ _ us hl => match us, hl with | [_, _], _ => rfl
theorem b_NoTexts_init (T : Top K mg f fd) : Binds K (fd 5) ["self", "thing"] [] := T.F_NoTexts_init.binds (ps := ["self", "thing"]) fun _ _ _ _ _ _ us hl => match us, hl with | [_, _], _ => rfl
theorem b_NoMost_init (T : Top K mg f fd) : Binds K (fd 6) ["self", "most"] [] := T.F_NoMost_init.binds (ps := ["self", "most"]) fun _ _ _ _ _ _ us hl => match us, hl with | [_, _], _ => rfl
theorem b_NoWriting_init (T : Top K mg f fd) : Binds K (fd 7) ["self", "number"] [] := T.F_NoWriting_init.binds (ps := ["self", "number"]) fun _ _ _ _ _ _ us hl => match us, hl with | [_, _], _ => rfl
theorem b_Fault_init (T : Top K mg f fd) : Binds K (fd 8) ["self", "word"] [] := T.F_Fault_init.binds (ps := ["self", "word"]) fun _ _ _ _ _ _ us hl => match us, hl with | [_, _], _ => rfl
theorem b_NoName_init (T : Top K mg f fd) : Binds K (fd 9) ["self", "name"] [] := T.F_NoName_init.binds (ps := ["self", "name"]) fun _ _ _ _ _ _ us hl => match us, hl with | [_, _], _ => rfl
theorem b_TooMany_init (T : Top K mg f fd) : Binds K (fd 10) ["self", "many"] [] := T.F_TooMany_init.binds (ps := ["self", "many"]) fun _ _ _ _ _ _ us hl => match us, hl with | [_, _], _ => rfl
theorem b_l_pool (T : Top K mg f fd) : Binds K (fd 11) ["_law_script", "_law_k"] [] := T.F_l_pool.binds (ps := ["_law_script", "_law_k"]) fun _ _ _ _ _ _ us hl => match us, hl with | [_, _], _ => rfl
theorem b_l_take (T : Top K mg f fd) : Binds K (fd 12) ["_law_pool_here", "_law_many"] [] := T.F_l_take.binds (ps := ["_law_pool_here", "_law_many"]) fun _ _ _ _ _ _ us hl => match us, hl with | [_, _], _ => rfl
theorem b_l_raised (T : Top K mg f fd) : Binds K (fd 13) ["_law_number", "_law_thing"] [] := T.F_l_raised.binds (ps := ["_law_number", "_law_thing"]) fun _ _ _ _ _ _ us hl => match us, hl with | [_, _], _ => rfl
theorem b_l_raised_beside (T : Top K mg f fd) : Binds K (fd 14) ["_law_number", "_law_thing"] [] := T.F_l_raised_beside.binds (ps := ["_law_number", "_law_thing"]) fun _ _ _ _ _ _ us hl => match us, hl with | [_, _], _ => rfl
theorem b_l_is (T : Top K mg f fd) : Binds K (fd 15) ["_law_e", "_law_number"] [] := T.F_l_is.binds (ps := ["_law_e", "_law_number"]) fun _ _ _ _ _ _ us hl => match us, hl with | [_, _], _ => rfl
theorem b_l_above (T : Top K mg f fd) : Binds K (fd 16) ["_law_e"] [] := T.F_l_above.binds (ps := ["_law_e"]) fun _ _ _ _ _ _ us hl => match us, hl with | [_], _ => rfl
theorem b_l_due (T : Top K mg f fd) : Binds K (fd 17) ["_law_number"] [] := T.F_l_due.binds (ps := ["_law_number"]) fun _ _ _ _ _ _ us hl => match us, hl with | [_], _ => rfl
theorem b_l_field (T : Top K mg f fd) : Binds K (fd 18) ["_law_e", "_law_number"] [] := T.F_l_field.binds (ps := ["_law_e", "_law_number"]) fun _ _ _ _ _ _ us hl => match us, hl with | [_, _], _ => rfl
theorem b_l_taken (T : Top K mg f fd) : Binds K (fd 19) ["_law_number", "_law_thing"] [] := T.F_l_taken.binds (ps := ["_law_number", "_law_thing"]) fun _ _ _ _ _ _ us hl => match us, hl with | [_, _], _ => rfl
theorem b_law (T : Top K mg f fd) : Binds K (fd 20) ["_law_script"] [] := T.F_law.binds (ps := ["_law_script"]) fun _ _ _ _ _ _ us hl => match us, hl with | [_], _ => rfl
def sp_l_pool (K : PySem.W.Frag) : Sp := spPool K
theorem ok_l_pool (T : Top K mg f fd) : FnOk P w K mg base CX0 1 (f 11) (fd 11) ["_law_script", "_law_k"] (sp_l_pool K) := by
  refine T.F_l_pool.ok sc_l_pool (fun vs H Q E h => ?_) (fun cdv Ar outer s H vs Q E hr h => ?_)
  · obtain ⟨_, _, _, rfl, _⟩ := h; rfl
  refine ⟨_, (pss_cons (ps_set (i := 2) sc_l_pool.nd rfl (Or.inl rfl) pe_int)
      (pss_cons (ps_if (pt_cmpR o_lt (pv 1) (pe_callB c_len (by rfl) T.z_len (by decide +kernel) (pa_cons (pv 0) pa_nil)) (nomark _)) (pss_one (ps_set (i := 2) sc_l_pool.nd rfl (Or.inl rfl) (pe_ix ix_list (pv 0) (pv 1) (fun _ _ => rfl)))) pss_nil)
      (pss_cons (ps_set (i := 3) sc_l_pool.nd rfl (Or.inl rfl) (pe_callB (c_max rfl) (by rfl) T.z_max (by decide +kernel) (pa_cons (pv 2) (pa_cons (pe_op o_sub (pe_un o_neg pe_int) (pv 2)) pa_nil))))
      (pss_cons (ps_set (i := 4) sc_l_pool.nd rfl (Or.inl rfl) (pe_op o_mod (pe_op o_add (pe_op o_add (pe_op o_mul (pe_op o_mod (pv 3) pe_int) pe_int) (pe_op o_mul pe_int (pv 1))) pe_int) pe_int))
      (pss_cons (ps_if (pt_cmpR o_lt (pv 3) (pe_op o_pow pe_int pe_int) (nomark _)) (pss_one (ps_set (i := 3) sc_l_pool.nd rfl (Or.inl rfl) pe_int)) pss_nil)
      (pss_one (ps_ret (pe_lst (pa_cons (pv 3) (pa_cons (pv 4) pa_nil)))))))))), ?_⟩
  obtain ⟨a, ns, k, rfl, hS, hl, h0, h1, q⟩ := h
  have s0 : StOk K W0.M H (L2.start ["_law_script", "_law_k", "_law_cell", "_law_number", "_law_seed"] [.ref a, .int k]) (startE ["_law_script", "_law_k", "_law_cell", "_law_number", "_law_seed"] [.s ns, .d (.int k)]) :=
    stOk_start (.cons ⟨a, rfl, by rw [hid_W0]; exact hS⟩ (.cons (.int k) .nil))
  refine xs_then (W := W0) (N := fun Δ => Δ = [some (.s ns), some (.d (.int k)), some (.d (.int 0)), none, none]) (xs_set xe_int rfl) trivial s0 fun σ1 H1 Δ1 f1 s1 e => ?_
  subst e
  refine xs_then (W := W0) (N := fun Δ => ∃ c, Δ = [some (.s ns), some (.d (.int k)), some (.d (.int c)), none, none]) (xs_if (xt_test (xe_op (xe_var rfl) (xe_cb (xa_cons (xe_var rfl) xa_nil) cx_lenI) ox_IB)) (fun c => ?_) fun _ => xs_next ⟨0, rfl⟩) trivial s1 fun σ2 H2 Δ2 f2 s2 e => ?_
  · have lt : k.toNat < ns.length := by
      have c' := of_decide_eq_true c
      omega
    exact xs_set (xe_op (xe_var rfl) (xe_var rfl) (ox_ixI h0 (List.getElem?_eq_getElem lt))) ⟨_, rfl⟩
  obtain ⟨c, e⟩ := e
  subst e
  refine xs_then (W := W0) (N := fun Δ => ∃ n, Δ = [some (.s ns), some (.d (.int k)), some (.d (.int c)), some (.d (.int n)), none]) (xs_set (xe_cb (xa_cons (xe_var rfl) (xa_cons (xe_op (xe_neg xe_int) (xe_var rfl) ox_II) xa_nil)) cx_max) ⟨_, rfl⟩) trivial s2 fun σ3 H3 Δ3 f3 s3 e => ?_
  obtain ⟨n, e⟩ := e
  subst e
  have b1 : 0 ≤ n % 2147483629 := Int.emod_nonneg _ (by decide)
  have b2 : n % 2147483629 < 2147483629 := Int.emod_lt_of_pos _ (by decide)
  refine xs_then (W := W0) (N := fun Δ => ∃ s : Int, Δ = [some (.s ns), some (.d (.int k)), some (.d (.int c)), some (.d (.int n)), some (.d (.int s))] ∧ 0 ≤ s ∧ s < 2147483647)
    (xs_set (xe_op (xe_op (xe_op (xe_op (xe_op (xe_var rfl) xe_int (ox_mod (by decide))) xe_int (ox_mul (.inl ⟨by omega, by omega⟩))) (xe_op xe_int (xe_var rfl) (ox_mul (.inl ⟨by decide, by decide⟩))) ox_II) xe_int ox_II) xe_int (ox_mod (by decide)))
      ⟨_, rfl, Int.emod_nonneg _ (by decide), Int.emod_lt_of_pos _ (by decide)⟩) trivial s3 fun σ4 H4 Δ4 f4 s4 e => ?_
  obtain ⟨s', e, l0, l1⟩ := e
  subst e
  refine xs_then (W := W0) (N := fun Δ => ∃ n : Int, Δ = [some (.s ns), some (.d (.int k)), some (.d (.int c)), some (.d (.int n)), some (.d (.int s'))])
    (xs_if (xt_test (xe_op (xe_var rfl) (xe_op xe_int xe_int (ox_pow ⟨by decide, by decide, by decide⟩)) ox_IB)) (fun _ => xs_set xe_int ⟨_, rfl⟩) fun _ => xs_next ⟨_, rfl⟩) trivial s4 fun σ5 H5 Δ5 f5 s5 e => ?_
  obtain ⟨m, e⟩ := e
  subst e
  obtain ⟨v3, e3, i3⟩ := s5.get 3 _ rfl
  obtain ⟨v4, e4, i4⟩ := s5.get 4 _ rfl
  cases i3
  cases i4
  have ff := (((f1.trans f2).trans f3).trans f4).trans f5
  have sm : Same H H5 := by have := ff.same; rwa [hid_W0, hid_W0] at this
  refine ⟨_, e3, _, e4, (by decide : 2 ≤ sizeLine), fun p np => q p _ (fun b o e => ?_) (sm.free np) ⟨_, upd_same, m, s', rfl, l0, l1⟩⟩
  rw [upd_ne (ne_of_none (sm _ _ e) np)]
  exact sm _ _ e
theorem ok_l_take (T : Top K mg f fd) : FnOk P w K mg base CX0 1 (f 12) (fd 12) ["_law_pool_here", "_law_many"] (spD K preTake postTake) := by
  refine okD T.F_l_take sc_l_take (fun W as p => ?_) (fun cdv Ar outer s H E hr => ⟨_, (pss_cons (ps_if (pt_cmpR o_gt (pe_ix ix_list (pv 0) pe_int (fun _ _ => rfl)) pe_int (nomark _)) (pss_cons (ps_set (i := 2) sc_l_take.nd rfl (Or.inl rfl) (pe_op o_mod (pe_ix ix_list (pv 0) pe_int (fun _ _ => rfl)) (pv 1)))
      (pss_cons (ps_asg (pe_op o_fdiv (pe_ix ix_list (pv 0) pe_int (fun _ _ => rfl)) (pv 1)) (pg_sub (pv 0) pe_int set_list))
      (pss_one (ps_ret (pv 2))))) pss_nil)
      (pss_cons (ps_asg (pe_op o_mod (pe_op o_add (pe_op o_mul (pe_ix ix_list (pv 0) pe_int (fun _ _ => rfl)) pe_int) pe_int) pe_int) (pg_sub (pv 0) pe_int set_list))
      (pss_one (ps_ret (pe_op o_mod (pe_op o_fdiv (pe_op o_mod (pe_op o_mul (pe_ix ix_list (pv 0) pe_int (fun _ _ => rfl)) (pe_ix ix_list (pv 0) pe_int (fun _ _ => rfl))) pe_int) pe_int) (pv 1)))))), fun W as p => ?_⟩)
  · obtain ⟨_, _, rfl, _⟩ := p; rfl
  obtain ⟨pa, m, rfl, hp, m0, m1⟩ := p
  have md : ∀ {Δ : Env} {ta : TE} {tb : TE} {p' : Int → Prop}, XE K W ta Δ (IntR p') → XV K W tb Δ (.d (.int m)) → XE K W (tOp rModP ta tb) Δ (IntR fun n => 0 ≤ n ∧ n < m) := fun ha hb =>
    xe_intR ha (XE.mono hb fun a e => ⟨m, e, rfl⟩) fun i j _ e => by
      subst e
      exact OX.is (ox_mod m0) ⟨_, rfl, Int.emod_nonneg _ (by omega), Int.emod_lt_of_pos _ m0⟩
  refine xs_seq (N1 := fun Δ => Δ = startE ["_law_pool_here", "_law_many", "_law_digit"] [.v (.ref pa), .d (.int m)]) ?_ ?_
  · refine xs_ifR (B := fun _ => True) (xt_testR (xe_opR (xe_pool0 rfl hp) (xe_intC (n := 0) (p := fun n => n = 0) rfl) ?_)) (fun _ => ?_) fun _ => xs_next rfl
    · rintro a b ⟨i, rfl, _⟩ ⟨j, rfl, _⟩
      exact OX.is ox_IB ⟨_, rfl, trivial⟩
    · refine xs_seq (N1 := fun Δ => ∃ n : Int, (0 ≤ n ∧ n < m) ∧ Δ = [some (.v (.ref pa)), some (.d (.int m)), some (.d (.int n))]) (xs_setR (md (xe_pool0 rfl hp) (xe_var rfl)) fun a ⟨n, e, hn⟩ => ⟨n, hn, by rw [e]; rfl⟩) ?_
      rintro Δ' ⟨n, hn, rfl⟩
      refine xs_seq (N1 := fun Δ => Δ = [some (.v (.ref pa)), some (.d (.int m)), some (.d (.int n))]) (xs_pool0 rfl hp (xe_intR (xe_pool0 rfl hp) (XE.mono (xe_var (i := 1) rfl) fun a e => ⟨m, e, rfl⟩) (q := fun j => j = m) fun i j _ e => ?_) rfl) ?_
      · subst e
        exact OX.is (ox_div ⟨m0, by omega⟩) ⟨_, rfl, trivial⟩
      · rintro Δ' rfl
        exact xs_ret (xe_var (i := 2) rfl) fun a e => ⟨n, e, hn⟩
  rintro Δ' rfl
  have P1 : ∀ {Δ : Env}, Δ[0]? = some (some (.v (.ref pa))) → XE K W (tOp (rIxL K) (tVar 0) (tC (.int 1))) Δ (IntR fun s => 0 ≤ s ∧ s < 2147483647) := fun h => xe_pool1 h hp
  refine xs_seq (N1 := fun Δ => Δ = startE ["_law_pool_here", "_law_many", "_law_digit"] [.v (.ref pa), .d (.int m)]) (xs_pool1 rfl hp ?_ rfl) ?_
  · refine xe_intR (xe_intR (xe_intR (P1 rfl) (xe_intC (p := fun n => n = 48271) rfl) (u := fun _ => True) ?_) (xe_intC (p := fun _ => True) trivial) (u := fun _ => True) ?_) (xe_intC (p := fun n => n = 2147483647) rfl) ?_
    · rintro i j ⟨h0, h1⟩ rfl
      exact OX.is (ox_mul (.inl ⟨by omega, by omega⟩)) ⟨_, rfl, trivial⟩
    · rintro i j _ _
      exact OX.is ox_II ⟨_, rfl, trivial⟩
    · rintro i j _ rfl
      exact OX.is (ox_mod (by decide)) ⟨_, rfl, Int.emod_nonneg _ (by decide), Int.emod_lt_of_pos _ (by decide)⟩
  rintro Δ' rfl
  refine xs_ret (md (xe_intR (xe_intR (xe_intR (P1 rfl) (P1 rfl) (u := fun _ => True) ?_) (xe_intC (p := fun n => n = 2147483629) rfl) (u := fun _ => True) ?_) (xe_intC (p := fun n => n = 64) rfl) (u := fun _ => True) ?_) (xe_var (i := 1) rfl)) fun a ⟨n, e, hn⟩ => ⟨n, e, hn⟩
  · rintro i j ⟨h0, h1⟩ ⟨h2, h3⟩
    exact OX.is (ox_mul (.inl ⟨by omega, by omega⟩)) ⟨_, rfl, trivial⟩
  · rintro i j _ rfl
    exact OX.is (ox_mod (by decide)) ⟨_, rfl, trivial⟩
  · rintro i j _ rfl
    exact OX.is (ox_div ⟨by decide, by decide⟩) ⟨_, rfl, trivial⟩

theorem ok_NoKinds_init (T : Top K mg f fd) : FnOk P w K mg base CX0 11 (f 0) (fd 0) ["self", "thing"] (spLay (f 26) "thing") := by
  refine T.F_NoKinds_init.ok sc_NoKinds_init (fun vs H Q E h => ?_) (fun cdv Ar outer s H vs Q E hr h => ?_)
  · obtain ⟨_, _, rfl, _⟩ := h; rfl
  refine ⟨_, (pss_cons (ps_expr (pe_iniM T.w_NoKinds (by rfl) T.g_MouthError (by decide) T.me_ga T.me_rd T.me_in (by decide +kernel) (pa_cons (pv 0) (pa_cons pe_str pa_nil))))
      (pss_one (ps_lay T.w_NoKinds T.no_NoKinds (pv 0) (pv 1)))), ?_⟩
  obtain ⟨a, y, rfl, e, h'⟩ := h
  exact lay_body (N := []) e h' rfl rfl
theorem ok_NoSign_init (T : Top K mg f fd) : FnOk P w K mg base CX0 10 (f 1) (fd 1) ["self", "sign"] (spLay (f 27) "sign") := by
  refine T.F_NoSign_init.ok sc_NoSign_init (fun vs H Q E h => ?_) (fun cdv Ar outer s H vs Q E hr h => ?_)
  · obtain ⟨_, _, rfl, _⟩ := h; rfl
  refine ⟨_, (pss_cons (ps_expr (pe_iniM T.w_NoSign (by rfl) T.g_MouthError (by decide) T.me_ga T.me_rd T.me_in (by decide +kernel) (pa_cons (pv 0) (pa_cons pe_str pa_nil))))
      (pss_one (ps_lay T.w_NoSign T.no_NoSign (pv 0) (pv 1)))), ?_⟩
  obtain ⟨a, y, rfl, e, h'⟩ := h
  exact lay_body (N := []) e h' rfl rfl
theorem ok_NoKey_init (T : Top K mg f fd) : FnOk P w K mg base CX0 9 (f 2) (fd 2) ["self", "key"] (spLay (f 28) "key") := by
  refine T.F_NoKey_init.ok sc_NoKey_init (fun vs H Q E h => ?_) (fun cdv Ar outer s H vs Q E hr h => ?_)
  · obtain ⟨_, _, rfl, _⟩ := h; rfl
  refine ⟨_, (pss_cons (ps_expr (pe_iniM T.w_NoKey (by rfl) T.g_MouthError (by decide) T.me_ga T.me_rd T.me_in (by decide +kernel) (pa_cons (pv 0) (pa_cons pe_str pa_nil))))
      (pss_one (ps_lay T.w_NoKey T.no_NoKey (pv 0) (pv 1)))), ?_⟩
  obtain ⟨a, y, rfl, e, h'⟩ := h
  exact lay_body (N := []) e h' rfl rfl
theorem ok_NoWorth_init (T : Top K mg f fd) : FnOk P w K mg base CX0 8 (f 3) (fd 3) ["self", "thing"] (spLay (f 29) "thing") := by
  refine T.F_NoWorth_init.ok sc_NoWorth_init (fun vs H Q E h => ?_) (fun cdv Ar outer s H vs Q E hr h => ?_)
  · obtain ⟨_, _, rfl, _⟩ := h; rfl
  refine ⟨_, (pss_cons (ps_expr (pe_iniM T.w_NoWorth (by rfl) T.g_MouthError (by decide) T.me_ga T.me_rd T.me_in (by decide +kernel) (pa_cons (pv 0) (pa_cons pe_str pa_nil))))
      (pss_one (ps_lay T.w_NoWorth T.no_NoWorth (pv 0) (pv 1)))), ?_⟩
  obtain ⟨a, y, rfl, e, h'⟩ := h
  exact lay_body (N := []) e h' rfl rfl
theorem ok_NoText_init (T : Top K mg f fd) : FnOk P w K mg base CX0 7 (f 4) (fd 4) ["self", "thing"] (spLay (f 30) "thing") := by
  refine T.F_NoText_init.ok sc_NoText_init (fun vs H Q E h => ?_) (fun cdv Ar outer s H vs Q E hr h => ?_)
  · obtain ⟨_, _, rfl, _⟩ := h; rfl
  refine ⟨_, (pss_cons (ps_expr (pe_iniM T.w_NoText (by rfl) T.g_MouthError (by decide) T.me_ga T.me_rd T.me_in (by decide +kernel) (pa_cons (pv 0) (pa_cons pe_str pa_nil))))
      (pss_one (ps_lay T.w_NoText T.no_NoText (pv 0) (pv 1)))), ?_⟩
  obtain ⟨a, y, rfl, e, h'⟩ := h
  exact lay_body (N := []) e h' rfl rfl
theorem ok_NoTexts_init (T : Top K mg f fd) : FnOk P w K mg base CX0 6 (f 5) (fd 5) ["self", "thing"] (spLay (f 31) "thing") := by
  refine T.F_NoTexts_init.ok sc_NoTexts_init (fun vs H Q E h => ?_) (fun cdv Ar outer s H vs Q E hr h => ?_)
  · obtain ⟨_, _, rfl, _⟩ := h; rfl
  refine ⟨_, (pss_cons (ps_expr (pe_iniM T.w_NoTexts (by rfl) T.g_MouthError (by decide) T.me_ga T.me_rd T.me_in (by decide +kernel) (pa_cons (pv 0) (pa_cons pe_str pa_nil))))
      (pss_one (ps_lay T.w_NoTexts T.no_NoTexts (pv 0) (pv 1)))), ?_⟩
  obtain ⟨a, y, rfl, e, h'⟩ := h
  exact lay_body (N := []) e h' rfl rfl
theorem ok_NoMost_init (T : Top K mg f fd) : FnOk P w K mg base CX0 5 (f 6) (fd 6) ["self", "most"] (spLay (f 32) "most") := by
  refine T.F_NoMost_init.ok sc_NoMost_init (fun vs H Q E h => ?_) (fun cdv Ar outer s H vs Q E hr h => ?_)
  · obtain ⟨_, _, rfl, _⟩ := h; rfl
  refine ⟨_, (pss_cons (ps_expr (pe_iniM T.w_NoMost (by rfl) T.g_MouthError (by decide) T.me_ga T.me_rd T.me_in (by decide +kernel) (pa_cons (pv 0) (pa_cons pe_str pa_nil))))
      (pss_one (ps_lay T.w_NoMost T.no_NoMost (pv 0) (pv 1)))), ?_⟩
  obtain ⟨a, y, rfl, e, h'⟩ := h
  exact lay_body (N := []) e h' rfl rfl
theorem ok_NoWriting_init (T : Top K mg f fd) : FnOk P w K mg base CX0 4 (f 7) (fd 7) ["self", "number"] (spLay (f 33) "number") := by
  refine T.F_NoWriting_init.ok sc_NoWriting_init (fun vs H Q E h => ?_) (fun cdv Ar outer s H vs Q E hr h => ?_)
  · obtain ⟨_, _, rfl, _⟩ := h; rfl
  refine ⟨_, (pss_cons (ps_expr (pe_iniM T.w_NoWriting (by rfl) T.g_MouthError (by decide) T.me_ga T.me_rd T.me_in (by decide +kernel) (pa_cons (pv 0) (pa_cons pe_str pa_nil))))
      (pss_one (ps_lay T.w_NoWriting T.no_NoWriting (pv 0) (pv 1)))), ?_⟩
  obtain ⟨a, y, rfl, e, h'⟩ := h
  exact lay_body (N := []) e h' rfl rfl
theorem ok_Fault_init (T : Top K mg f fd) : FnOk P w K mg base CX0 3 (f 8) (fd 8) ["self", "word"] (spLay (f 34) "word") := by
  refine T.F_Fault_init.ok sc_Fault_init (fun vs H Q E h => ?_) (fun cdv Ar outer s H vs Q E hr h => ?_)
  · obtain ⟨_, _, rfl, _⟩ := h; rfl
  refine ⟨_, (pss_cons (ps_expr (pe_iniB T.w_Fault (by rfl) T.z_RuntimeError (by decide +kernel) (by decide) (by decide) (by rfl) (by decide +kernel) (by kernel_rfl) (by decide +kernel) (pa_cons (pv 0) (pa_cons pe_str pa_nil))))
      (pss_one (ps_lay T.w_Fault T.no_Fault (pv 0) (pv 1)))), ?_⟩
  obtain ⟨a, y, rfl, e, h'⟩ := h
  exact lay_body (N := []) e h' rfl rfl
theorem ok_NoName_init (T : Top K mg f fd) : FnOk P w K mg base CX0 2 (f 9) (fd 9) ["self", "name"] (spLay (f 35) "name") := by
  refine T.F_NoName_init.ok sc_NoName_init (fun vs H Q E h => ?_) (fun cdv Ar outer s H vs Q E hr h => ?_)
  · obtain ⟨_, _, rfl, _⟩ := h; rfl
  refine ⟨_, (pss_cons (ps_expr (pe_iniB T.w_NoName (by rfl) T.z_KeyError (by decide +kernel) (by decide) (by decide) (by rfl) (by decide +kernel) (by kernel_rfl) (by decide +kernel) (pa_cons (pv 0) (pa_cons pe_str pa_nil))))
      (pss_one (ps_lay T.w_NoName T.no_NoName (pv 0) (pv 1)))), ?_⟩
  obtain ⟨a, y, rfl, e, h'⟩ := h
  exact lay_body (N := []) e h' rfl rfl
theorem ok_TooMany_init (T : Top K mg f fd) : FnOk P w K mg base CX0 1 (f 10) (fd 10) ["self", "many"] (spLay (f 36) "many") := by
  refine T.F_TooMany_init.ok sc_TooMany_init (fun vs H Q E h => ?_) (fun cdv Ar outer s H vs Q E hr h => ?_)
  · obtain ⟨_, _, rfl, _⟩ := h; rfl
  refine ⟨_, (pss_cons (ps_expr (pe_iniB T.w_TooMany (by rfl) T.z_OverflowError (by decide +kernel) (by decide) (by decide) (by rfl) (by decide +kernel) (by kernel_rfl) (by decide +kernel) (pa_cons (pv 0) (pa_cons pe_str pa_nil))))
      (pss_one (ps_lay T.w_TooMany T.no_TooMany (pv 0) (pv 1)))), ?_⟩
  obtain ⟨a, y, rfl, e, h'⟩ := h
  exact lay_body (N := []) e h' rfl rfl

/-- a function that raises: the n-th class from lo on, over what it is handed; nothing where n is beside them -/
def spRz (lo : Nat) (cs : List (Addr × Option Str)) : Sp := fun vs H Q E => ∃ (n : Nat) (y : V), vs = [.int n, y] ∧
  (∀ i c fo, n = lo + i → cs[i]? = some (c, fo) → match fo with | none => E (.ref c) none H | some x => ∀ d, H d = none → E (.ref c) (some d) (upd H d (.xd [(x, y)]))) ∧ ((n < lo ∨ lo + cs.length ≤ n) → Q .non H)
theorem rz_if {σ : L2.St} {H : Hp} {n k : Nat} {a : TS} {D : Ends} (e0 : σ[0]? = some (some (.int n))) (h1 : n = k → a D σ H) (h2 : n ≠ k → D.nx σ H) : tIfS (tTest (tOp rEq (tVar 0) (tC (.int k)))) a tNext D σ H := by
  refine ⟨_, e0, rfl, _, rfl, ?_⟩
  show if decide (V.int n = V.int k) = true then a D σ H else tNext D σ H
  by_cases c : n = k
  · subst c
    rw [if_pos (decide_eq_true rfl)]
    exact h1 rfl
  · rw [if_neg (fun z => c (by have := of_decide_eq_true z; injection this with z'; exact Int.ofNat.inj z'))]
    exact h2 c
theorem rz_seq {σ : L2.St} {H : Hp} {n k : Nat} {a b : TS} {D : Ends} (e0 : σ[0]? = some (some (.int n))) (h1 : n = k → a { D with nx := b D } σ H) (h2 : n ≠ k → b D σ H) : tSeq (tIfS (tTest (tOp rEq (tVar 0) (tC (.int k)))) a tNext) b D σ H :=
  rz_if (D := { D with nx := b D }) e0 h1 h2
theorem ok_l_raised (T : Top K mg f fd) : FnOk P w K mg base (L2N.CX P w) 13 (f 13) (fd 13) ["_law_number", "_law_thing"] (spRz 0 [((f 26), some "thing"), ((f 27), some "sign"), ((f 28), some "key"), ((f 29), some "thing"), ((f 30), some "thing"), ((f 31), some "thing"), ((f 32), some "most"), ((f 33), some "number"), ((f 21), none)]) := by
  refine okXN T.F_l_raised sc_l_raised (fun vs H Q E h => ?_) (fun cdv Ar outer s H vs Q E hr h => ?_)
  · obtain ⟨_, _, rfl, _⟩ := h; rfl
  refine ⟨_, (pss_cons (ps_if (pt_cmpR op_eq (pv 0) pe_int (nomark _)) (pss_one (L2N.ps_raise rfl (L2N.takes_of rfl rfl rfl rfl) (pmk_errN T.w_NoKinds T.iC_NoKinds T.tI_NoKinds (ok_NoKinds_init T) (hr.mono (by omega)) (b_NoKinds_init T) pass0 (by rfl) T.g_NoKinds (pa_cons (pv 1) pa_nil)))) pss_nil)
      (pss_cons (ps_if (pt_cmpR op_eq (pv 0) pe_int (nomark _)) (pss_one (L2N.ps_raise rfl (L2N.takes_of rfl rfl rfl rfl) (pmk_errN T.w_NoSign T.iC_NoSign T.tI_NoSign (ok_NoSign_init T) (hr.mono (by omega)) (b_NoSign_init T) pass0 (by rfl) T.g_NoSign (pa_cons (pv 1) pa_nil)))) pss_nil)
      (pss_cons (ps_if (pt_cmpR op_eq (pv 0) pe_int (nomark _)) (pss_one (L2N.ps_raise rfl (L2N.takes_of rfl rfl rfl rfl) (pmk_errN T.w_NoKey T.iC_NoKey T.tI_NoKey (ok_NoKey_init T) (hr.mono (by omega)) (b_NoKey_init T) pass0 (by rfl) T.g_NoKey (pa_cons (pv 1) pa_nil)))) pss_nil)
      (pss_cons (ps_if (pt_cmpR op_eq (pv 0) pe_int (nomark _)) (pss_one (L2N.ps_raise rfl (L2N.takes_of rfl rfl rfl rfl) (pmk_errN T.w_NoWorth T.iC_NoWorth T.tI_NoWorth (ok_NoWorth_init T) (hr.mono (by omega)) (b_NoWorth_init T) pass0 (by rfl) T.g_NoWorth (pa_cons (pv 1) pa_nil)))) pss_nil)
      (pss_cons (ps_if (pt_cmpR op_eq (pv 0) pe_int (nomark _)) (pss_one (L2N.ps_raise rfl (L2N.takes_of rfl rfl rfl rfl) (pmk_errN T.w_NoText T.iC_NoText T.tI_NoText (ok_NoText_init T) (hr.mono (by omega)) (b_NoText_init T) pass0 (by rfl) T.g_NoText (pa_cons (pv 1) pa_nil)))) pss_nil)
      (pss_cons (ps_if (pt_cmpR op_eq (pv 0) pe_int (nomark _)) (pss_one (L2N.ps_raise rfl (L2N.takes_of rfl rfl rfl rfl) (pmk_errN T.w_NoTexts T.iC_NoTexts T.tI_NoTexts (ok_NoTexts_init T) (hr.mono (by omega)) (b_NoTexts_init T) pass0 (by rfl) T.g_NoTexts (pa_cons (pv 1) pa_nil)))) pss_nil)
      (pss_cons (ps_if (pt_cmpR op_eq (pv 0) pe_int (nomark _)) (pss_one (L2N.ps_raise rfl (L2N.takes_of rfl rfl rfl rfl) (pmk_errN T.w_NoMost T.iC_NoMost T.tI_NoMost (ok_NoMost_init T) (hr.mono (by omega)) (b_NoMost_init T) pass0 (by rfl) T.g_NoMost (pa_cons (pv 1) pa_nil)))) pss_nil)
      (pss_cons (ps_if (pt_cmpR op_eq (pv 0) pe_int (nomark _)) (pss_one (L2N.ps_raise rfl (L2N.takes_of rfl rfl rfl rfl) (pmk_errN T.w_NoWriting T.iC_NoWriting T.tI_NoWriting (ok_NoWriting_init T) (hr.mono (by omega)) (b_NoWriting_init T) pass0 (by rfl) T.g_NoWriting (pa_cons (pv 1) pa_nil)))) pss_nil)
      (pss_one (ps_if (pt_cmpR op_eq (pv 0) pe_int (nomark _)) (pss_one (L2N.ps_raise rfl (L2N.takes_of rfl rfl rfl rfl) (L2N.pmk_own PySem.F.excBase_ValueError T.x_NoRow T.g_NoRow T.k_NoRow (raises_own T.b_NoRow T.t_NoRow) (by exact rfl)))) pss_nil)))))))))), ?_⟩
  obtain ⟨n, y, rfl, hr', hq⟩ := h
  refine rz_seq (k := 0) rfl (fun e => ⟨y, rfl, fun d hd => hr' 0 _ _ (by omega) rfl d hd⟩) fun n0 => ?_
  refine rz_seq (k := 1) rfl (fun e => ⟨y, rfl, fun d hd => hr' 1 _ _ (by omega) rfl d hd⟩) fun n1 => ?_
  refine rz_seq (k := 2) rfl (fun e => ⟨y, rfl, fun d hd => hr' 2 _ _ (by omega) rfl d hd⟩) fun n2 => ?_
  refine rz_seq (k := 3) rfl (fun e => ⟨y, rfl, fun d hd => hr' 3 _ _ (by omega) rfl d hd⟩) fun n3 => ?_
  refine rz_seq (k := 4) rfl (fun e => ⟨y, rfl, fun d hd => hr' 4 _ _ (by omega) rfl d hd⟩) fun n4 => ?_
  refine rz_seq (k := 5) rfl (fun e => ⟨y, rfl, fun d hd => hr' 5 _ _ (by omega) rfl d hd⟩) fun n5 => ?_
  refine rz_seq (k := 6) rfl (fun e => ⟨y, rfl, fun d hd => hr' 6 _ _ (by omega) rfl d hd⟩) fun n6 => ?_
  refine rz_seq (k := 7) rfl (fun e => ⟨y, rfl, fun d hd => hr' 7 _ _ (by omega) rfl d hd⟩) fun n7 => ?_
  refine rz_if (k := 8) rfl (fun e => hr' 8 _ _ (by omega) rfl) fun n8 => ?_
  exact hq (by simp only [List.length_cons, List.length_nil]; omega)
theorem ok_l_raised_beside (T : Top K mg f fd) : FnOk P w K mg base (L2N.CX P w) 5 (f 14) (fd 14) ["_law_number", "_law_thing"] (spRz 9 [((f 34), some "word"), ((f 22), none), ((f 23), none), ((f 24), none), ((f 35), some "name"), ((f 25), none), ((f 36), some "many")]) := by
  refine okXN T.F_l_raised_beside sc_l_raised_beside (fun vs H Q E h => ?_) (fun cdv Ar outer s H vs Q E hr h => ?_)
  · obtain ⟨_, _, rfl, _⟩ := h; rfl
  refine ⟨_, (pss_cons (ps_if (pt_cmpR op_eq (pv 0) pe_int (nomark _)) (pss_one (L2N.ps_raise rfl (L2N.takes_of rfl rfl rfl rfl) (pmk_errN T.w_Fault T.iC_Fault T.tI_Fault (ok_Fault_init T) (hr.mono (by omega)) (b_Fault_init T) pass0 (by rfl) T.g_Fault (pa_cons (pv 1) pa_nil)))) pss_nil)
      (pss_cons (ps_if (pt_cmpR op_eq (pv 0) pe_int (nomark _)) (pss_one (L2N.ps_raise rfl (L2N.takes_of rfl rfl rfl rfl) (L2N.pmk_own PySem.F.excBase_RuntimeError T.x_Ends T.g_Ends T.k_Ends (raises_own T.b_Ends T.t_Ends) (by exact rfl)))) pss_nil)
      (pss_cons (ps_if (pt_cmpR op_eq (pv 0) pe_int (nomark _)) (pss_one (L2N.ps_raise rfl (L2N.takes_of rfl rfl rfl rfl) (L2N.pmk_own PySem.F.excBase_RuntimeError T.x_Shut T.g_Shut T.k_Shut (raises_own T.b_Shut T.t_Shut) (by exact rfl)))) pss_nil)
      (pss_cons (ps_if (pt_cmpR op_eq (pv 0) pe_int (nomark _)) (pss_one (L2N.ps_raise rfl (L2N.takes_of rfl rfl rfl rfl) (L2N.pmk_own PySem.F.excBase_RuntimeError T.x_Busy T.g_Busy T.k_Busy (raises_own T.b_Busy T.t_Busy) (by exact rfl)))) pss_nil)
      (pss_cons (ps_if (pt_cmpR op_eq (pv 0) pe_int (nomark _)) (pss_one (L2N.ps_raise rfl (L2N.takes_of rfl rfl rfl rfl) (pmk_errN T.w_NoName T.iC_NoName T.tI_NoName (ok_NoName_init T) (hr.mono (by omega)) (b_NoName_init T) pass0 (by rfl) T.g_NoName (pa_cons (pv 1) pa_nil)))) pss_nil)
      (pss_cons (ps_if (pt_cmpR op_eq (pv 0) pe_int (nomark _)) (pss_one (L2N.ps_raise rfl (L2N.takes_of rfl rfl rfl rfl) (L2N.pmk_own PySem.F.excBase_LookupError T.x_Bare T.g_Bare T.k_Bare (raises_own T.b_Bare T.t_Bare) (by exact rfl)))) pss_nil)
      (pss_one (ps_if (pt_cmpR op_eq (pv 0) pe_int (nomark _)) (pss_one (L2N.ps_raise rfl (L2N.takes_of rfl rfl rfl rfl) (pmk_errN T.w_TooMany T.iC_TooMany T.tI_TooMany (ok_TooMany_init T) (hr.mono (by omega)) (b_TooMany_init T) pass0 (by rfl) T.g_TooMany (pa_cons (pv 1) pa_nil)))) pss_nil)))))))), ?_⟩
  obtain ⟨n, y, rfl, hr', hq⟩ := h
  refine rz_seq (k := 9) rfl (fun e => ⟨y, rfl, fun d hd => hr' 0 _ _ (by omega) rfl d hd⟩) fun n0 => ?_
  refine rz_seq (k := 10) rfl (fun e => hr' 1 _ _ (by omega) rfl) fun n1 => ?_
  refine rz_seq (k := 11) rfl (fun e => hr' 2 _ _ (by omega) rfl) fun n2 => ?_
  refine rz_seq (k := 12) rfl (fun e => hr' 3 _ _ (by omega) rfl) fun n3 => ?_
  refine rz_seq (k := 13) rfl (fun e => ⟨y, rfl, fun d hd => hr' 4 _ _ (by omega) rfl d hd⟩) fun n4 => ?_
  refine rz_seq (k := 14) rfl (fun e => hr' 5 _ _ (by omega) rfl) fun n5 => ?_
  refine rz_if (k := 15) rfl (fun e => ⟨y, rfl, fun d hd => hr' 6 _ _ (by omega) rfl d hd⟩) fun n6 => ?_
  exact hq (by simp only [List.length_cons, List.length_nil]; omega)

/-- what stands above the n-th class: MouthError, ValueError, RuntimeError, KeyError, LookupError, OverflowError -/
def tabE : List (List Bool) := [[true, true, false, false, false, false], [true, true, false, false, false, false], [true, true, false, false, false, false], [true, true, false, false, false, false], [true, true, false, false, false, false], [true, true, false, false, false, false], [true, true, false, false, false, false], [true, true, false, false, false, false], [true, true, false, false, false, false], [false, false, true, false, false, false], [false, false, true, false, false, false], [false, false, true, false, false, false], [false, false, true, false, false, false], [false, false, false, true, true, false], [false, false, false, false, true, false], [false, false, false, false, false, true]]
/-- what a def is told of the handled error, which is of the n-th class, and has its fields at d, if any -/
def spPG {γ : Type} (K : PySem.W.Frag) (cs : List Addr) (pre : γ → Nat → Wd → List A → Prop) (post : γ → Nat → A → Prop) : Addr × Obj → Sp := fun p vs H Q E => ∃ (n : Nat) (d : Option Addr), n < cs.length ∧ Zc (.ref (cs.getD n 0)) d p.2 ∧ (∃ ws, p.2.data = .fields ws) ∧
  spG K (fun g W as => Knows W d ∧ ∃ r, as = .v (.ref p.1) :: r ∧ pre g n W r) (fun g a => post g n a) vs H Q E
def preIs (m : Nat) (_ : Nat) (_ : Wd) (r : List A) : Prop := m < 16 ∧ r = [.d (.int m)]
def postIs (m n : Nat) (a : A) : Prop := a = .d (.bool (decide (n = m)))
def preAb (_ : Unit) (_ : Nat) (_ : Wd) (r : List A) : Prop := r = []
def postAb (_ : Unit) (n : Nat) (a : A) : Prop := a = .d (.list [.bool ((tabE.getD n []).getD 0 false), .bool ((tabE.getD n []).getD 1 false), .bool ((tabE.getD n []).getD 2 false), .bool ((tabE.getD n []).getD 3 false), .bool ((tabE.getD n []).getD 4 false), .bool ((tabE.getD n []).getD 5 false)])
theorem ok_l_is (T : Top K mg f fd) : FnP P w K mg base  1 (f 15) (fd 15) ["_law_e", "_law_number"] (spPG K [(f 26), (f 27), (f 28), (f 29), (f 30), (f 31), (f 32), (f 33), (f 21), (f 34), (f 22), (f 23), (f 24), (f 35), (f 25), (f 36)] preIs postIs) := by
  refine okP T.F_l_is sc_l_is (fun p vs H Q E h => ?_) (fun cdv Ar outer s H vs Q E p hot hr ng h => ?_)
  · obtain ⟨_, _, _, _, _, _, _, _, _, ⟨_, _, rfl, _, rfl⟩, i, _⟩ := h; exact i.length
  obtain ⟨n, d, hn, hz, hf, h⟩ := h
  refine ⟨_, (pss_cons (ps_if (pt_cmpR o_lt (pv 1) pe_int (nomark _)) (pss_cons (ps_set (i := 2) sc_l_is.nd rfl (Or.inl rfl) (pe_lst (pa_cons (pe_callB (call_isPN List.mem_cons_self hz hf) (by rfl) T.z_isinstance (by decide +kernel) (pa_cons (pv 0) (pa_cons (pe_glob (v := .ref (f 26)) (by rfl) T.g_NoKinds rfl) pa_nil))) (pa_cons (pe_callB (call_isPN List.mem_cons_self hz hf) (by rfl) T.z_isinstance (by decide +kernel) (pa_cons (pv 0) (pa_cons (pe_glob (v := .ref (f 27)) (by rfl) T.g_NoSign rfl) pa_nil))) (pa_cons (pe_callB (call_isPN List.mem_cons_self hz hf) (by rfl) T.z_isinstance (by decide +kernel) (pa_cons (pv 0) (pa_cons (pe_glob (v := .ref (f 28)) (by rfl) T.g_NoKey rfl) pa_nil))) (pa_cons (pe_callB (call_isPN List.mem_cons_self hz hf) (by rfl) T.z_isinstance (by decide +kernel) (pa_cons (pv 0) (pa_cons (pe_glob (v := .ref (f 29)) (by rfl) T.g_NoWorth rfl) pa_nil))) pa_nil))))))
      (pss_cons (ps_set (i := 2) sc_l_is.nd rfl (Or.inl rfl) (pe_op op_cat (pv 2) (pe_lst (pa_cons (pe_callB (call_isPN List.mem_cons_self hz hf) (by rfl) T.z_isinstance (by decide +kernel) (pa_cons (pv 0) (pa_cons (pe_glob (v := .ref (f 30)) (by rfl) T.g_NoText rfl) pa_nil))) (pa_cons (pe_callB (call_isPN List.mem_cons_self hz hf) (by rfl) T.z_isinstance (by decide +kernel) (pa_cons (pv 0) (pa_cons (pe_glob (v := .ref (f 31)) (by rfl) T.g_NoTexts rfl) pa_nil))) (pa_cons (pe_callB (call_isPN List.mem_cons_self hz hf) (by rfl) T.z_isinstance (by decide +kernel) (pa_cons (pv 0) (pa_cons (pe_glob (v := .ref (f 32)) (by rfl) T.g_NoMost rfl) pa_nil))) pa_nil))))))
      (pss_one (ps_ret (pe_ix ix_list (pe_op op_cat (pv 2) (pe_lst (pa_cons (pe_callB (call_isPN List.mem_cons_self hz hf) (by rfl) T.z_isinstance (by decide +kernel) (pa_cons (pv 0) (pa_cons (pe_glob (v := .ref (f 33)) (by rfl) T.g_NoWriting rfl) pa_nil))) (pa_cons (pe_callB (call_isPN List.mem_cons_self hz hf) (by rfl) T.z_isinstance (by decide +kernel) (pa_cons (pv 0) (pa_cons (pe_glob (v := .ref (f 21)) (by rfl) T.g_NoRow rfl) pa_nil))) pa_nil)))) (pv 1) (fun _ _ => rfl)))))) pss_nil)
      (pss_cons (ps_set (i := 2) sc_l_is.nd rfl (Or.inl rfl) (pe_lst (pa_cons (pe_callB (call_isPN List.mem_cons_self hz hf) (by rfl) T.z_isinstance (by decide +kernel) (pa_cons (pv 0) (pa_cons (pe_glob (v := .ref (f 34)) (by rfl) T.g_Fault rfl) pa_nil))) (pa_cons (pe_callB (call_isPN List.mem_cons_self hz hf) (by rfl) T.z_isinstance (by decide +kernel) (pa_cons (pv 0) (pa_cons (pe_glob (v := .ref (f 22)) (by rfl) T.g_Ends rfl) pa_nil))) (pa_cons (pe_callB (call_isPN List.mem_cons_self hz hf) (by rfl) T.z_isinstance (by decide +kernel) (pa_cons (pv 0) (pa_cons (pe_glob (v := .ref (f 23)) (by rfl) T.g_Shut rfl) pa_nil))) (pa_cons (pe_callB (call_isPN List.mem_cons_self hz hf) (by rfl) T.z_isinstance (by decide +kernel) (pa_cons (pv 0) (pa_cons (pe_glob (v := .ref (f 24)) (by rfl) T.g_Busy rfl) pa_nil))) (pa_cons (pe_callB (call_isPN List.mem_cons_self hz hf) (by rfl) T.z_isinstance (by decide +kernel) (pa_cons (pv 0) (pa_cons (pe_glob (v := .ref (f 35)) (by rfl) T.g_NoName rfl) pa_nil))) pa_nil)))))))
      (pss_one (ps_ret (pe_ix ix_list (pe_op op_cat (pv 2) (pe_lst (pa_cons (pe_callB (call_isPN List.mem_cons_self hz hf) (by rfl) T.z_isinstance (by decide +kernel) (pa_cons (pv 0) (pa_cons (pe_glob (v := .ref (f 25)) (by rfl) T.g_Bare rfl) pa_nil))) (pa_cons (pe_callB (call_isPN List.mem_cons_self hz hf) (by rfl) T.z_isinstance (by decide +kernel) (pa_cons (pv 0) (pa_cons (pe_glob (v := .ref (f 36)) (by rfl) T.g_TooMany rfl) pa_nil))) pa_nil)))) (pe_op o_sub (pv 1) pe_int) (fun _ _ => rfl)))))), ?_⟩
  refine bodyG_run ?_ h
  rintro m W as ⟨kn, r, rfl, hm, rfl⟩
  have C := excsOf_at T.c16 hn
  have k1 : ∀ m, m < 9 → ([.bool (decide (n = 0)), .bool (decide (n = 1)), .bool (decide (n = 2)), .bool (decide (n = 3)), .bool (decide (n = 4)), .bool (decide (n = 5)), .bool (decide (n = 6)), .bool (decide (n = 7)), .bool (decide (n = 8))] : List PyData)[m]? = some (.bool (decide (n = m))) := fun m hm => by
    show ((List.range 9).map fun j => PyData.bool (decide (n = j)))[m]? = _
    rw [List.getElem?_map, List.getElem?_range hm]; rfl
  have k2 : ∀ j, j < 7 → ([.bool (decide (n = 9)), .bool (decide (n = 10)), .bool (decide (n = 11)), .bool (decide (n = 12)), .bool (decide (n = 13)), .bool (decide (n = 14)), .bool (decide (n = 15))] : List PyData)[j]? = some (.bool (decide (n = 9 + j))) := fun j hj => by
    show ((List.range 7).map fun j => PyData.bool (decide (n = 9 + j)))[j]? = _
    rw [List.getElem?_map, List.getElem?_range hj]; rfl
  refine xs_seq (N1 := fun Δ => 9 ≤ m ∧ Δ = [some (.v (.ref p.1)), some (.d (.int m)), none]) (xs_if (xt_test (xe_op (xe_var rfl) xe_int ox_IB)) (fun c => ?_) fun c => xs_next ⟨?_, rfl⟩) fun Δ' e => ?_
  · have lt : m < 9 := by have := of_decide_eq_true c; omega
    refine xs_seq (N1 := (· = [some (.v (.ref p.1)), some (.d (.int m)), some (.d (.list [.bool (decide (n = 0)), .bool (decide (n = 1)), .bool (decide (n = 2)), .bool (decide (n = 3))]))])) (xs_set (xe_lst (ds := [.bool (decide (n = 0)), .bool (decide (n = 1)), .bool (decide (n = 2)), .bool (decide (n = 3))]) (xa_cons (xe_cb (xa_cons (xe_var rfl) (xa_cons xe_c xa_nil)) (cx_isP kn C (c := .ref (f 26)) (cv := .ref (f 26)) (fun u z => z) (kitsIn_at T.k16 hn (m := 0) (Nat.le_of_ble_eq_true rfl)))) (xa_cons (xe_cb (xa_cons (xe_var rfl) (xa_cons xe_c xa_nil)) (cx_isP kn C (c := .ref (f 27)) (cv := .ref (f 27)) (fun u z => z) (kitsIn_at T.k16 hn (m := 1) (Nat.le_of_ble_eq_true rfl)))) (xa_cons (xe_cb (xa_cons (xe_var rfl) (xa_cons xe_c xa_nil)) (cx_isP kn C (c := .ref (f 28)) (cv := .ref (f 28)) (fun u z => z) (kitsIn_at T.k16 hn (m := 2) (Nat.le_of_ble_eq_true rfl)))) (xa_cons (xe_cb (xa_cons (xe_var rfl) (xa_cons xe_c xa_nil)) (cx_isP kn C (c := .ref (f 29)) (cv := .ref (f 29)) (fun u z => z) (kitsIn_at T.k16 hn (m := 3) (Nat.le_of_ble_eq_true rfl)))) xa_nil)))) (Nat.le_of_ble_eq_true rfl)) rfl) fun Δ' e => ?_
    subst e
    refine xs_seq (N1 := (· = [some (.v (.ref p.1)), some (.d (.int m)), some (.d (.list [.bool (decide (n = 0)), .bool (decide (n = 1)), .bool (decide (n = 2)), .bool (decide (n = 3)), .bool (decide (n = 4)), .bool (decide (n = 5)), .bool (decide (n = 6))]))])) (xs_set (xe_op (xe_var rfl) (xe_lst (ds := [.bool (decide (n = 4)), .bool (decide (n = 5)), .bool (decide (n = 6))]) (xa_cons (xe_cb (xa_cons (xe_var rfl) (xa_cons xe_c xa_nil)) (cx_isP kn C (c := .ref (f 30)) (cv := .ref (f 30)) (fun u z => z) (kitsIn_at T.k16 hn (m := 4) (Nat.le_of_ble_eq_true rfl)))) (xa_cons (xe_cb (xa_cons (xe_var rfl) (xa_cons xe_c xa_nil)) (cx_isP kn C (c := .ref (f 31)) (cv := .ref (f 31)) (fun u z => z) (kitsIn_at T.k16 hn (m := 5) (Nat.le_of_ble_eq_true rfl)))) (xa_cons (xe_cb (xa_cons (xe_var rfl) (xa_cons xe_c xa_nil)) (cx_isP kn C (c := .ref (f 32)) (cv := .ref (f 32)) (fun u z => z) (kitsIn_at T.k16 hn (m := 6) (Nat.le_of_ble_eq_true rfl)))) xa_nil))) (Nat.le_of_ble_eq_true rfl)) (ox_cat (Nat.le_of_ble_eq_true rfl))) rfl) fun Δ' e => ?_
    subst e
    exact xs_ret (xe_op (xe_op (xe_var rfl) (xe_lst (ds := [.bool (decide (n = 7)), .bool (decide (n = 8))]) (xa_cons (xe_cb (xa_cons (xe_var rfl) (xa_cons xe_c xa_nil)) (cx_isP kn C (c := .ref (f 33)) (cv := .ref (f 33)) (fun u z => z) (kitsIn_at T.k16 hn (m := 7) (Nat.le_of_ble_eq_true rfl)))) (xa_cons (xe_cb (xa_cons (xe_var rfl) (xa_cons xe_c xa_nil)) (cx_isP kn C (c := .ref (f 21)) (cv := .ref (f 21)) (fun u z => z) (kitsIn_at T.k16 hn (m := 8) (Nat.le_of_ble_eq_true rfl)))) xa_nil)) (Nat.le_of_ble_eq_true rfl)) (ox_cat (Nat.le_of_ble_eq_true rfl))) (xe_var rfl) (ox_ixL (by omega) (k1 m lt))) fun a e => e
  · have := of_decide_eq_false c; omega
  obtain ⟨ge, e⟩ := e
  subst e
  refine xs_seq (N1 := (· = [some (.v (.ref p.1)), some (.d (.int m)), some (.d (.list [.bool (decide (n = 9)), .bool (decide (n = 10)), .bool (decide (n = 11)), .bool (decide (n = 12)), .bool (decide (n = 13))]))])) (xs_set (xe_lst (ds := [.bool (decide (n = 9)), .bool (decide (n = 10)), .bool (decide (n = 11)), .bool (decide (n = 12)), .bool (decide (n = 13))]) (xa_cons (xe_cb (xa_cons (xe_var rfl) (xa_cons xe_c xa_nil)) (cx_isP kn C (c := .ref (f 34)) (cv := .ref (f 34)) (fun u z => z) (kitsIn_at T.k16 hn (m := 9) (Nat.le_of_ble_eq_true rfl)))) (xa_cons (xe_cb (xa_cons (xe_var rfl) (xa_cons xe_c xa_nil)) (cx_isP kn C (c := .ref (f 22)) (cv := .ref (f 22)) (fun u z => z) (kitsIn_at T.k16 hn (m := 10) (Nat.le_of_ble_eq_true rfl)))) (xa_cons (xe_cb (xa_cons (xe_var rfl) (xa_cons xe_c xa_nil)) (cx_isP kn C (c := .ref (f 23)) (cv := .ref (f 23)) (fun u z => z) (kitsIn_at T.k16 hn (m := 11) (Nat.le_of_ble_eq_true rfl)))) (xa_cons (xe_cb (xa_cons (xe_var rfl) (xa_cons xe_c xa_nil)) (cx_isP kn C (c := .ref (f 24)) (cv := .ref (f 24)) (fun u z => z) (kitsIn_at T.k16 hn (m := 12) (Nat.le_of_ble_eq_true rfl)))) (xa_cons (xe_cb (xa_cons (xe_var rfl) (xa_cons xe_c xa_nil)) (cx_isP kn C (c := .ref (f 35)) (cv := .ref (f 35)) (fun u z => z) (kitsIn_at T.k16 hn (m := 13) (Nat.le_of_ble_eq_true rfl)))) xa_nil))))) (Nat.le_of_ble_eq_true rfl)) rfl) fun Δ' e => ?_
  subst e
  refine xs_ret (xe_op (xe_op (xe_var rfl) (xe_lst (ds := [.bool (decide (n = 14)), .bool (decide (n = 15))]) (xa_cons (xe_cb (xa_cons (xe_var rfl) (xa_cons xe_c xa_nil)) (cx_isP kn C (c := .ref (f 25)) (cv := .ref (f 25)) (fun u z => z) (kitsIn_at T.k16 hn (m := 14) (Nat.le_of_ble_eq_true rfl)))) (xa_cons (xe_cb (xa_cons (xe_var rfl) (xa_cons xe_c xa_nil)) (cx_isP kn C (c := .ref (f 36)) (cv := .ref (f 36)) (fun u z => z) (kitsIn_at T.k16 hn (m := 15) (Nat.le_of_ble_eq_true rfl)))) xa_nil)) (Nat.le_of_ble_eq_true rfl)) (ox_cat (Nat.le_of_ble_eq_true rfl))) (xe_op (xe_var rfl) xe_int ox_II) (ox_ixL (z := .bool (decide (n = m))) (by omega) ?_)) fun a e => e
  rw [show ((m : Int) - 9).toNat = m - 9 by omega]
  have q := k2 (m - 9) (by omega)
  rw [show 9 + (m - 9) = m by omega] at q
  exact q
theorem ok_l_above (T : Top K mg f fd) : FnP P w K mg base  1 (f 16) (fd 16) ["_law_e"] (spPG K [(f 26), (f 27), (f 28), (f 29), (f 30), (f 31), (f 32), (f 33), (f 21), (f 34), (f 22), (f 23), (f 24), (f 35), (f 25), (f 36)] preAb postAb) := by
  refine okP T.F_l_above sc_l_above (fun p vs H Q E h => ?_) (fun cdv Ar outer s H vs Q E p hot hr ng h => ?_)
  · obtain ⟨_, _, _, _, _, _, _, _, _, ⟨_, _, rfl, rfl⟩, i, _⟩ := h; exact i.length
  obtain ⟨n, d, hn, hz, hf, h⟩ := h
  refine ⟨_, (pss_cons (ps_set (i := 1) sc_l_above.nd rfl (Or.inl rfl) (pe_lst (pa_cons (pe_callB (call_isPN List.mem_cons_self hz hf) (by rfl) T.z_isinstance (by decide +kernel) (pa_cons (pv 0) (pa_cons (pe_glob (v := .ref (f 37)) (by rfl) T.g_MouthError rfl) pa_nil))) (pa_cons (pe_callB (call_isPN List.mem_cons_self hz hf) (by rfl) T.z_isinstance (by decide +kernel) (pa_cons (pv 0) (pa_cons (pe_bltn (v := .ty "ValueError") (by rfl) T.z_ValueError (by decide +kernel) rfl) pa_nil))) (pa_cons (pe_callB (call_isPN List.mem_cons_self hz hf) (by rfl) T.z_isinstance (by decide +kernel) (pa_cons (pv 0) (pa_cons (pe_bltn (v := .ty "RuntimeError") (by rfl) T.z_RuntimeError (by decide +kernel) rfl) pa_nil))) pa_nil)))))
      (pss_one (ps_ret (pe_op op_cat (pv 1) (pe_lst (pa_cons (pe_callB (call_isPN List.mem_cons_self hz hf) (by rfl) T.z_isinstance (by decide +kernel) (pa_cons (pv 0) (pa_cons (pe_bltn (v := .ty "KeyError") (by rfl) T.z_KeyError (by decide +kernel) rfl) pa_nil))) (pa_cons (pe_callB (call_isPN List.mem_cons_self hz hf) (by rfl) T.z_isinstance (by decide +kernel) (pa_cons (pv 0) (pa_cons (pe_bltn (v := .ty "LookupError") (by rfl) T.z_LookupError (by decide +kernel) rfl) pa_nil))) (pa_cons (pe_callB (call_isPN List.mem_cons_self hz hf) (by rfl) T.z_isinstance (by decide +kernel) (pa_cons (pv 0) (pa_cons (pe_bltn (v := .ty "OverflowError") (by rfl) T.z_OverflowError (by decide +kernel) rfl) pa_nil))) pa_nil)))))))), ?_⟩
  refine bodyG_run ?_ h
  rintro _ W as ⟨kn, r, rfl, rfl⟩
  have C := excsOf_at T.c16 hn
  refine xs_seq (N1 := (· = [some (.v (.ref p.1)), some (.d (.list [.bool ((tabE.getD n []).getD 0 false), .bool ((tabE.getD n []).getD 1 false), .bool ((tabE.getD n []).getD 2 false)]))])) (xs_set (xe_lst (ds := [.bool ((tabE.getD n []).getD 0 false), .bool ((tabE.getD n []).getD 1 false), .bool ((tabE.getD n []).getD 2 false)]) (xa_cons (xe_cb (xa_cons (xe_var rfl) (xa_cons xe_c xa_nil)) (cx_isP kn C (c := .ref (f 37)) (cv := .ref (f 37)) (fun u z => z) (kitsUp_at T.u16 hn (j := 0) (Nat.le_of_ble_eq_true rfl)))) (xa_cons (xe_cb (xa_cons (xe_var rfl) (xa_cons xe_c xa_nil)) (cx_isP kn C (c := .ty "ValueError") (cv := .type "ValueError") (fun u z => z) (kitsUp_at T.u16 hn (j := 1) (Nat.le_of_ble_eq_true rfl)))) (xa_cons (xe_cb (xa_cons (xe_var rfl) (xa_cons xe_c xa_nil)) (cx_isP kn C (c := .ty "RuntimeError") (cv := .type "RuntimeError") (fun u z => z) (kitsUp_at T.u16 hn (j := 2) (Nat.le_of_ble_eq_true rfl)))) xa_nil))) (Nat.le_of_ble_eq_true rfl)) rfl) fun Δ' e => ?_
  subst e
  exact xs_ret (xe_op (xe_var rfl) (xe_lst (ds := [.bool ((tabE.getD n []).getD 3 false), .bool ((tabE.getD n []).getD 4 false), .bool ((tabE.getD n []).getD 5 false)]) (xa_cons (xe_cb (xa_cons (xe_var rfl) (xa_cons xe_c xa_nil)) (cx_isP kn C (c := .ty "KeyError") (cv := .type "KeyError") (fun u z => z) (kitsUp_at T.u16 hn (j := 3) (Nat.le_of_ble_eq_true rfl)))) (xa_cons (xe_cb (xa_cons (xe_var rfl) (xa_cons xe_c xa_nil)) (cx_isP kn C (c := .ty "LookupError") (cv := .type "LookupError") (fun u z => z) (kitsUp_at T.u16 hn (j := 4) (Nat.le_of_ble_eq_true rfl)))) (xa_cons (xe_cb (xa_cons (xe_var rfl) (xa_cons xe_c xa_nil)) (cx_isP kn C (c := .ty "OverflowError") (cv := .type "OverflowError") (fun u z => z) (kitsUp_at T.u16 hn (j := 5) (Nat.le_of_ble_eq_true rfl)))) xa_nil))) (Nat.le_of_ble_eq_true rfl)) (ox_cat (Nat.le_of_ble_eq_true rfl))) fun a e => e
def preDue (m : Nat) (_ : Wd) (as : List A) : Prop := m < 16 ∧ as = [.d (.int m)]
def postDue (n : Nat) (a : A) : Prop := a = .d (.list [.bool ((tabE.getD n []).getD 0 false), .bool ((tabE.getD n []).getD 1 false), .bool ((tabE.getD n []).getD 2 false), .bool ((tabE.getD n []).getD 3 false), .bool ((tabE.getD n []).getD 4 false), .bool ((tabE.getD n []).getD 5 false)])
theorem ok_l_due (T : Top K mg f fd) : FnP P w K mg base  1 (f 17) (fd 17) ["_law_number"] (fun _ => spG K preDue postDue) := by
  refine okP T.F_l_due sc_l_due (fun p vs H Q E h => ?_) (fun cdv Ar outer s H vs Q E p hot hr ng h => ?_)
  · obtain ⟨_, _, _, _, ⟨_, rfl⟩, i, _⟩ := h; exact i.length
  have hd := h
  refine ⟨_, (pss_cons (ps_if (pt_cmpR o_lt (pv 0) pe_int (nomark _)) (pss_one (ps_ret (pe_lst (pa_cons pe_bl (pa_cons pe_bl (pa_cons pe_bl (pa_cons pe_bl (pa_cons pe_bl (pa_cons pe_bl pa_nil))))))))) pss_nil)
      (pss_cons (ps_if (pt_cmpR o_lt (pv 0) pe_int (nomark _)) (pss_one (ps_ret (pe_lst (pa_cons pe_bl (pa_cons pe_bl (pa_cons pe_bl (pa_cons pe_bl (pa_cons pe_bl (pa_cons pe_bl pa_nil))))))))) pss_nil)
      (pss_one (ps_ret (pe_ix ix_list (pe_lst (pa_cons (pe_lst (pa_cons pe_bl (pa_cons pe_bl (pa_cons pe_bl (pa_cons pe_bl (pa_cons pe_bl (pa_cons pe_bl pa_nil))))))) (pa_cons (pe_op op_cat (pe_op op_rep (pe_lst (pa_cons pe_bl pa_nil)) pe_int) (pe_lst (pa_cons pe_bl (pa_cons pe_bl pa_nil)))) (pa_cons (pe_op op_cat (pe_op op_rep (pe_lst (pa_cons pe_bl pa_nil)) pe_int) (pe_lst (pa_cons pe_bl pa_nil))) pa_nil)))) (pe_op o_sub (pv 0) pe_int) (fun _ _ => rfl)))))), ?_⟩
  refine bodyG_run ?_ h
  rintro m W as ⟨hm, rfl⟩
  have p1 : ∀ m, m < 9 → postDue m (.d (.list [.bool true, .bool true, .bool false, .bool false, .bool false, .bool false])) := fun m lt => by
    have e : ∀ m, m < 9 → tabE.getD m [] = [true, true, false, false, false, false] := by decide
    show _ = _
    rw [e m lt]; rfl
  have p2 : ∀ m, 9 ≤ m → m < 13 → postDue m (.d (.list [.bool false, .bool false, .bool true, .bool false, .bool false, .bool false])) := fun m ge lt => by
    have e : ∀ m, m < 13 → 9 ≤ m → tabE.getD m [] = [false, false, true, false, false, false] := by decide
    show _ = _
    rw [e m lt ge]; rfl
  let L3 : List PyData := [.list [.bool false, .bool false, .bool false, .bool true, .bool true, .bool false], .list [.bool false, .bool false, .bool false, .bool false, .bool true, .bool false], .list [.bool false, .bool false, .bool false, .bool false, .bool false, .bool true]]
  have p3 : ∀ j, j < 3 → ∃ z, L3[j]? = some z ∧ postDue (13 + j) (.d z) := fun j hj => match j, hj with
    | 0, _ => ⟨_, rfl, rfl⟩
    | 1, _ => ⟨_, rfl, rfl⟩
    | 2, _ => ⟨_, rfl, rfl⟩
    | k + 3, h => absurd h (by omega)
  refine xs_seq (N1 := fun Δ => 9 ≤ m ∧ Δ = [some (.d (.int m))]) (xs_if (xt_test (xe_op (xe_var rfl) xe_int ox_IB)) (fun c => ?_) fun c => xs_next ⟨?_, rfl⟩) fun Δ' e => ?_
  · have lt : m < 9 := by have := of_decide_eq_true c; omega
    exact xs_ret (xe_lst (ds := [.bool true, .bool true, .bool false, .bool false, .bool false, .bool false]) (xa_cons xe_bl (xa_cons xe_bl (xa_cons xe_bl (xa_cons xe_bl (xa_cons xe_bl (xa_cons xe_bl xa_nil))))))) fun a e => by rw [e]; exact p1 m lt
  · have := of_decide_eq_false c; omega
  obtain ⟨ge, e⟩ := e
  subst e
  refine xs_seq (N1 := fun Δ => 13 ≤ m ∧ Δ = [some (.d (.int m))]) (xs_if (xt_test (xe_op (xe_var rfl) xe_int ox_IB)) (fun c => ?_) fun c => xs_next ⟨?_, rfl⟩) fun Δ' e => ?_
  · have lt : m < 13 := by have := of_decide_eq_true c; omega
    exact xs_ret (xe_lst (ds := [.bool false, .bool false, .bool true, .bool false, .bool false, .bool false]) (xa_cons xe_bl (xa_cons xe_bl (xa_cons xe_bl (xa_cons xe_bl (xa_cons xe_bl (xa_cons xe_bl xa_nil))))))) fun a e => by rw [e]; exact p2 m ge lt
  · have := of_decide_eq_false c; omega
  obtain ⟨ge, e⟩ := e
  subst e
  obtain ⟨z, hz', pz⟩ := p3 (m - 13) (by omega)
  rw [show 13 + (m - 13) = m by omega] at pz
  refine xs_ret (xe_op (xe_lst (ds := L3) (xa_cons (xe_lst (ds := [.bool false, .bool false, .bool false, .bool true, .bool true, .bool false]) (xa_cons xe_bl (xa_cons xe_bl (xa_cons xe_bl (xa_cons xe_bl (xa_cons xe_bl (xa_cons xe_bl xa_nil))))))) (xa_cons (xe_op (xe_op (xe_lst (ds := [.bool false]) (xa_cons xe_bl xa_nil)) xe_int (ox_rep (by decide) (by decide) (by decide))) (xe_lst (ds := [.bool true, .bool false]) (xa_cons xe_bl (xa_cons xe_bl xa_nil))) (ox_cat (by decide))) (xa_cons (xe_op (xe_op (xe_lst (ds := [.bool false]) (xa_cons xe_bl xa_nil)) xe_int (ox_rep (by decide) (by decide) (by decide))) (xe_lst (ds := [.bool true]) (xa_cons xe_bl xa_nil)) (ox_cat (by decide))) xa_nil)))) (xe_op (xe_var rfl) xe_int ox_II) (ox_ixL (z := z) (by omega) ?_)) fun a e => by rw [e]; exact pz
  rw [show ((m : Int) - 13).toNat = m - 13 by omega]
  exact hz'
/-- the field that errors of the n-th class have -/
def fldE : List (Option Str) := [some "thing", some "sign", some "key", some "thing", some "thing", some "thing", some "most", some "number", none, some "word", none, none, none, some "name", none, some "many"]
theorem xe_xfP {K : PySem.W.Frag} {W : Wd} {Δ : Env} {te : TE} {q dd C : Addr} {x : Str} {v : V} {y : PyData} (hv : XV K W te Δ (.w (.ref q) [v] [y])) (kn : ∀ H, W.J H → H dd = some (.xd [(x, v)])) (Tx : XfC K C) (no : PySem.W.findIn K (.ref C) x = some none) : XV K W (tXfP K q (.ref C) (some dd) x te) Δ (.d y) := fun σ H j st Q k =>
  hv σ H j st _ fun u H1 a f1 e i1 => by
    subst e
    obtain ⟨e, d⟩ := i1
    subst e
    cases d with
    | cons d1 d2 => exact ⟨rfl, C, dd, _, v, rfl, Tx, no, rfl, kn H1 f1.j, by simp [List.lookup], k v H1 _ f1 rfl d1⟩
/-- what the promise of _law_field tells: the n-th class's field, of the handled error -/
def spFld (K : PySem.W.Frag) (cs : List Addr) : Addr × Obj → Sp := fun p vs H Q E => ∃ (n : Nat) (dd : Addr) (x : Str) (v : V) (y : PyData), fldE[n]? = some (some x) ∧ Zc (.ref (cs.getD n 0)) (some dd) p.2 ∧ (∃ ws, p.2.data = .fields ws) ∧ spG K (fun (_ : Unit) W as => (∀ H, W.J H → H dd = some (.xd [(x, v)])) ∧ as = [.w (.ref p.1) [v] [y], .d (.int n)]) (fun _ a => a = .d y) vs H Q E
theorem ok_l_field (T : Top K mg f fd) : FnP P w K mg base  1 (f 18) (fd 18) ["_law_e", "_law_number"] (spFld K [(f 26), (f 27), (f 28), (f 29), (f 30), (f 31), (f 32), (f 33), (f 21), (f 34), (f 22), (f 23), (f 24), (f 35), (f 25), (f 36)]) := by
  refine okP T.F_l_field sc_l_field (fun p vs H Q E h => ?_) (fun cdv Ar outer s H vs Q E p hot hr ng h => ?_)
  · obtain ⟨_, _, _, _, _, _, _, _, _, _, _, _, ⟨_, rfl⟩, i, _⟩ := h; exact i.length
  obtain ⟨n, dd, x, v, y, hx, hz, hf, h⟩ := h
  refine ⟨_, (pss_cons (ps_if (pt_cmpR op_in_seq (pv 1) (pe_lst (pa_cons pe_int (pa_cons pe_int pa_nil))) (by rfl)) (pss_one (ps_ret (pe_ifExp (pt_cmpR op_eq (pv 1) pe_int (nomark _)) (pe_xfP List.mem_cons_self hz hf (pv 0)) (pe_xfP List.mem_cons_self hz hf (pv 0))))) pss_nil)
      (pss_cons (ps_if (pt_cmpR op_in_seq (pv 1) (pe_lst (pa_cons pe_int (pa_cons pe_int (pa_cons pe_int (pa_cons pe_int pa_nil))))) (by rfl)) (pss_one (ps_ret (pe_xfP List.mem_cons_self hz hf (pv 0)))) pss_nil)
      (pss_cons (ps_if (pt_cmpR op_eq (pv 1) pe_int (nomark _)) (pss_one (ps_ret (pe_xfP List.mem_cons_self hz hf (pv 0)))) pss_nil)
      (pss_cons (ps_if (pt_cmpR op_eq (pv 1) pe_int (nomark _)) (pss_one (ps_ret (pe_xfP List.mem_cons_self hz hf (pv 0)))) pss_nil)
      (pss_cons (ps_if (pt_cmpR op_eq (pv 1) pe_int (nomark _)) (pss_one (ps_ret (pe_xfP List.mem_cons_self hz hf (pv 0)))) pss_nil)
      (pss_one (ps_ret (pe_ifExp (pt_cmpR op_eq (pv 1) pe_int (nomark _)) (pe_xfP List.mem_cons_self hz hf (pv 0)) (pe_xfP List.mem_cons_self hz hf (pv 0)))))))))), ?_⟩
  refine bodyG_run ?_ h
  rintro _ W as ⟨kn, rfl⟩
  let S : Nat → Env := fun n => [some (.w (.ref p.1) [v] [y]), some (.d (.int n))]
  have lt : n < 16 := by
    rcases Nat.lt_or_ge n 16 with z | z
    · exact z
    · rw [List.getElem?_eq_none (by exact z)] at hx; cases hx
  have cs16 : n = 0 ∨ n = 1 ∨ n = 2 ∨ n = 3 ∨ n = 4 ∨ n = 5 ∨ n = 6 ∨ n = 7 ∨ n = 8 ∨ n = 9 ∨ n = 10 ∨ n = 11 ∨ n = 12 ∨ n = 13 ∨ n = 14 ∨ n = 15 := by omega
  rcases cs16 with rfl | rfl | rfl | rfl | rfl | rfl | rfl | rfl | rfl | rfl | rfl | rfl | rfl | rfl | rfl | rfl
  · have z : ("thing" : Str) = x := Option.some.inj (Option.some.inj hx)
    subst z
    refine xs_seq (N1 := (· = S 0)) (xs_if (xt_test (xe_op (xe_var rfl) (xe_lst (ds := [.int 1, .int 2]) (xa_cons xe_int (xa_cons xe_int xa_nil))) (ox_inL rfl rfl))) (fun c => absurd c (by decide)) fun _ => xs_next rfl) fun Δ' e => ?_
    subst e
    exact xs_seq (N1 := fun _ => False) (xs_if (xt_test (xe_op (xe_var rfl) (xe_lst (ds := [.int 0, .int 3, .int 4, .int 5]) (xa_cons xe_int (xa_cons xe_int (xa_cons xe_int (xa_cons xe_int xa_nil))))) (ox_inL rfl rfl))) (fun _ => xs_ret (xe_xfP (xe_var rfl) kn T.xf_NoKinds T.no_NoKinds) fun a e => e) fun c => absurd c (by decide)) fun _ z => z.elim
  · have z : ("sign" : Str) = x := Option.some.inj (Option.some.inj hx)
    subst z
    exact xs_seq (N1 := fun _ => False) (xs_if (xt_test (xe_op (xe_var rfl) (xe_lst (ds := [.int 1, .int 2]) (xa_cons xe_int (xa_cons xe_int xa_nil))) (ox_inL rfl rfl))) (fun _ => xs_ret (xe_if (xt_test (xe_op (xe_var rfl) xe_int (ox_eq rfl rfl rfl))) (fun _ => (xe_xfP (xe_var rfl) kn T.xf_NoSign T.no_NoSign)) (fun c => absurd c (by decide))) fun a e => e) fun c => absurd c (by decide)) fun _ z => z.elim
  · have z : ("key" : Str) = x := Option.some.inj (Option.some.inj hx)
    subst z
    exact xs_seq (N1 := fun _ => False) (xs_if (xt_test (xe_op (xe_var rfl) (xe_lst (ds := [.int 1, .int 2]) (xa_cons xe_int (xa_cons xe_int xa_nil))) (ox_inL rfl rfl))) (fun _ => xs_ret (xe_if (xt_test (xe_op (xe_var rfl) xe_int (ox_eq rfl rfl rfl))) (fun c => absurd c (by decide)) (fun _ => (xe_xfP (xe_var rfl) kn T.xf_NoKey T.no_NoKey))) fun a e => e) fun c => absurd c (by decide)) fun _ z => z.elim
  · have z : ("thing" : Str) = x := Option.some.inj (Option.some.inj hx)
    subst z
    refine xs_seq (N1 := (· = S 3)) (xs_if (xt_test (xe_op (xe_var rfl) (xe_lst (ds := [.int 1, .int 2]) (xa_cons xe_int (xa_cons xe_int xa_nil))) (ox_inL rfl rfl))) (fun c => absurd c (by decide)) fun _ => xs_next rfl) fun Δ' e => ?_
    subst e
    exact xs_seq (N1 := fun _ => False) (xs_if (xt_test (xe_op (xe_var rfl) (xe_lst (ds := [.int 0, .int 3, .int 4, .int 5]) (xa_cons xe_int (xa_cons xe_int (xa_cons xe_int (xa_cons xe_int xa_nil))))) (ox_inL rfl rfl))) (fun _ => xs_ret (xe_xfP (xe_var rfl) kn T.xf_NoWorth T.no_NoWorth) fun a e => e) fun c => absurd c (by decide)) fun _ z => z.elim
  · have z : ("thing" : Str) = x := Option.some.inj (Option.some.inj hx)
    subst z
    refine xs_seq (N1 := (· = S 4)) (xs_if (xt_test (xe_op (xe_var rfl) (xe_lst (ds := [.int 1, .int 2]) (xa_cons xe_int (xa_cons xe_int xa_nil))) (ox_inL rfl rfl))) (fun c => absurd c (by decide)) fun _ => xs_next rfl) fun Δ' e => ?_
    subst e
    exact xs_seq (N1 := fun _ => False) (xs_if (xt_test (xe_op (xe_var rfl) (xe_lst (ds := [.int 0, .int 3, .int 4, .int 5]) (xa_cons xe_int (xa_cons xe_int (xa_cons xe_int (xa_cons xe_int xa_nil))))) (ox_inL rfl rfl))) (fun _ => xs_ret (xe_xfP (xe_var rfl) kn T.xf_NoText T.no_NoText) fun a e => e) fun c => absurd c (by decide)) fun _ z => z.elim
  · have z : ("thing" : Str) = x := Option.some.inj (Option.some.inj hx)
    subst z
    refine xs_seq (N1 := (· = S 5)) (xs_if (xt_test (xe_op (xe_var rfl) (xe_lst (ds := [.int 1, .int 2]) (xa_cons xe_int (xa_cons xe_int xa_nil))) (ox_inL rfl rfl))) (fun c => absurd c (by decide)) fun _ => xs_next rfl) fun Δ' e => ?_
    subst e
    exact xs_seq (N1 := fun _ => False) (xs_if (xt_test (xe_op (xe_var rfl) (xe_lst (ds := [.int 0, .int 3, .int 4, .int 5]) (xa_cons xe_int (xa_cons xe_int (xa_cons xe_int (xa_cons xe_int xa_nil))))) (ox_inL rfl rfl))) (fun _ => xs_ret (xe_xfP (xe_var rfl) kn T.xf_NoTexts T.no_NoTexts) fun a e => e) fun c => absurd c (by decide)) fun _ z => z.elim
  · have z : ("most" : Str) = x := Option.some.inj (Option.some.inj hx)
    subst z
    refine xs_seq (N1 := (· = S 6)) (xs_if (xt_test (xe_op (xe_var rfl) (xe_lst (ds := [.int 1, .int 2]) (xa_cons xe_int (xa_cons xe_int xa_nil))) (ox_inL rfl rfl))) (fun c => absurd c (by decide)) fun _ => xs_next rfl) fun Δ' e => ?_
    subst e
    refine xs_seq (N1 := (· = S 6)) (xs_if (xt_test (xe_op (xe_var rfl) (xe_lst (ds := [.int 0, .int 3, .int 4, .int 5]) (xa_cons xe_int (xa_cons xe_int (xa_cons xe_int (xa_cons xe_int xa_nil))))) (ox_inL rfl rfl))) (fun c => absurd c (by decide)) fun _ => xs_next rfl) fun Δ' e => ?_
    subst e
    exact xs_seq (N1 := fun _ => False) (xs_if (xt_test (xe_op (xe_var rfl) xe_int (ox_eq rfl rfl rfl))) (fun _ => xs_ret (xe_xfP (xe_var rfl) kn T.xf_NoMost T.no_NoMost) fun a e => e) fun c => absurd c (by decide)) fun _ z => z.elim
  · have z : ("number" : Str) = x := Option.some.inj (Option.some.inj hx)
    subst z
    refine xs_seq (N1 := (· = S 7)) (xs_if (xt_test (xe_op (xe_var rfl) (xe_lst (ds := [.int 1, .int 2]) (xa_cons xe_int (xa_cons xe_int xa_nil))) (ox_inL rfl rfl))) (fun c => absurd c (by decide)) fun _ => xs_next rfl) fun Δ' e => ?_
    subst e
    refine xs_seq (N1 := (· = S 7)) (xs_if (xt_test (xe_op (xe_var rfl) (xe_lst (ds := [.int 0, .int 3, .int 4, .int 5]) (xa_cons xe_int (xa_cons xe_int (xa_cons xe_int (xa_cons xe_int xa_nil))))) (ox_inL rfl rfl))) (fun c => absurd c (by decide)) fun _ => xs_next rfl) fun Δ' e => ?_
    subst e
    refine xs_seq (N1 := (· = S 7)) (xs_if (xt_test (xe_op (xe_var rfl) xe_int (ox_eq rfl rfl rfl))) (fun c => absurd c (by decide)) fun _ => xs_next rfl) fun Δ' e => ?_
    subst e
    exact xs_seq (N1 := fun _ => False) (xs_if (xt_test (xe_op (xe_var rfl) xe_int (ox_eq rfl rfl rfl))) (fun _ => xs_ret (xe_xfP (xe_var rfl) kn T.xf_NoWriting T.no_NoWriting) fun a e => e) fun c => absurd c (by decide)) fun _ z => z.elim
  · have z : (none : Option Str) = some x := Option.some.inj hx
    cases z
  · have z : ("word" : Str) = x := Option.some.inj (Option.some.inj hx)
    subst z
    refine xs_seq (N1 := (· = S 9)) (xs_if (xt_test (xe_op (xe_var rfl) (xe_lst (ds := [.int 1, .int 2]) (xa_cons xe_int (xa_cons xe_int xa_nil))) (ox_inL rfl rfl))) (fun c => absurd c (by decide)) fun _ => xs_next rfl) fun Δ' e => ?_
    subst e
    refine xs_seq (N1 := (· = S 9)) (xs_if (xt_test (xe_op (xe_var rfl) (xe_lst (ds := [.int 0, .int 3, .int 4, .int 5]) (xa_cons xe_int (xa_cons xe_int (xa_cons xe_int (xa_cons xe_int xa_nil))))) (ox_inL rfl rfl))) (fun c => absurd c (by decide)) fun _ => xs_next rfl) fun Δ' e => ?_
    subst e
    refine xs_seq (N1 := (· = S 9)) (xs_if (xt_test (xe_op (xe_var rfl) xe_int (ox_eq rfl rfl rfl))) (fun c => absurd c (by decide)) fun _ => xs_next rfl) fun Δ' e => ?_
    subst e
    refine xs_seq (N1 := (· = S 9)) (xs_if (xt_test (xe_op (xe_var rfl) xe_int (ox_eq rfl rfl rfl))) (fun c => absurd c (by decide)) fun _ => xs_next rfl) fun Δ' e => ?_
    subst e
    exact xs_seq (N1 := fun _ => False) (xs_if (xt_test (xe_op (xe_var rfl) xe_int (ox_eq rfl rfl rfl))) (fun _ => xs_ret (xe_xfP (xe_var rfl) kn T.xf_Fault T.no_Fault) fun a e => e) fun c => absurd c (by decide)) fun _ z => z.elim
  · have z : (none : Option Str) = some x := Option.some.inj hx
    cases z
  · have z : (none : Option Str) = some x := Option.some.inj hx
    cases z
  · have z : (none : Option Str) = some x := Option.some.inj hx
    cases z
  · have z : ("name" : Str) = x := Option.some.inj (Option.some.inj hx)
    subst z
    refine xs_seq (N1 := (· = S 13)) (xs_if (xt_test (xe_op (xe_var rfl) (xe_lst (ds := [.int 1, .int 2]) (xa_cons xe_int (xa_cons xe_int xa_nil))) (ox_inL rfl rfl))) (fun c => absurd c (by decide)) fun _ => xs_next rfl) fun Δ' e => ?_
    subst e
    refine xs_seq (N1 := (· = S 13)) (xs_if (xt_test (xe_op (xe_var rfl) (xe_lst (ds := [.int 0, .int 3, .int 4, .int 5]) (xa_cons xe_int (xa_cons xe_int (xa_cons xe_int (xa_cons xe_int xa_nil))))) (ox_inL rfl rfl))) (fun c => absurd c (by decide)) fun _ => xs_next rfl) fun Δ' e => ?_
    subst e
    refine xs_seq (N1 := (· = S 13)) (xs_if (xt_test (xe_op (xe_var rfl) xe_int (ox_eq rfl rfl rfl))) (fun c => absurd c (by decide)) fun _ => xs_next rfl) fun Δ' e => ?_
    subst e
    refine xs_seq (N1 := (· = S 13)) (xs_if (xt_test (xe_op (xe_var rfl) xe_int (ox_eq rfl rfl rfl))) (fun c => absurd c (by decide)) fun _ => xs_next rfl) fun Δ' e => ?_
    subst e
    refine xs_seq (N1 := (· = S 13)) (xs_if (xt_test (xe_op (xe_var rfl) xe_int (ox_eq rfl rfl rfl))) (fun c => absurd c (by decide)) fun _ => xs_next rfl) fun Δ' e => ?_
    subst e
    exact xs_ret (xe_if (xt_test (xe_op (xe_var rfl) xe_int (ox_eq rfl rfl rfl))) (fun _ => (xe_xfP (xe_var rfl) kn T.xf_NoName T.no_NoName)) (fun c => absurd c (by decide))) fun a e => e
  · have z : (none : Option Str) = some x := Option.some.inj hx
    cases z
  · have z : ("many" : Str) = x := Option.some.inj (Option.some.inj hx)
    subst z
    refine xs_seq (N1 := (· = S 15)) (xs_if (xt_test (xe_op (xe_var rfl) (xe_lst (ds := [.int 1, .int 2]) (xa_cons xe_int (xa_cons xe_int xa_nil))) (ox_inL rfl rfl))) (fun c => absurd c (by decide)) fun _ => xs_next rfl) fun Δ' e => ?_
    subst e
    refine xs_seq (N1 := (· = S 15)) (xs_if (xt_test (xe_op (xe_var rfl) (xe_lst (ds := [.int 0, .int 3, .int 4, .int 5]) (xa_cons xe_int (xa_cons xe_int (xa_cons xe_int (xa_cons xe_int xa_nil))))) (ox_inL rfl rfl))) (fun c => absurd c (by decide)) fun _ => xs_next rfl) fun Δ' e => ?_
    subst e
    refine xs_seq (N1 := (· = S 15)) (xs_if (xt_test (xe_op (xe_var rfl) xe_int (ox_eq rfl rfl rfl))) (fun c => absurd c (by decide)) fun _ => xs_next rfl) fun Δ' e => ?_
    subst e
    refine xs_seq (N1 := (· = S 15)) (xs_if (xt_test (xe_op (xe_var rfl) xe_int (ox_eq rfl rfl rfl))) (fun c => absurd c (by decide)) fun _ => xs_next rfl) fun Δ' e => ?_
    subst e
    refine xs_seq (N1 := (· = S 15)) (xs_if (xt_test (xe_op (xe_var rfl) xe_int (ox_eq rfl rfl rfl))) (fun c => absurd c (by decide)) fun _ => xs_next rfl) fun Δ' e => ?_
    subst e
    exact xs_ret (xe_if (xt_test (xe_op (xe_var rfl) xe_int (ox_eq rfl rfl rfl))) (fun c => absurd c (by decide)) (fun _ => (xe_xfP (xe_var rfl) kn T.xf_TooMany T.no_TooMany))) fun a e => e

section
variable {K : PySem.W.Frag} {W : Wd} {Δ : Env}
theorem xe_wv {te : TE} {x : V} {vs : List V} {ds : List PyData} (h : XV K W te Δ (.w x vs ds)) : XV K W te Δ (.v x) := fun σ H j st Q q =>
  h σ H j st _ fun v H1 a f e i => by
    subst e
    exact q v H1 (.v x) f rfl i.1
/-- a call of a def that knows the handled error -/
theorem xe_callP {t : TA} {as : List A} {sp : Sp} {R : A → Prop} (ha : XAs K W t Δ as) (hs : ∀ vs H Q, W.J H → IsAll K W.M H vs as → (∀ v H' a, Fr W H H' → R a → Is K W.M H' v a → Q v H') → sp vs H Q fun _ _ _ => False) :
    XE K W (fun σ H Q => t σ H fun vs H1 => sp vs H1 Q fun _ _ _ => False) Δ R := fun σ H j st Q q =>
  ha σ H j st _ fun vs H1 as' f1 e i1 => by
    subst e
    exact hs vs H1 Q f1.j i1 fun v H' a f r i => q v H' a (f1.trans f) r i
theorem xe_callPG {γ : Type} {t : TA} {r : List A} {p : Addr × Obj} {cs : List Addr} {pre : γ → Nat → Wd → List A → Prop} {post : γ → Nat → A → Prop} {n : Nat} {d : Option Addr} (g : γ) (hn : n < cs.length) (hz : Zc (.ref (cs.getD n 0)) d p.2) (hf : ∃ ws, p.2.data = .fields ws) (kn : Knows W d)
    (ha : XAs K W t Δ (.v (.ref p.1) :: r)) (hp : pre g n W r) : XE K W (fun σ H Q => t σ H fun vs H1 => spPG K cs pre post p vs H1 Q fun _ _ _ => False) Δ (post g n) :=
  xe_callP ha fun vs H Q j i q => ⟨n, d, hn, hz, hf, g, W, _, j, ⟨kn, r, rfl, hp⟩, i, fun v H' a f r i => q v H' a f r i⟩
theorem knows_err {e : Addr} {x : Str} {v : V} : Knows (W.err e x v) (some e) := fun dd h H j => by
  cases h
  obtain ⟨u, hu, rfl⟩ := j.2
  exact ⟨_, hu⟩
theorem knows_at {e : Addr} {x : Str} {v : V} : ∀ H, (W.err e x v).J H → H e = some (.xd [(x, v)]) := fun H j => by
  obtain ⟨u, hu, rfl⟩ := j.2
  exact hu
theorem filt16 {n : Nat} (hn : n < 16) : (((List.range 16).map fun (i : Nat) => PyData.int (i : Int)).filter fun d => match d with | .int i => decide ((n : Int) = i) | _ => false).map id = [.int n] := by
  have z : ∀ n, n < 16 → ((List.range 16).filter fun i => decide (n = i)) = [n] := by decide
  rw [List.map_id, List.filter_map]
  have e : ((fun d => match d with | PyData.int i => decide ((n : Int) = i) | _ => false) ∘ fun (i : Nat) => PyData.int (i : Int)) = fun i => decide (n = i) := by
    funext i
    show decide ((n : Int) = (i : Int)) = decide (n = i)
    by_cases h : n = i
    · subst h
      rw [decide_eq_true rfl, decide_eq_true rfl]
    · rw [decide_eq_false h, decide_eq_false (by omega)]
  rw [e, z n hn]
  rfl
/-- no number of a class without a field -/
def bareE (n : Nat) : Bool := n == 8 || n == 10 || n == 11 || n == 12 || n == 14
theorem bare_in : ∀ n : Nat, n < 16 → inF (.int n) [.int 8, .int 10, .int 11, .int 12, .int 14] = bareE n := by
  intro n hn
  have z : ∀ n : Fin 16, inF (.int n.1) [.int 8, .int 10, .int 11, .int 12, .int 14] = bareE n.1 := by decide +kernel
  exact z ⟨n, hn⟩
theorem bare_fld : ∀ n, n < 16 → fldE[n]? = some none → bareE n = true := by decide +kernel
theorem fld_bare : ∀ n x, n < 16 → fldE[n]? = some (some x) → bareE n = false := by
  intro n x hn h
  have z : ∀ n, n < 16 → bareE n = true → fldE[n]? = some none := by decide +kernel
  cases e : bareE n with
  | false => rfl
  | true => rw [z n hn e] at h; cases h
end
abbrev callP (sp : Sp) (t : TA) : TE := fun σ H Q => t σ H fun vs H1 => sp vs H1 Q fun _ _ _ => False
/-- the suite, of an error of which p is the object -/
def tsTk1 (K : PySem.W.Frag) (cs : List Addr) (p : Addr × Obj) : TS :=
  tSeq (tIfS (tOr (tTest (tOp (rNeD K) (tLc (iRng1 (tCons (tC (.int 16)) tNil)) (gName 3) (tB (callP (spPG K cs preIs postIs p) (tCons (tVar 2) (tCons (tVar 3) tNil)))) (tVar 3) [3]) (tLst (tCons (tVar 0) tNil))))
      (tTest (tOp (rNeD K) (callP (spPG K cs preAb postAb p) (tCons (tVar 2) tNil)) (callP (spG K preDue postDue) (tCons (tVar 0) tNil))))) (tRet (tC (.bl false))) tNext)
    (tRet (tOrV (tOp (rIn K false) (tVar 0) (tLst (tCons (tC (.int 8)) (tCons (tC (.int 10)) (tCons (tC (.int 11)) (tCons (tC (.int 12)) (tCons (tC (.int 14)) tNil)))))))
      (tOp rEq (tCB (rReprB K) (tCons (callP (spFld K cs p) (tCons (tVar 2) (tCons (tVar 0) tNil))) tNil)) (tCB (rReprB K) (tCons (tVar 1) tNil)))))
def tsTk (K : PySem.W.Frag) (cs : List Addr) : Addr → Value → Option Addr → TS := fun q k d D σ H => ∀ o : Obj, L2N.Zn k d o → (∃ vs, o.data = .fields vs) → tsTk1 K cs (q, o) D σ H
theorem pss_obj {X : Cx} {b : List Stmt} {cs : List Addr} {q : Addr} {k : Value} {d : Option Addr} {o : Obj} (hz : L2N.Zn k d o) (hf : ∃ vs, o.data = .fields vs) (h : PSs X b (tsTk1 X.K cs (q, o))) : PSs X b (tsTk X.K cs q k d) :=
  ⟨fun pins s σ H D I w => h.run pins s σ H D I (w o hz hf)⟩
/-- the first statement of the suite: all is as it should be, it goes on -/
theorem tk_first {cs : List Addr} (l16 : cs.length = 16) {p : Addr × Obj} {n : Nat} (hn : n < 16) {d : Option Addr} (hz : Zc (.ref (cs.getD n 0)) d p.2) (hf : ∃ ws, p.2.data = .fields ws) (kn : ∀ D φ, Knows (W.add D φ) d) (kn0 : Knows W d) {y : PyData} {a2 : A} {N : Env → Prop} {Rt : A → Prop} {Bk Ct : Env → Prop}
    (h2 : ∀ W' (Δ : Env), Δ[2]? = some (some a2) → XV K W' (tVar 2) Δ (.v (.ref p.1))) (nx : N [some (.d (.int n)), some (.d y), some a2, none]) :
    XS K W (tIfS (tOr (tTest (tOp (rNeD K) (tLc (iRng1 (tCons (tC (.int 16)) tNil)) (gName 3) (tB (callP (spPG K cs preIs postIs p) (tCons (tVar 2) (tCons (tVar 3) tNil)))) (tVar 3) [3]) (tLst (tCons (tVar 0) tNil))))
      (tTest (tOp (rNeD K) (callP (spPG K cs preAb postAb p) (tCons (tVar 2) tNil)) (callP (spG K preDue postDue) (tCons (tVar 0) tNil))))) (tRet (tC (.bl false))) tNext) [some (.d (.int n)), some (.d y), some a2, none] N Rt Bk Ct := by
  have lt : n < cs.length := by omega
  have is : ∀ (D : Addr) φ (i : Nat), i < 16 → ∀ Δ' : Env, Δ'[2]? = some (some a2) → Δ'[3]? = some (some (.d (.int (i : Int)))) → XV K (W.add D φ) (callP (spPG K cs preIs postIs p) (tCons (tVar 2) (tCons (tVar 3) tNil))) Δ' (.d (.bool (decide (n = i)))) := fun D φ i hi Δ' e2 e3 =>
    XE.mono (xe_callPG (pre := preIs) (post := postIs) i lt hz hf (kn D φ) (xa_cons (h2 _ _ e2) (xa_cons (xe_var e3) xa_nil)) ⟨hi, rfl⟩) fun a e => e
  have comp : XV K W (tLc (iRng1 (tCons (tC (.int 16)) tNil)) (gName 3) (tB (callP (spPG K cs preIs postIs p) (tCons (tVar 2) (tCons (tVar 3) tNil)))) (tVar 3) [3]) [some (.d (.int n)), some (.d y), some a2, none] (.d (.list [.int n])) := by
    refine XE.is (xe_lcF (xs := (List.range 16).map fun (i : Nat) => PyData.int (i : Int)) (b := fun d => match d with | .int i => decide ((n : Int) = i) | _ => false) (h := id) (xi_rngL (n := 16) xe_int (by decide)) (by decide) fun x hx => ?_) (congrArg (fun l => A.d (.list l)) (filt16 hn))
    obtain ⟨i, hi, rfl⟩ := List.mem_map.mp hx
    refine ⟨_, gt_name, fun D φ mD => ?_, fun _ D φ mD => xe_var rfl⟩
    refine xt_B (XE.is (is D φ i (List.mem_range.mp hi) _ rfl rfl) ?_)
    show A.d (.bool (decide (n = i))) = A.d (.bool (decide ((n : Int) = (i : Int))))
    by_cases h : n = i
    · subst h; rw [decide_eq_true rfl, decide_eq_true rfl]
    · rw [decide_eq_false h, decide_eq_false (by omega)]
  let ab : PyData := .list [.bool ((tabE.getD n []).getD 0 false), .bool ((tabE.getD n []).getD 1 false), .bool ((tabE.getD n []).getD 2 false), .bool ((tabE.getD n []).getD 3 false), .bool ((tabE.getD n []).getD 4 false), .bool ((tabE.getD n []).getD 5 false)]
  have above : XV K W (callP (spPG K cs preAb postAb p) (tCons (tVar 2) tNil)) [some (.d (.int n)), some (.d y), some a2, none] (.d ab) :=
    XE.mono (xe_callPG (pre := preAb) (post := postAb) () lt hz hf kn0 (xa_cons (h2 _ _ rfl) xa_nil) rfl) fun a e => e
  have due : XV K W (callP (spG K preDue postDue) (tCons (tVar 0) tNil)) [some (.d (.int n)), some (.d y), some a2, none] (.d ab) :=
    xe_callP (xa_cons (xe_var rfl) xa_nil) fun vs H Q j i q => ⟨n, W, _, j, ⟨hn, rfl⟩, i, fun v H' a f r i => q v H' a f r i⟩
  have e1 : ∀ n, n < 16 → PyData.eqv (.list [.int (n : Nat)]) (.list [.int (n : Nat)]) = true := by decide +kernel
  have e2 : ∀ n, n < 16 → PyData.eqv (.list [.bool ((tabE.getD n []).getD 0 false), .bool ((tabE.getD n []).getD 1 false), .bool ((tabE.getD n []).getD 2 false), .bool ((tabE.getD n []).getD 3 false), .bool ((tabE.getD n []).getD 4 false), .bool ((tabE.getD n []).getD 5 false)]) (.list [.bool ((tabE.getD n []).getD 0 false), .bool ((tabE.getD n []).getD 1 false), .bool ((tabE.getD n []).getD 2 false), .bool ((tabE.getD n []).getD 3 false), .bool ((tabE.getD n []).getD 4 false), .bool ((tabE.getD n []).getD 5 false)]) = true := by decide +kernel
  refine xs_if (b := false) (XT.is (xt_or (xt_test (xe_op comp (xe_lst (ds := [.int n]) (xa_cons (xe_var rfl) xa_nil) (Nat.le_of_ble_eq_true rfl)) (ox_neD rfl rfl rfl rfl))) fun _ => xt_test (xe_op above due (ox_neD rfl rfl rfl rfl))) ?_) (fun z => nomatch z) fun _ => xs_next nx
  show (!PyData.eqv (.list [.int n]) (.list [.int n]) || !PyData.eqv ab ab) = false
  rw [e1 n hn, show PyData.eqv ab ab = true from e2 n hn]
  rfl
theorem knows_add {W : Wd} {d : Option Addr} (h : Knows W d) (D : Addr) (φ : HO → Prop) : Knows (W.add D φ) d := fun dd e H j => h dd e H j.1
section
variable {K : PySem.W.Frag} {W : Wd} {cs : List Addr} {q dd : Addr} {o : Obj} {n : Nat} {y : PyData} {x : Str} {v : V}
theorem eqF_self {s : Str} : eqF (.str s) (.str s) = true := decide_eq_true rfl
theorem suiteF (l16 : cs.length = 16) (hn : n < 16) (hx : fldE[n]? = some (some x)) (hz : L2N.Zn (.ref (cs.getD n 0)) (some dd) o) (hf : ∃ vs, o.data = .fields vs) (rk : ReprOk y) :
    XS K (W.err dd x v) (tsTk1 K cs (q, o)) [some (.d (.int n)), some (.d y), some (.w (.ref q) [v] [y]), none] (fun _ => False) (· = .d (.bool true)) (fun _ => False) (fun _ => False) := by
  refine xs_seq (N1 := (· = [some (.d (.int n)), some (.d y), some (.w (.ref q) [v] [y]), none])) (tk_first l16 hn hz.zc hf (fun D φ => knows_add knows_err D φ) knows_err (fun W' Δ e => xe_wv (xe_var e)) rfl) fun Δ' e => ?_
  subst e
  have field : XV K (W.err dd x v) (callP (spFld K cs (q, o)) (tCons (tVar 2) (tCons (tVar 0) tNil))) [some (.d (.int n)), some (.d y), some (.w (.ref q) [v] [y]), none] (.d y) :=
    xe_callP (as := [.w (.ref q) [v] [y], .d (.int n)]) (xa_cons (xe_var rfl) (xa_cons (xe_var rfl) xa_nil)) fun vs H Q j i k => ⟨n, dd, x, v, y, hx, hz.zc, hf, (), _, _, j, ⟨knows_at, rfl⟩, i, fun v H' a f r i => k v H' a f r i⟩
  refine xs_ret (XE.is (xe_orV (xe_op (xe_var rfl) (xe_lst (ds := [.int 8, .int 10, .int 11, .int 12, .int 14]) (xa_cons xe_int (xa_cons xe_int (xa_cons xe_int (xa_cons xe_int (xa_cons xe_int xa_nil)))))) (ox_inL rfl rfl)) fun _ => xe_op (xe_cb (xa_cons field xa_nil) (cx_reprB rk)) (xe_cb (xa_cons (xe_var rfl) xa_nil) (cx_reprB rk)) (ox_eq rfl rfl rfl)) ?_) fun a e => e
  rw [eqF_self, Bool.or_true]
theorem suiteN (l16 : cs.length = 16) (hn : n < 16) (hx : fldE[n]? = some none) (hz : L2N.Zn (.ref (cs.getD n 0)) none o) (hf : ∃ vs, o.data = .fields vs) (rk : ReprOk y) :
    XS K W (tsTk1 K cs (q, o)) [some (.d (.int n)), some (.d y), some (.v (.ref q)), none] (fun _ => False) (· = .d (.bool true)) (fun _ => False) (fun _ => False) := by
  refine xs_seq (N1 := (· = [some (.d (.int n)), some (.d y), some (.v (.ref q)), none])) (tk_first l16 hn hz.zc hf (fun D φ => knows_add (fun dd h => by cases h) D φ) (fun dd h => by cases h) (fun W' Δ e => xe_var e) rfl) fun Δ' e => ?_
  subst e
  have bare := (bare_in n hn).trans (bare_fld n hn hx)
  have z : (if false = true then !inF (.int n) [.int 8, .int 10, .int 11, .int 12, .int 14] else inF (.int n) [.int 8, .int 10, .int 11, .int 12, .int 14]) = true := bare
  refine xs_ret (XE.is (xe_orV (b := true) (xe_op (xe_var rfl) (xe_lst (ds := [.int 8, .int 10, .int 11, .int 12, .int 14]) (xa_cons xe_int (xa_cons xe_int (xa_cons xe_int (xa_cons xe_int (xa_cons xe_int xa_nil)))))) (ox_inL rfl rfl)) fun e => ?_) ?_) fun a e => e
  · rw [z] at e; cases e
  · rw [z]; rfl
end
def pre_l_taken (K : PySem.W.Frag) (W : Wd) (as : List A) : Prop := ∃ (n : Nat) (y : PyData), as = [.d (.int n), .d y] ∧ n < 16 ∧ ReprOk y
def post_l_taken (as : List A) (a : A) : Prop := a = .d (.bool true)
theorem ok_l_taken (T : Top K mg f fd) (lv : Live base) : FnG P w K mg base CX0 14 (f 19) (fd 19) ["_law_number", "_law_thing"] (spD K (pre_l_taken K) post_l_taken) := by
  refine okDG T.F_l_taken sc_l_taken (fun W as p => ?_) (fun cdv Ar outer s H E hr ng => ⟨_, (pss_cons (ps_tryTC (Wo := fun _ _ _ _ => False) (ts := tsTk K ([(f 26), (f 27), (f 28), (f 29), (f 30), (f 31), (f 32), (f 33), (f 21), (f 34), (f 22), (f 23), (f 24), (f 35), (f 25), (f 36)] : List Addr)) (i := 2) rfl rfl sc_l_taken.nd rfl rfl rfl (.cons ⟨rfl, by decide, .inl T.g_MouthError⟩ (.cons ⟨rfl, by decide, .inl T.g_Fault⟩ (.cons ⟨rfl, by decide, .inl T.g_Ends⟩ (.cons ⟨rfl, by decide, .inl T.g_Shut⟩ (.cons ⟨rfl, by decide, .inl T.g_Busy⟩ (.cons ⟨rfl, by decide, .inl T.g_NoName⟩ (.cons ⟨rfl, by decide, .inl T.g_Bare⟩ (.cons ⟨rfl, by decide, .inl T.g_TooMany⟩ .nil)))))))) (Nat.le_of_ble_eq_true rfl) (fun u s' ⟨_, _, _, _, _, _, _, _, _, _, _, _, _, _, _, _, z⟩ => z.elim) (fun W pn xe tk _ => pss_cons (ps_expr (pe_callS (ok_l_raised T) (hr.mono (by omega)) (by rfl) T.g_l_raised T.F_l_raised.kp (b_l_raised T) (fun σ => L2N.passAt tk σ) (pa_cons (pv 0) (pa_cons (pv 1) pa_nil)))) (pss_one (ps_expr (pe_callS (ok_l_raised_beside T) (hr.mono (by omega)) (by rfl) T.g_l_raised_beside T.F_l_raised_beside.kp (b_l_raised_beside T) (fun σ => L2N.passAt tk σ) (pa_cons (pv 0) (pa_cons (pv 1) pa_nil)))))) (fun q o k d pn hz hf => pss_obj hz hf (pss_cons (t := tIfS _ _ _) (u := tRet _) (ps_if (PW.pt (pw_or (pt_cmpR (op_neD hr.units) (pe_lcH (own := [("_law_other", 3)]) (g := gName 3) ⟨(q, o), ⟨rfl, hf.imp fun vs h => ⟨h, hz.2.2 vs h⟩⟩, List.mem_cons_self⟩ sc_l_taken.nd (L2H.pi_range1H (by rfl) T.z_range (pa_cons pe_int pa_nil)) (blkOk_by (own := [("_law_other", 3)]) (N := ["_law_number", "_law_thing", "_law_e", "_law_other"]) (sc := defScope s_l_taken) (by decide +kernel)) (fun _ _ _ _ _ => pg_name (i := 3) sc_l_taken.nd rfl (Or.inl rfl)) (fun _ _ _ _ _ => (pts_one (pt_val (pe_callP (ok_l_is T) (V2.roomH_mark (hr.mono (by omega)) _) ng ⟨rfl, hf.imp fun vs h => ⟨h, hz.2.2 vs h⟩⟩ List.mem_cons_self (by rfl) T.g_l_is T.F_l_is.kp (b_l_is T) (pa_cons (pv 2) (pa_cons (pv 3) pa_nil)))))) (fun _ _ _ _ _ => (pv 3))) (pe_lst (pa_cons (pv 0) pa_nil)) (nomark _)) (pw_or1 (pt_cmpR (op_neD hr.units) (pe_callP (ok_l_above T) (V2.roomH_mark (hr.mono (by omega)) _) ng ⟨rfl, hf.imp fun vs h => ⟨h, hz.2.2 vs h⟩⟩ List.mem_cons_self (by rfl) T.g_l_above T.F_l_above.kp (b_l_above T) (pa_cons (pv 2) pa_nil)) (pe_callP (ok_l_due T) (V2.roomH_mark (hr.mono (by omega)) _) ng ⟨rfl, hf.imp fun vs h => ⟨h, hz.2.2 vs h⟩⟩ List.mem_cons_self (by rfl) T.g_l_due T.F_l_due.kp (b_l_due T) (pa_cons (pv 0) pa_nil)) (nomark _))))) (pss_one (ps_ret pe_bl)) pss_nil) (pss_one (ps_ret (pe_or (pe_cmpR op_in_seq (pv 0) (pe_lst (pa_cons pe_int (pa_cons pe_int (pa_cons pe_int (pa_cons pe_int (pa_cons pe_int pa_nil)))))) (by rfl)) (pe_one (pe_cmpR op_eq (pe_callB (call_reprB lv ng hr.units) (by rfl) T.z_repr (by decide +kernel) (pa_cons (pe_callP (ok_l_field T) (V2.roomH_mark (hr.mono (by omega)) _) ng ⟨rfl, hf.imp fun vs h => ⟨h, hz.2.2 vs h⟩⟩ List.mem_cons_self (by rfl) T.g_l_field T.F_l_field.kp (b_l_field T) (pa_cons (pv 2) (pa_cons (pv 0) pa_nil))) pa_nil)) (pe_callB (call_reprB lv ng hr.units) (by rfl) T.z_repr (by decide +kernel) (pa_cons (pv 1) pa_nil)) (nomark _)))))))))
      (pss_one (ps_ret pe_bl))), fun W as p => ?_⟩)
  · obtain ⟨_, _, rfl, _⟩ := p; rfl
  obtain ⟨n, y, rfl, hn, rk⟩ := p
  intro σ H j st D nx rt bk ct
  have l16 : ([(f 26), (f 27), (f 28), (f 29), (f 30), (f 31), (f 32), (f 33), (f 21), (f 34), (f 22), (f 23), (f 24), (f 35), (f 25), (f 36)] : List Addr).length = 16 := rfl
  obtain ⟨v0, e0, i0⟩ := st.get 0 _ rfl
  obtain ⟨v1, e1, i1⟩ := st.get 1 _ rfl
  cases i0
  let D2 : Ends := { D with nx := tRet (tC (.bl false)) D }
  have wF : ∀ (x : Str) (dd : Addr), fldE[n]? = some (some x) → H dd = none → wAnyT K [.ref (f 37), .ref (f 34), .ref (f 22), .ref (f 23), .ref (f 24), .ref (f 35), .ref (f 25), .ref (f 36)] 2 (tsTk K ([(f 26), (f 27), (f 28), (f 29), (f 30), (f 31), (f 32), (f 33), (f 21), (f 34), (f 22), (f 23), (f 24), (f 35), (f 25), (f 36)] : List Addr)) (fun _ _ _ _ => False) D2 (.ref (([(f 26), (f 27), (f 28), (f 29), (f 30), (f 31), (f 32), (f 33), (f 21), (f 34), (f 22), (f 23), (f 24), (f 35), (f 25), (f 36)] : List Addr).getD n 0)) (some dd) σ (upd H dd (.xd [(x, v1)])) := fun x dd hx hd =>
    ⟨true, exmsIn_at T.x16 hn, fun _ q _ o hz hf => err_suite (ts := tsTk1 K ([(f 26), (f 27), (f 28), (f 29), (f 30), (f 31), (f 32), (f 33), (f 21), (f 34), (f 22), (f 23), (f 24), (f 35), (f 25), (f 36)] : List Addr) (q, o)) j st hd i1 (fun _ => suiteF l16 hn hx hz hf rk) fun v' H' a g r i => rt v' H' a g r i, fun z => nomatch z⟩
  have wN : fldE[n]? = some none → wAnyT K [.ref (f 37), .ref (f 34), .ref (f 22), .ref (f 23), .ref (f 24), .ref (f 35), .ref (f 25), .ref (f 36)] 2 (tsTk K ([(f 26), (f 27), (f 28), (f 29), (f 30), (f 31), (f 32), (f 33), (f 21), (f 34), (f 22), (f 23), (f 24), (f 35), (f 25), (f 36)] : List Addr)) (fun _ _ _ _ => False) D2 (.ref (([(f 26), (f 27), (f 28), (f 29), (f 30), (f 31), (f 32), (f 33), (f 21), (f 34), (f 22), (f 23), (f 24), (f 35), (f 25), (f 36)] : List Addr).getD n 0)) none σ H := fun hx =>
    ⟨true, exmsIn_at T.x16 hn, fun _ q _ o hz hf => suiteN l16 hn hx hz hf rk _ H j (st.set (a := .v (.ref q)) 2 rfl) (goneAt 2 D2) (fun _ _ _ _ _ z => z.elim) (fun v' H' a g r i => rt v' H' a g r i) (fun _ _ _ _ _ z => z.elim) (fun _ _ _ _ _ z => z.elim), fun z => nomatch z⟩
  have cs16 : n = 0 ∨ n = 1 ∨ n = 2 ∨ n = 3 ∨ n = 4 ∨ n = 5 ∨ n = 6 ∨ n = 7 ∨ n = 8 ∨ n = 9 ∨ n = 10 ∨ n = 11 ∨ n = 12 ∨ n = 13 ∨ n = 14 ∨ n = 15 := by omega
  refine ⟨_, e0, _, e1, n, v1, rfl, fun i c fo hi hc => ?_, fun h9 => ⟨_, e0, _, e1, n, v1, rfl, fun i c fo hi hc => ?_, fun h => ?_⟩⟩
  · rw [Nat.zero_add] at hi
    subst hi
    rcases cs16 with rfl | rfl | rfl | rfl | rfl | rfl | rfl | rfl | rfl | rfl | rfl | rfl | rfl | rfl | rfl | rfl
    all_goals (cases hc <;> first | exact wN rfl | exact fun d hd => wF _ d rfl hd)
  · rcases cs16 with rfl | rfl | rfl | rfl | rfl | rfl | rfl | rfl | rfl | rfl | rfl | rfl | rfl | rfl | rfl | rfl
    all_goals first
      | (exfalso; omega)
      | (obtain rfl : i = 0 := by omega
         cases hc
         first | exact wN rfl | exact fun d hd => wF _ d rfl hd)
      | (obtain rfl : i = 1 := by omega
         cases hc
         first | exact wN rfl | exact fun d hd => wF _ d rfl hd)
      | (obtain rfl : i = 2 := by omega
         cases hc
         first | exact wN rfl | exact fun d hd => wF _ d rfl hd)
      | (obtain rfl : i = 3 := by omega
         cases hc
         first | exact wN rfl | exact fun d hd => wF _ d rfl hd)
      | (obtain rfl : i = 4 := by omega
         cases hc
         first | exact wN rfl | exact fun d hd => wF _ d rfl hd)
      | (obtain rfl : i = 5 := by omega
         cases hc
         first | exact wN rfl | exact fun d hd => wF _ d rfl hd)
      | (obtain rfl : i = 6 := by omega
         cases hc
         first | exact wN rfl | exact fun d hd => wF _ d rfl hd)
  · simp only [List.length_cons, List.length_nil] at h h9
    omega

section
variable {K : PySem.W.Frag} {W : Wd} {Δ : Env} {ts : TS} {N : Env → Prop} {Rt : A → Prop} {Bk Ct : Env → Prop}
theorem xs_poolC {s i : Nat} {ns : List Int} {n : Int} {E : XK} (hs : Δ[s]? = some (some (.s ns))) (hl : ns.length ≤ 63) (h0 : 0 ≤ n) (h1 : n < 1000)
    (h : ∀ p, ¬ W.M p → XS K (W.add p isPool) ts (Δ.set i (some (.v (.ref p)))) N Rt Bk Ct) : XS K W (tSeq (tAsg (tCall (spPool K) [] E (tCons (tVar s) (tCons (tC (.int n)) tNil))) (gName i)) ts) Δ N Rt Bk Ct := fun σ H j st D nx rt bk ct => by
  obtain ⟨v1, e1, a, rfl, sq⟩ := st.get s _ hs
  refine ⟨_, e1, a, ns, n, rfl, sqL_le sq, hl, h0, h1, fun p H1 sm np hp => ?_⟩
  obtain ⟨u, hu, pu⟩ := hp
  have m : ¬ W.M p := W.fresh j np
  have keepM : ∀ b, W.M b → H1 b = H b := fun b mb => by
    cases z : H b with
    | none => exact absurd z (W.live H b j mb)
    | some o => exact sm b o z
  have j1 : W.J H1 := W.loc H H1 keepM j
  have fp : Fr W H H1 := .of_same sm j1
  have sI : Same (hid W.M H) (hid (W.add p isPool).M H1) := same_in fp np
  have stp : StOk K (W.add p isPool).M H1 (σ.set i (some (.ref p))) (Δ.set i (some (.v (.ref p)))) := (st.ext sI).set i rfl
  have back : ∀ {H2 : Hp}, Fr (W.add p isPool) H1 H2 → Fr W H H2 := fun {H2} f => ⟨fun a o nm e => f.keep a o (fun z => z.elim nm (ne_of_none e np)) (sm a o e), f.j.1⟩
  exact h p m _ H1 ⟨j1, u, hu, pu⟩ stp D (fun σ' H' Δ' f s' q => nx σ' H' Δ' (back f) (s'.ext hid_add_le) q) (fun v H' a f r i => rt v H' a (back f) r (i.ext hid_add_le))
    (fun σ' H' Δ' f s' q => bk σ' H' Δ' (back f) (s'.ext hid_add_le) q) fun σ' H' Δ' f s' q => ct σ' H' Δ' (back f) (s'.ext hid_add_le) q
end
def some9 : List PyData := [.none, .int 7, .str "word", .tuple [.str "box", .int 1], .list [.tuple [.str "letter", .str "a"]], .dict [], .bool true, .int (10 ^ 20), .tuple [.str "hand", .int 0]]
def reprOkB (d : PyData) : Bool := d.showable && decide (d.depth ≤ 50) && ((!d.hasDict && decide (wt d ≤ 10000)) || (isRefD d && decide (wtA d ≤ 10000)))
theorem reprOkB_ok {d : PyData} (h : reprOkB d = true) : ReprOk d := by
  unfold reprOkB at h
  simp only [Bool.and_eq_true, Bool.or_eq_true, Bool.not_eq_true', decide_eq_true_eq] at h
  exact ⟨h.1.1, h.1.2, h.2⟩
theorem some9_all : some9.all reprOkB = true := by decide +kernel
theorem some9_ok {d : PyData} (h : d ∈ some9) : ReprOk d := reprOkB_ok (List.all_eq_true.mp some9_all d h)
def sp_law (K : PySem.W.Frag) : Sp := fun vs H Q _ => ∃ (a : Addr) (ns : List Int), vs = [.ref a] ∧ SqL K H a (ns.map V.int) ∧ ns.length ≤ 63 ∧ ∀ H', Q (.bl true) H'
theorem ok_law (T : Top K mg f fd) (lv : Live base) : FnG P w K mg base CX0 15 (f 20) (fd 20) ["_law_script"] (sp_law K) := by
  refine okG0 T.F_law sc_law (fun vs H Q E h => ?_) (fun cdv Ar outer s H vs Q E hr ng h => ?_)
  · obtain ⟨_, _, rfl, _⟩ := h
    rfl
  refine ⟨_, (pss_cons (ps_set (i := 1) sc_law.nd rfl (Or.inl rfl) (pe_call (ok_l_pool T) (hr.mono (by omega)) (by rfl) T.g_l_pool T.F_l_pool.kp (b_l_pool T) .nil pass0 (pa_cons (pv 0) (pa_cons pe_int pa_nil))))
      (pss_cons (ps_set (i := 2) sc_law.nd rfl (Or.inl rfl) (pe_lst (pa_cons pe_non (pa_cons pe_int (pa_cons pe_str (pa_cons (pe_tup (pa_cons pe_str (pa_cons pe_int pa_nil))) (pa_cons (pe_lst (pa_cons (pe_tup (pa_cons pe_str (pa_cons pe_str pa_nil))) pa_nil)) (pa_cons pe_dnewK (pa_cons pe_bl (pa_cons (pe_op o_pow pe_int pe_int) (pa_cons (pe_tup (pa_cons pe_str (pa_cons pe_int pa_nil))) pa_nil)))))))))))
      (pss_cons (ps_set (i := 3) sc_law.nd rfl (Or.inl rfl) (pe_call (ok_l_take T) (hr.mono (by omega)) (by rfl) T.g_l_take T.F_l_take.kp (b_l_take T) .nil pass0 (pa_cons (pv 1) (pa_cons pe_int pa_nil))))
      (pss_cons (ps_for PassesOwn.never rfl (pi_list (pe_op op_cat (pe_slice sl_list (pv 2) (po_some (pv 3)) po_none) (pe_slice sl_list (pv 2) po_none (po_some (pv 3))))) (pg_name (i := 4) sc_law.nd rfl (Or.inl rfl)) (pss_one (ps_for PassesOwn.never rfl (pi_range1 (by rfl) T.z_range (pa_cons pe_int pa_nil)) (pg_name (i := 5) sc_law.nd rfl (Or.inl rfl)) (pss_one (ps_if (pt_not (pt_val (pe_callG (ok_l_taken T lv) hr ng (by rfl) T.g_l_taken T.F_l_taken.kp (b_l_taken T) .nil pass0 (pa_cons (pv 5) (pa_cons (pv 4) pa_nil))))) (pss_one (ps_ret pe_bl)) pss_nil)))))
      (pss_one (ps_ret pe_bl)))))), ?_⟩
  obtain ⟨a, ns, rfl, hS, hl, q⟩ := h
  refine run_law hS q ?_
  let k0 : Option A := some (.s ns)
  refine xs_poolC rfl hl (by decide) (by decide) fun p mp => ?_
  have hp : HasPool (W0.add p isPool) p := hasPool_new mp
  generalize hW : W0.add p isPool = W at hp
  let k1 : Option A := some (.v (.ref p))
  let k2 : Option A := some (.d (.list some9))
  let S : Option A → Option A → Option A → Env := fun b c d => [k0, k1, k2, b, c, d]
  refine xs_seq (N1 := fun Δ => Δ = S none none none) (xs_set (xe_lst (ds := some9) (xa_cons xe_non (xa_cons xe_int (xa_cons xe_str (xa_cons (xe_tup (ds := [.str "box", .int 1]) (xa_cons xe_str (xa_cons xe_int xa_nil))) (xa_cons (xe_lst (ds := [.tuple [.str "letter", .str "a"]]) (xa_cons (xe_tup (ds := [.str "letter", .str "a"]) (xa_cons xe_str (xa_cons xe_str xa_nil))) xa_nil)) (xa_cons xe_dnew (xa_cons xe_bl (xa_cons (xe_op xe_int xe_int (ox_pow ⟨by decide, by decide, by decide⟩)) (xa_cons (xe_tup (ds := [.str "hand", .int 0]) (xa_cons xe_str (xa_cons xe_int xa_nil))) xa_nil))))))))) (by decide)) rfl) ?_
  rintro Δ' rfl
  refine xs_seq (N1 := fun Δ => ∃ m : Int, (0 ≤ m ∧ m < 9) ∧ Δ = S (some (.d (.int m))) none none) (xs_setR (xe_take (i := 1) rfl hp xe_int (by decide) (by decide)) fun a ⟨m, e, hm⟩ => ⟨m, hm, by rw [e]; rfl⟩) ?_
  rintro Δ' ⟨m, ⟨m0, m1⟩, rfl⟩
  let k3 : Option A := some (.d (.int m))
  refine xs_seq (N1 := fun _ => True) ?_ fun Δ _ => xs_ret xe_bl fun a e => e
  refine xs_forP (γ := List PyData) (g := gName 4) (fun _ _ _ Δ => ∃ b c, Δ = S k3 b c) (xip_list (P := fun xs => ∀ d ∈ xs, d ∈ some9) (XE.mono (xe_op (xe_slFrom (xe_var (i := 2) rfl) (xe_var (i := 3) rfl) m0) (xe_slTo (xe_var (i := 2) rfl) (xe_var (i := 3) rfl) m0) (ox_cat ?_)) fun a e => ⟨_, ?_, e⟩)) (fun _ _ _ => ⟨_, _, rfl⟩) ?_ fun _ _ _ _ _ => trivial
  · rw [List.length_drop, List.length_take]
    have l : some9.length = 9 := rfl
    omega
  · intro d hd
    rcases List.mem_append.mp hd with hd | hd
    · exact List.mem_of_mem_drop hd
    · exact List.mem_of_mem_take hd
  rintro ds n i a Δ1 ⟨hds, rfl⟩ hi ⟨d, hd, rfl⟩ ⟨b, c, rfl⟩
  have rk := some9_ok (hds d (List.mem_of_getElem? hd))
  refine ⟨_, gx_name, xs_for (g := gName 5) (fun _ _ Δ => ∃ c, Δ = S k3 (some (.d d)) c) (xi_rngL (n := 16) xe_int (by decide)) (fun _ _ => ⟨_, rfl⟩) ?_ fun _ _ _ ⟨c, e⟩ => ⟨_, c, e⟩⟩
  rintro n2 i2 a2 Δ2 hn2 hi2 ⟨d2, hd2, rfl⟩ ⟨c2, rfl⟩
  have l2 : i2 < 16 := by
    have z : n2 = 16 := by rw [hn2]; simp
    omega
  have e2 : d2 = .int (i2 : Int) := by
    rw [List.getElem?_map, List.getElem?_range l2] at hd2
    exact (Option.some.inj hd2).symm
  subst e2
  exact ⟨_, gx_name, xs_if (b := false) (XT.is (xt_not (xt_B (XE.mono (xe_call (pre := pre_l_taken K) (post := post_l_taken) (E := E0) (xa_cons (xe_var (i := 5) rfl) (xa_cons (xe_var (i := 4) rfl) xa_nil)) ⟨i2, d, rfl, l2, rk⟩) fun a e => e))) rfl) (fun z => nomatch z) fun _ => xs_next ⟨_, rfl⟩⟩


end
/-! ### what the top leaves -/
theorem all_mk {l : PySem.W.OpenLaw} {w : World} {K : PySem.W.Frag} {h : Heap} {mg : Str → Option Value} {fa f0 f1 f2 f3 f4 f5 f6 f7 f8 f9 f10 f11 f12 f13 f14 f15 f16 f17 f18 f19 f20 C21 C22 C23 C24 C25 C26 C27 C28 C29 C30 C31 C32 C33 C34 C35 C36 C37 : Addr} (X : K.In h) (G : h.Ns mainGlobals mg) (hfa : mg "law" = some (.ref fa))
    {od0 an0 od1 an1 od2 an2 od3 an3 od4 an4 od5 an5 od6 an6 od7 an7 od8 an8 od9 an9 od10 an10 od11 an11 od12 an12 od13 an13 od14 an14 od15 an15 od16 an16 od17 an17 od18 an18 od19 an19 od20 an20 : Option Addr} {sl0 sl1 sl2 sl3 sl4 sl5 sl6 sl7 sl8 sl9 sl10 sl11 sl12 sl13 sl14 sl15 sl16 sl17 sl18 sl19 sl20 : Array (Option Value)} {oc0 kV0 dc0 pm0 cd0 ct0 oc1 kV1 dc1 pm1 cd1 ct1 oc2 kV2 dc2 pm2 cd2 ct2 oc3 kV3 dc3 pm3 cd3 ct3 oc4 kV4 dc4 pm4 cd4 ct4 oc5 kV5 dc5 pm5 cd5 ct5 oc6 kV6 dc6 pm6 cd6 ct6 oc7 kV7 dc7 pm7 cd7 ct7 oc8 kV8 dc8 pm8 cd8 ct8 oc9 kV9 dc9 pm9 cd9 ct9 oc10 kV10 dc10 pm10 cd10 ct10 oc11 kV11 dc11 pm11 cd11 ct11 oc12 kV12 dc12 pm12 cd12 ct12 oc13 kV13 dc13 pm13 cd13 ct13 oc14 kV14 dc14 pm14 cd14 ct14 oc15 kV15 dc15 pm15 cd15 ct15 oc16 kV16 dc16 pm16 cd16 ct16 oc17 kV17 dc17 pm17 cd17 ct17 oc18 kV18 dc18 pm18 cd18 ct18 oc19 kV19 dc19 pm19 cd19 ct19 oc20 kV20 dc20 pm20 cd20 ct20 : Value}
    (aC37 : PySem.W.nsIn K mainGlobals "MouthError" = some (some (.ref C37)))
    (aC21 : PySem.W.nsIn K mainGlobals "NoRow" = some (some (.ref C21)))
    (xx21 : PySem.W.excIn K C21 [.type "ValueError", .type "Exception", .type "BaseException", .type "object"] "ValueError.__new__" = true)
    (xk21 : PySem.W.keepIn K (.ref C21) = true)
    (xb21 : PySem.W.subIn K (.ref C21) (.type "BaseException") = some true)
    (xt21 : PySem.W.typeIn K (.ref C21) = some (.type "type"))
    (xi21 : PySem.W.isClsIn K C21 = true)
    (xs21 : PySem.W.subIn K (.ref C21) (.ref C21) = some true)
    (xg21 : PySem.W.findIn K (.ref C21) "__getattribute__" = some (some (.builtin "BaseException.__getattribute__")))
    (xh21 : PySem.W.findIn K (.ref C21) "__getattr__" = some none)
    (xd21 : PySem.W.hasDictIn K C21 = true)
    (xa21 : PySem.W.findIn K (.ref C21) "__class__" = some (some (.builtin "object.__class__")))
    (xn21 : PySem.W.specialIn K (.builtin "object.__class__") "__get__" = some (some (.builtin "getset_descriptor.__get__")))
    (xu21 : PySem.W.takesIn K (.builtin "object.__class__") = some true)
    (xm21 : PySem.W.mroIn K C21 (.type "object") = some true)
    (xr21 : PySem.W.kitOne K (.ref C21) (.type "ValueError") = some true)
    (aC22 : PySem.W.nsIn K mainGlobals "Ends" = some (some (.ref C22)))
    (xx22 : PySem.W.excIn K C22 [.type "RuntimeError", .type "Exception", .type "BaseException", .type "object"] "RuntimeError.__new__" = true)
    (xk22 : PySem.W.keepIn K (.ref C22) = true)
    (xb22 : PySem.W.subIn K (.ref C22) (.type "BaseException") = some true)
    (xt22 : PySem.W.typeIn K (.ref C22) = some (.type "type"))
    (xi22 : PySem.W.isClsIn K C22 = true)
    (xs22 : PySem.W.subIn K (.ref C22) (.ref C22) = some true)
    (xg22 : PySem.W.findIn K (.ref C22) "__getattribute__" = some (some (.builtin "BaseException.__getattribute__")))
    (xh22 : PySem.W.findIn K (.ref C22) "__getattr__" = some none)
    (xd22 : PySem.W.hasDictIn K C22 = true)
    (xa22 : PySem.W.findIn K (.ref C22) "__class__" = some (some (.builtin "object.__class__")))
    (xn22 : PySem.W.specialIn K (.builtin "object.__class__") "__get__" = some (some (.builtin "getset_descriptor.__get__")))
    (xu22 : PySem.W.takesIn K (.builtin "object.__class__") = some true)
    (xm22 : PySem.W.mroIn K C22 (.type "object") = some true)
    (xr22 : PySem.W.kitOne K (.ref C22) (.type "RuntimeError") = some true)
    (aC23 : PySem.W.nsIn K mainGlobals "Shut" = some (some (.ref C23)))
    (xx23 : PySem.W.excIn K C23 [.type "RuntimeError", .type "Exception", .type "BaseException", .type "object"] "RuntimeError.__new__" = true)
    (xk23 : PySem.W.keepIn K (.ref C23) = true)
    (xb23 : PySem.W.subIn K (.ref C23) (.type "BaseException") = some true)
    (xt23 : PySem.W.typeIn K (.ref C23) = some (.type "type"))
    (xi23 : PySem.W.isClsIn K C23 = true)
    (xs23 : PySem.W.subIn K (.ref C23) (.ref C23) = some true)
    (xg23 : PySem.W.findIn K (.ref C23) "__getattribute__" = some (some (.builtin "BaseException.__getattribute__")))
    (xh23 : PySem.W.findIn K (.ref C23) "__getattr__" = some none)
    (xd23 : PySem.W.hasDictIn K C23 = true)
    (xa23 : PySem.W.findIn K (.ref C23) "__class__" = some (some (.builtin "object.__class__")))
    (xn23 : PySem.W.specialIn K (.builtin "object.__class__") "__get__" = some (some (.builtin "getset_descriptor.__get__")))
    (xu23 : PySem.W.takesIn K (.builtin "object.__class__") = some true)
    (xm23 : PySem.W.mroIn K C23 (.type "object") = some true)
    (xr23 : PySem.W.kitOne K (.ref C23) (.type "RuntimeError") = some true)
    (aC24 : PySem.W.nsIn K mainGlobals "Busy" = some (some (.ref C24)))
    (xx24 : PySem.W.excIn K C24 [.type "RuntimeError", .type "Exception", .type "BaseException", .type "object"] "RuntimeError.__new__" = true)
    (xk24 : PySem.W.keepIn K (.ref C24) = true)
    (xb24 : PySem.W.subIn K (.ref C24) (.type "BaseException") = some true)
    (xt24 : PySem.W.typeIn K (.ref C24) = some (.type "type"))
    (xi24 : PySem.W.isClsIn K C24 = true)
    (xs24 : PySem.W.subIn K (.ref C24) (.ref C24) = some true)
    (xg24 : PySem.W.findIn K (.ref C24) "__getattribute__" = some (some (.builtin "BaseException.__getattribute__")))
    (xh24 : PySem.W.findIn K (.ref C24) "__getattr__" = some none)
    (xd24 : PySem.W.hasDictIn K C24 = true)
    (xa24 : PySem.W.findIn K (.ref C24) "__class__" = some (some (.builtin "object.__class__")))
    (xn24 : PySem.W.specialIn K (.builtin "object.__class__") "__get__" = some (some (.builtin "getset_descriptor.__get__")))
    (xu24 : PySem.W.takesIn K (.builtin "object.__class__") = some true)
    (xm24 : PySem.W.mroIn K C24 (.type "object") = some true)
    (xr24 : PySem.W.kitOne K (.ref C24) (.type "RuntimeError") = some true)
    (aC25 : PySem.W.nsIn K mainGlobals "Bare" = some (some (.ref C25)))
    (xx25 : PySem.W.excIn K C25 [.type "LookupError", .type "Exception", .type "BaseException", .type "object"] "LookupError.__new__" = true)
    (xk25 : PySem.W.keepIn K (.ref C25) = true)
    (xb25 : PySem.W.subIn K (.ref C25) (.type "BaseException") = some true)
    (xt25 : PySem.W.typeIn K (.ref C25) = some (.type "type"))
    (xi25 : PySem.W.isClsIn K C25 = true)
    (xs25 : PySem.W.subIn K (.ref C25) (.ref C25) = some true)
    (xg25 : PySem.W.findIn K (.ref C25) "__getattribute__" = some (some (.builtin "BaseException.__getattribute__")))
    (xh25 : PySem.W.findIn K (.ref C25) "__getattr__" = some none)
    (xd25 : PySem.W.hasDictIn K C25 = true)
    (xa25 : PySem.W.findIn K (.ref C25) "__class__" = some (some (.builtin "object.__class__")))
    (xn25 : PySem.W.specialIn K (.builtin "object.__class__") "__get__" = some (some (.builtin "getset_descriptor.__get__")))
    (xu25 : PySem.W.takesIn K (.builtin "object.__class__") = some true)
    (xm25 : PySem.W.mroIn K C25 (.type "object") = some true)
    (xr25 : PySem.W.kitOne K (.ref C25) (.type "LookupError") = some true)
    (aC26 : PySem.W.nsIn K mainGlobals "NoKinds" = some (some (.ref C26)))
    {e26nm : Str} {e26qn : Str} {e26N : Addr} {e26bs : List Value} {e26sn : List Str} {e26sub : List Value} {e26ab : Bool} {e26col : Option Bool} {e26dd : Option Addr} {e26ka : Option Value} {e26kb : Option Value} {e26kc : Option Value} {e26kd : Option Value} {e26ke : Option Value} (lk26 : K.lookup C26 = some (excClassObj e26nm e26qn C26 e26N e26bs [.ref C37, .type "ValueError", .type "Exception", .type "BaseException", .type "object"] true e26sn e26sub e26ab e26col e26dd e26ka e26kb e26kc e26kd e26ke "ValueError.__new__"))
    (esa26 : PySem.W.findIn K (.ref C26) "__setattr__" = some (some (.builtin "object.__setattr__")))
    (eex26 : PySem.W.subIn K (.ref C26) (.type "BaseException") = some true)
    (ety26 : PySem.W.typeIn K (.ref C26) = some (.type "type"))
    (ekc26 : PySem.W.keepIn K (.ref C26) = true)
    (eno26 : PySem.W.findIn K (.ref C26) "thing" = some none)
    (xi26 : PySem.W.isClsIn K C26 = true)
    (xs26 : PySem.W.subIn K (.ref C26) (.ref C26) = some true)
    (exg26 : PySem.W.findIn K (.ref C26) "__getattribute__" = some (some (.builtin "BaseException.__getattribute__")))
    (exh26 : PySem.W.findIn K (.ref C26) "__getattr__" = some none)
    (exd26 : PySem.W.hasDictIn K C26 = true)
    (xr26 : PySem.W.kitOne K (.ref C26) (.type "ValueError") = some true)
    (aC27 : PySem.W.nsIn K mainGlobals "NoSign" = some (some (.ref C27)))
    {e27nm : Str} {e27qn : Str} {e27N : Addr} {e27bs : List Value} {e27sn : List Str} {e27sub : List Value} {e27ab : Bool} {e27col : Option Bool} {e27dd : Option Addr} {e27ka : Option Value} {e27kb : Option Value} {e27kc : Option Value} {e27kd : Option Value} {e27ke : Option Value} (lk27 : K.lookup C27 = some (excClassObj e27nm e27qn C27 e27N e27bs [.ref C37, .type "ValueError", .type "Exception", .type "BaseException", .type "object"] true e27sn e27sub e27ab e27col e27dd e27ka e27kb e27kc e27kd e27ke "ValueError.__new__"))
    (esa27 : PySem.W.findIn K (.ref C27) "__setattr__" = some (some (.builtin "object.__setattr__")))
    (eex27 : PySem.W.subIn K (.ref C27) (.type "BaseException") = some true)
    (ety27 : PySem.W.typeIn K (.ref C27) = some (.type "type"))
    (ekc27 : PySem.W.keepIn K (.ref C27) = true)
    (eno27 : PySem.W.findIn K (.ref C27) "sign" = some none)
    (xi27 : PySem.W.isClsIn K C27 = true)
    (xs27 : PySem.W.subIn K (.ref C27) (.ref C27) = some true)
    (exg27 : PySem.W.findIn K (.ref C27) "__getattribute__" = some (some (.builtin "BaseException.__getattribute__")))
    (exh27 : PySem.W.findIn K (.ref C27) "__getattr__" = some none)
    (exd27 : PySem.W.hasDictIn K C27 = true)
    (xr27 : PySem.W.kitOne K (.ref C27) (.type "ValueError") = some true)
    (aC28 : PySem.W.nsIn K mainGlobals "NoKey" = some (some (.ref C28)))
    {e28nm : Str} {e28qn : Str} {e28N : Addr} {e28bs : List Value} {e28sn : List Str} {e28sub : List Value} {e28ab : Bool} {e28col : Option Bool} {e28dd : Option Addr} {e28ka : Option Value} {e28kb : Option Value} {e28kc : Option Value} {e28kd : Option Value} {e28ke : Option Value} (lk28 : K.lookup C28 = some (excClassObj e28nm e28qn C28 e28N e28bs [.ref C37, .type "ValueError", .type "Exception", .type "BaseException", .type "object"] true e28sn e28sub e28ab e28col e28dd e28ka e28kb e28kc e28kd e28ke "ValueError.__new__"))
    (esa28 : PySem.W.findIn K (.ref C28) "__setattr__" = some (some (.builtin "object.__setattr__")))
    (eex28 : PySem.W.subIn K (.ref C28) (.type "BaseException") = some true)
    (ety28 : PySem.W.typeIn K (.ref C28) = some (.type "type"))
    (ekc28 : PySem.W.keepIn K (.ref C28) = true)
    (eno28 : PySem.W.findIn K (.ref C28) "key" = some none)
    (xi28 : PySem.W.isClsIn K C28 = true)
    (xs28 : PySem.W.subIn K (.ref C28) (.ref C28) = some true)
    (exg28 : PySem.W.findIn K (.ref C28) "__getattribute__" = some (some (.builtin "BaseException.__getattribute__")))
    (exh28 : PySem.W.findIn K (.ref C28) "__getattr__" = some none)
    (exd28 : PySem.W.hasDictIn K C28 = true)
    (xr28 : PySem.W.kitOne K (.ref C28) (.type "ValueError") = some true)
    (aC29 : PySem.W.nsIn K mainGlobals "NoWorth" = some (some (.ref C29)))
    {e29nm : Str} {e29qn : Str} {e29N : Addr} {e29bs : List Value} {e29sn : List Str} {e29sub : List Value} {e29ab : Bool} {e29col : Option Bool} {e29dd : Option Addr} {e29ka : Option Value} {e29kb : Option Value} {e29kc : Option Value} {e29kd : Option Value} {e29ke : Option Value} (lk29 : K.lookup C29 = some (excClassObj e29nm e29qn C29 e29N e29bs [.ref C37, .type "ValueError", .type "Exception", .type "BaseException", .type "object"] true e29sn e29sub e29ab e29col e29dd e29ka e29kb e29kc e29kd e29ke "ValueError.__new__"))
    (esa29 : PySem.W.findIn K (.ref C29) "__setattr__" = some (some (.builtin "object.__setattr__")))
    (eex29 : PySem.W.subIn K (.ref C29) (.type "BaseException") = some true)
    (ety29 : PySem.W.typeIn K (.ref C29) = some (.type "type"))
    (ekc29 : PySem.W.keepIn K (.ref C29) = true)
    (eno29 : PySem.W.findIn K (.ref C29) "thing" = some none)
    (xi29 : PySem.W.isClsIn K C29 = true)
    (xs29 : PySem.W.subIn K (.ref C29) (.ref C29) = some true)
    (exg29 : PySem.W.findIn K (.ref C29) "__getattribute__" = some (some (.builtin "BaseException.__getattribute__")))
    (exh29 : PySem.W.findIn K (.ref C29) "__getattr__" = some none)
    (exd29 : PySem.W.hasDictIn K C29 = true)
    (xr29 : PySem.W.kitOne K (.ref C29) (.type "ValueError") = some true)
    (aC30 : PySem.W.nsIn K mainGlobals "NoText" = some (some (.ref C30)))
    {e30nm : Str} {e30qn : Str} {e30N : Addr} {e30bs : List Value} {e30sn : List Str} {e30sub : List Value} {e30ab : Bool} {e30col : Option Bool} {e30dd : Option Addr} {e30ka : Option Value} {e30kb : Option Value} {e30kc : Option Value} {e30kd : Option Value} {e30ke : Option Value} (lk30 : K.lookup C30 = some (excClassObj e30nm e30qn C30 e30N e30bs [.ref C37, .type "ValueError", .type "Exception", .type "BaseException", .type "object"] true e30sn e30sub e30ab e30col e30dd e30ka e30kb e30kc e30kd e30ke "ValueError.__new__"))
    (esa30 : PySem.W.findIn K (.ref C30) "__setattr__" = some (some (.builtin "object.__setattr__")))
    (eex30 : PySem.W.subIn K (.ref C30) (.type "BaseException") = some true)
    (ety30 : PySem.W.typeIn K (.ref C30) = some (.type "type"))
    (ekc30 : PySem.W.keepIn K (.ref C30) = true)
    (eno30 : PySem.W.findIn K (.ref C30) "thing" = some none)
    (xi30 : PySem.W.isClsIn K C30 = true)
    (xs30 : PySem.W.subIn K (.ref C30) (.ref C30) = some true)
    (exg30 : PySem.W.findIn K (.ref C30) "__getattribute__" = some (some (.builtin "BaseException.__getattribute__")))
    (exh30 : PySem.W.findIn K (.ref C30) "__getattr__" = some none)
    (exd30 : PySem.W.hasDictIn K C30 = true)
    (xr30 : PySem.W.kitOne K (.ref C30) (.type "ValueError") = some true)
    (aC31 : PySem.W.nsIn K mainGlobals "NoTexts" = some (some (.ref C31)))
    {e31nm : Str} {e31qn : Str} {e31N : Addr} {e31bs : List Value} {e31sn : List Str} {e31sub : List Value} {e31ab : Bool} {e31col : Option Bool} {e31dd : Option Addr} {e31ka : Option Value} {e31kb : Option Value} {e31kc : Option Value} {e31kd : Option Value} {e31ke : Option Value} (lk31 : K.lookup C31 = some (excClassObj e31nm e31qn C31 e31N e31bs [.ref C37, .type "ValueError", .type "Exception", .type "BaseException", .type "object"] true e31sn e31sub e31ab e31col e31dd e31ka e31kb e31kc e31kd e31ke "ValueError.__new__"))
    (esa31 : PySem.W.findIn K (.ref C31) "__setattr__" = some (some (.builtin "object.__setattr__")))
    (eex31 : PySem.W.subIn K (.ref C31) (.type "BaseException") = some true)
    (ety31 : PySem.W.typeIn K (.ref C31) = some (.type "type"))
    (ekc31 : PySem.W.keepIn K (.ref C31) = true)
    (eno31 : PySem.W.findIn K (.ref C31) "thing" = some none)
    (xi31 : PySem.W.isClsIn K C31 = true)
    (xs31 : PySem.W.subIn K (.ref C31) (.ref C31) = some true)
    (exg31 : PySem.W.findIn K (.ref C31) "__getattribute__" = some (some (.builtin "BaseException.__getattribute__")))
    (exh31 : PySem.W.findIn K (.ref C31) "__getattr__" = some none)
    (exd31 : PySem.W.hasDictIn K C31 = true)
    (xr31 : PySem.W.kitOne K (.ref C31) (.type "ValueError") = some true)
    (aC32 : PySem.W.nsIn K mainGlobals "NoMost" = some (some (.ref C32)))
    {e32nm : Str} {e32qn : Str} {e32N : Addr} {e32bs : List Value} {e32sn : List Str} {e32sub : List Value} {e32ab : Bool} {e32col : Option Bool} {e32dd : Option Addr} {e32ka : Option Value} {e32kb : Option Value} {e32kc : Option Value} {e32kd : Option Value} {e32ke : Option Value} (lk32 : K.lookup C32 = some (excClassObj e32nm e32qn C32 e32N e32bs [.ref C37, .type "ValueError", .type "Exception", .type "BaseException", .type "object"] true e32sn e32sub e32ab e32col e32dd e32ka e32kb e32kc e32kd e32ke "ValueError.__new__"))
    (esa32 : PySem.W.findIn K (.ref C32) "__setattr__" = some (some (.builtin "object.__setattr__")))
    (eex32 : PySem.W.subIn K (.ref C32) (.type "BaseException") = some true)
    (ety32 : PySem.W.typeIn K (.ref C32) = some (.type "type"))
    (ekc32 : PySem.W.keepIn K (.ref C32) = true)
    (eno32 : PySem.W.findIn K (.ref C32) "most" = some none)
    (xi32 : PySem.W.isClsIn K C32 = true)
    (xs32 : PySem.W.subIn K (.ref C32) (.ref C32) = some true)
    (exg32 : PySem.W.findIn K (.ref C32) "__getattribute__" = some (some (.builtin "BaseException.__getattribute__")))
    (exh32 : PySem.W.findIn K (.ref C32) "__getattr__" = some none)
    (exd32 : PySem.W.hasDictIn K C32 = true)
    (xr32 : PySem.W.kitOne K (.ref C32) (.type "ValueError") = some true)
    (aC33 : PySem.W.nsIn K mainGlobals "NoWriting" = some (some (.ref C33)))
    {e33nm : Str} {e33qn : Str} {e33N : Addr} {e33bs : List Value} {e33sn : List Str} {e33sub : List Value} {e33ab : Bool} {e33col : Option Bool} {e33dd : Option Addr} {e33ka : Option Value} {e33kb : Option Value} {e33kc : Option Value} {e33kd : Option Value} {e33ke : Option Value} (lk33 : K.lookup C33 = some (excClassObj e33nm e33qn C33 e33N e33bs [.ref C37, .type "ValueError", .type "Exception", .type "BaseException", .type "object"] true e33sn e33sub e33ab e33col e33dd e33ka e33kb e33kc e33kd e33ke "ValueError.__new__"))
    (esa33 : PySem.W.findIn K (.ref C33) "__setattr__" = some (some (.builtin "object.__setattr__")))
    (eex33 : PySem.W.subIn K (.ref C33) (.type "BaseException") = some true)
    (ety33 : PySem.W.typeIn K (.ref C33) = some (.type "type"))
    (ekc33 : PySem.W.keepIn K (.ref C33) = true)
    (eno33 : PySem.W.findIn K (.ref C33) "number" = some none)
    (xi33 : PySem.W.isClsIn K C33 = true)
    (xs33 : PySem.W.subIn K (.ref C33) (.ref C33) = some true)
    (exg33 : PySem.W.findIn K (.ref C33) "__getattribute__" = some (some (.builtin "BaseException.__getattribute__")))
    (exh33 : PySem.W.findIn K (.ref C33) "__getattr__" = some none)
    (exd33 : PySem.W.hasDictIn K C33 = true)
    (xr33 : PySem.W.kitOne K (.ref C33) (.type "ValueError") = some true)
    (aC34 : PySem.W.nsIn K mainGlobals "Fault" = some (some (.ref C34)))
    {e34nm : Str} {e34qn : Str} {e34N : Addr} {e34bs : List Value} {e34sn : List Str} {e34sub : List Value} {e34ab : Bool} {e34col : Option Bool} {e34dd : Option Addr} {e34ka : Option Value} {e34kb : Option Value} {e34kc : Option Value} {e34kd : Option Value} {e34ke : Option Value} (lk34 : K.lookup C34 = some (excClassObj e34nm e34qn C34 e34N e34bs [.type "RuntimeError", .type "Exception", .type "BaseException", .type "object"] true e34sn e34sub e34ab e34col e34dd e34ka e34kb e34kc e34kd e34ke "RuntimeError.__new__"))
    (esa34 : PySem.W.findIn K (.ref C34) "__setattr__" = some (some (.builtin "object.__setattr__")))
    (eex34 : PySem.W.subIn K (.ref C34) (.type "BaseException") = some true)
    (ety34 : PySem.W.typeIn K (.ref C34) = some (.type "type"))
    (ekc34 : PySem.W.keepIn K (.ref C34) = true)
    (eno34 : PySem.W.findIn K (.ref C34) "word" = some none)
    (xi34 : PySem.W.isClsIn K C34 = true)
    (xs34 : PySem.W.subIn K (.ref C34) (.ref C34) = some true)
    (exg34 : PySem.W.findIn K (.ref C34) "__getattribute__" = some (some (.builtin "BaseException.__getattribute__")))
    (exh34 : PySem.W.findIn K (.ref C34) "__getattr__" = some none)
    (exd34 : PySem.W.hasDictIn K C34 = true)
    (xr34 : PySem.W.kitOne K (.ref C34) (.type "RuntimeError") = some true)
    (aC35 : PySem.W.nsIn K mainGlobals "NoName" = some (some (.ref C35)))
    {e35nm : Str} {e35qn : Str} {e35N : Addr} {e35bs : List Value} {e35sn : List Str} {e35sub : List Value} {e35ab : Bool} {e35col : Option Bool} {e35dd : Option Addr} {e35ka : Option Value} {e35kb : Option Value} {e35kc : Option Value} {e35kd : Option Value} {e35ke : Option Value} (lk35 : K.lookup C35 = some (excClassObj e35nm e35qn C35 e35N e35bs [.type "KeyError", .type "LookupError", .type "Exception", .type "BaseException", .type "object"] true e35sn e35sub e35ab e35col e35dd e35ka e35kb e35kc e35kd e35ke "LookupError.__new__"))
    (esa35 : PySem.W.findIn K (.ref C35) "__setattr__" = some (some (.builtin "object.__setattr__")))
    (eex35 : PySem.W.subIn K (.ref C35) (.type "BaseException") = some true)
    (ety35 : PySem.W.typeIn K (.ref C35) = some (.type "type"))
    (ekc35 : PySem.W.keepIn K (.ref C35) = true)
    (eno35 : PySem.W.findIn K (.ref C35) "name" = some none)
    (xi35 : PySem.W.isClsIn K C35 = true)
    (xs35 : PySem.W.subIn K (.ref C35) (.ref C35) = some true)
    (exg35 : PySem.W.findIn K (.ref C35) "__getattribute__" = some (some (.builtin "BaseException.__getattribute__")))
    (exh35 : PySem.W.findIn K (.ref C35) "__getattr__" = some none)
    (exd35 : PySem.W.hasDictIn K C35 = true)
    (xr35 : PySem.W.kitOne K (.ref C35) (.type "KeyError") = some true)
    (aC36 : PySem.W.nsIn K mainGlobals "TooMany" = some (some (.ref C36)))
    {e36nm : Str} {e36qn : Str} {e36N : Addr} {e36bs : List Value} {e36sn : List Str} {e36sub : List Value} {e36ab : Bool} {e36col : Option Bool} {e36dd : Option Addr} {e36ka : Option Value} {e36kb : Option Value} {e36kc : Option Value} {e36kd : Option Value} {e36ke : Option Value} (lk36 : K.lookup C36 = some (excClassObj e36nm e36qn C36 e36N e36bs [.type "OverflowError", .type "ArithmeticError", .type "Exception", .type "BaseException", .type "object"] true e36sn e36sub e36ab e36col e36dd e36ka e36kb e36kc e36kd e36ke "OverflowError.__new__"))
    (esa36 : PySem.W.findIn K (.ref C36) "__setattr__" = some (some (.builtin "object.__setattr__")))
    (eex36 : PySem.W.subIn K (.ref C36) (.type "BaseException") = some true)
    (ety36 : PySem.W.typeIn K (.ref C36) = some (.type "type"))
    (ekc36 : PySem.W.keepIn K (.ref C36) = true)
    (eno36 : PySem.W.findIn K (.ref C36) "many" = some none)
    (xi36 : PySem.W.isClsIn K C36 = true)
    (xs36 : PySem.W.subIn K (.ref C36) (.ref C36) = some true)
    (exg36 : PySem.W.findIn K (.ref C36) "__getattribute__" = some (some (.builtin "BaseException.__getattribute__")))
    (exh36 : PySem.W.findIn K (.ref C36) "__getattr__" = some none)
    (exd36 : PySem.W.hasDictIn K C36 = true)
    (xr36 : PySem.W.kitOne K (.ref C36) (.type "OverflowError") = some true)
    (xs_me_ga : PySem.W.specialIn K (.ref C37) "__getattribute__" = some (some (.builtin "type.__getattribute__")))
    (xs_me_rd : PySem.W.readsIn K C37 (.type "type") = true)
    (xs_me_in : PySem.W.findCls K (.ref C37) (.type "type") "__init__" = some (.val (.builtin "ValueError.__init__")))
    (xs_k16 : kitsIn K [C26, C27, C28, C29, C30, C31, C32, C33, C21, C34, C22, C23, C24, C35, C25, C36] = true)
    (xs_u16 : kitsUp K [C26, C27, C28, C29, C30, C31, C32, C33, C21, C34, C22, C23, C24, C35, C25, C36] [.ref C37, .type "ValueError", .type "RuntimeError", .type "KeyError", .type "LookupError", .type "OverflowError"] [[true, true, false, false, false, false], [true, true, false, false, false, false], [true, true, false, false, false, false], [true, true, false, false, false, false], [true, true, false, false, false, false], [true, true, false, false, false, false], [true, true, false, false, false, false], [true, true, false, false, false, false], [true, true, false, false, false, false], [false, false, true, false, false, false], [false, false, true, false, false, false], [false, false, true, false, false, false], [false, false, true, false, false, false], [false, false, false, true, true, false], [false, false, false, false, true, false], [false, false, false, false, false, true]] = true)
    (xs_c16 : excsOf K [C26, C27, C28, C29, C30, C31, C32, C33, C21, C34, C22, C23, C24, C35, C25, C36] = true)
    (xs_x16 : exmsIn K [C26, C27, C28, C29, C30, C31, C32, C33, C21, C34, C22, C23, C24, C35, C25, C36] [.ref C37, .ref C34, .ref C22, .ref C23, .ref C24, .ref C35, .ref C25, .ref C36] = true)
    (a0 : PySem.W.findIn K (.ref C26) "__init__" = some (some (.ref f0))) (i0 : PySem.W.isFn K (.ref f0) = true)
    (etI26 : PySem.W.typeIn K (.ref f0) = some (.type "function"))
    (l0 : K.lookup f0 = some ⟨oc0, od0, .func (PySem.W.fnOf "__init__" "NoKinds.__init__" (defArgs s_NoKinds_init) (defBody s_NoKinds_init) (defScope s_NoKinds_init) .none kV0 dc0 pm0 an0 cd0 ct0), sl0⟩)
    (c0 : PySem.W.codeIn K cd0 "NoKinds.__init__" = true) (k0 : PySem.W.keepIn K (.ref f0) = true)
    (a1 : PySem.W.findIn K (.ref C27) "__init__" = some (some (.ref f1))) (i1 : PySem.W.isFn K (.ref f1) = true)
    (etI27 : PySem.W.typeIn K (.ref f1) = some (.type "function"))
    (l1 : K.lookup f1 = some ⟨oc1, od1, .func (PySem.W.fnOf "__init__" "NoSign.__init__" (defArgs s_NoSign_init) (defBody s_NoSign_init) (defScope s_NoSign_init) .none kV1 dc1 pm1 an1 cd1 ct1), sl1⟩)
    (c1 : PySem.W.codeIn K cd1 "NoSign.__init__" = true) (k1 : PySem.W.keepIn K (.ref f1) = true)
    (a2 : PySem.W.findIn K (.ref C28) "__init__" = some (some (.ref f2))) (i2 : PySem.W.isFn K (.ref f2) = true)
    (etI28 : PySem.W.typeIn K (.ref f2) = some (.type "function"))
    (l2 : K.lookup f2 = some ⟨oc2, od2, .func (PySem.W.fnOf "__init__" "NoKey.__init__" (defArgs s_NoKey_init) (defBody s_NoKey_init) (defScope s_NoKey_init) .none kV2 dc2 pm2 an2 cd2 ct2), sl2⟩)
    (c2 : PySem.W.codeIn K cd2 "NoKey.__init__" = true) (k2 : PySem.W.keepIn K (.ref f2) = true)
    (a3 : PySem.W.findIn K (.ref C29) "__init__" = some (some (.ref f3))) (i3 : PySem.W.isFn K (.ref f3) = true)
    (etI29 : PySem.W.typeIn K (.ref f3) = some (.type "function"))
    (l3 : K.lookup f3 = some ⟨oc3, od3, .func (PySem.W.fnOf "__init__" "NoWorth.__init__" (defArgs s_NoWorth_init) (defBody s_NoWorth_init) (defScope s_NoWorth_init) .none kV3 dc3 pm3 an3 cd3 ct3), sl3⟩)
    (c3 : PySem.W.codeIn K cd3 "NoWorth.__init__" = true) (k3 : PySem.W.keepIn K (.ref f3) = true)
    (a4 : PySem.W.findIn K (.ref C30) "__init__" = some (some (.ref f4))) (i4 : PySem.W.isFn K (.ref f4) = true)
    (etI30 : PySem.W.typeIn K (.ref f4) = some (.type "function"))
    (l4 : K.lookup f4 = some ⟨oc4, od4, .func (PySem.W.fnOf "__init__" "NoText.__init__" (defArgs s_NoText_init) (defBody s_NoText_init) (defScope s_NoText_init) .none kV4 dc4 pm4 an4 cd4 ct4), sl4⟩)
    (c4 : PySem.W.codeIn K cd4 "NoText.__init__" = true) (k4 : PySem.W.keepIn K (.ref f4) = true)
    (a5 : PySem.W.findIn K (.ref C31) "__init__" = some (some (.ref f5))) (i5 : PySem.W.isFn K (.ref f5) = true)
    (etI31 : PySem.W.typeIn K (.ref f5) = some (.type "function"))
    (l5 : K.lookup f5 = some ⟨oc5, od5, .func (PySem.W.fnOf "__init__" "NoTexts.__init__" (defArgs s_NoTexts_init) (defBody s_NoTexts_init) (defScope s_NoTexts_init) .none kV5 dc5 pm5 an5 cd5 ct5), sl5⟩)
    (c5 : PySem.W.codeIn K cd5 "NoTexts.__init__" = true) (k5 : PySem.W.keepIn K (.ref f5) = true)
    (a6 : PySem.W.findIn K (.ref C32) "__init__" = some (some (.ref f6))) (i6 : PySem.W.isFn K (.ref f6) = true)
    (etI32 : PySem.W.typeIn K (.ref f6) = some (.type "function"))
    (l6 : K.lookup f6 = some ⟨oc6, od6, .func (PySem.W.fnOf "__init__" "NoMost.__init__" (defArgs s_NoMost_init) (defBody s_NoMost_init) (defScope s_NoMost_init) .none kV6 dc6 pm6 an6 cd6 ct6), sl6⟩)
    (c6 : PySem.W.codeIn K cd6 "NoMost.__init__" = true) (k6 : PySem.W.keepIn K (.ref f6) = true)
    (a7 : PySem.W.findIn K (.ref C33) "__init__" = some (some (.ref f7))) (i7 : PySem.W.isFn K (.ref f7) = true)
    (etI33 : PySem.W.typeIn K (.ref f7) = some (.type "function"))
    (l7 : K.lookup f7 = some ⟨oc7, od7, .func (PySem.W.fnOf "__init__" "NoWriting.__init__" (defArgs s_NoWriting_init) (defBody s_NoWriting_init) (defScope s_NoWriting_init) .none kV7 dc7 pm7 an7 cd7 ct7), sl7⟩)
    (c7 : PySem.W.codeIn K cd7 "NoWriting.__init__" = true) (k7 : PySem.W.keepIn K (.ref f7) = true)
    (a8 : PySem.W.findIn K (.ref C34) "__init__" = some (some (.ref f8))) (i8 : PySem.W.isFn K (.ref f8) = true)
    (etI34 : PySem.W.typeIn K (.ref f8) = some (.type "function"))
    (l8 : K.lookup f8 = some ⟨oc8, od8, .func (PySem.W.fnOf "__init__" "Fault.__init__" (defArgs s_Fault_init) (defBody s_Fault_init) (defScope s_Fault_init) .none kV8 dc8 pm8 an8 cd8 ct8), sl8⟩)
    (c8 : PySem.W.codeIn K cd8 "Fault.__init__" = true) (k8 : PySem.W.keepIn K (.ref f8) = true)
    (a9 : PySem.W.findIn K (.ref C35) "__init__" = some (some (.ref f9))) (i9 : PySem.W.isFn K (.ref f9) = true)
    (etI35 : PySem.W.typeIn K (.ref f9) = some (.type "function"))
    (l9 : K.lookup f9 = some ⟨oc9, od9, .func (PySem.W.fnOf "__init__" "NoName.__init__" (defArgs s_NoName_init) (defBody s_NoName_init) (defScope s_NoName_init) .none kV9 dc9 pm9 an9 cd9 ct9), sl9⟩)
    (c9 : PySem.W.codeIn K cd9 "NoName.__init__" = true) (k9 : PySem.W.keepIn K (.ref f9) = true)
    (a10 : PySem.W.findIn K (.ref C36) "__init__" = some (some (.ref f10))) (i10 : PySem.W.isFn K (.ref f10) = true)
    (etI36 : PySem.W.typeIn K (.ref f10) = some (.type "function"))
    (l10 : K.lookup f10 = some ⟨oc10, od10, .func (PySem.W.fnOf "__init__" "TooMany.__init__" (defArgs s_TooMany_init) (defBody s_TooMany_init) (defScope s_TooMany_init) .none kV10 dc10 pm10 an10 cd10 ct10), sl10⟩)
    (c10 : PySem.W.codeIn K cd10 "TooMany.__init__" = true) (k10 : PySem.W.keepIn K (.ref f10) = true)
    (a11 : PySem.W.nsIn K mainGlobals "_law_pool" = some (some (.ref f11)))
    (l11 : K.lookup f11 = some ⟨oc11, od11, .func (PySem.W.fnOf "_law_pool" "_law_pool" (defArgs s_l_pool) (defBody s_l_pool) (defScope s_l_pool) .none kV11 dc11 pm11 an11 cd11 ct11), sl11⟩)
    (c11 : PySem.W.codeIn K cd11 "_law_pool" = true) (k11 : PySem.W.keepIn K (.ref f11) = true)
    (a12 : PySem.W.nsIn K mainGlobals "_law_take" = some (some (.ref f12)))
    (l12 : K.lookup f12 = some ⟨oc12, od12, .func (PySem.W.fnOf "_law_take" "_law_take" (defArgs s_l_take) (defBody s_l_take) (defScope s_l_take) .none kV12 dc12 pm12 an12 cd12 ct12), sl12⟩)
    (c12 : PySem.W.codeIn K cd12 "_law_take" = true) (k12 : PySem.W.keepIn K (.ref f12) = true)
    (a13 : PySem.W.nsIn K mainGlobals "_law_raised" = some (some (.ref f13)))
    (l13 : K.lookup f13 = some ⟨oc13, od13, .func (PySem.W.fnOf "_law_raised" "_law_raised" (defArgs s_l_raised) (defBody s_l_raised) (defScope s_l_raised) .none kV13 dc13 pm13 an13 cd13 ct13), sl13⟩)
    (c13 : PySem.W.codeIn K cd13 "_law_raised" = true) (k13 : PySem.W.keepIn K (.ref f13) = true)
    (a14 : PySem.W.nsIn K mainGlobals "_law_raised_beside" = some (some (.ref f14)))
    (l14 : K.lookup f14 = some ⟨oc14, od14, .func (PySem.W.fnOf "_law_raised_beside" "_law_raised_beside" (defArgs s_l_raised_beside) (defBody s_l_raised_beside) (defScope s_l_raised_beside) .none kV14 dc14 pm14 an14 cd14 ct14), sl14⟩)
    (c14 : PySem.W.codeIn K cd14 "_law_raised_beside" = true) (k14 : PySem.W.keepIn K (.ref f14) = true)
    (a15 : PySem.W.nsIn K mainGlobals "_law_is" = some (some (.ref f15)))
    (l15 : K.lookup f15 = some ⟨oc15, od15, .func (PySem.W.fnOf "_law_is" "_law_is" (defArgs s_l_is) (defBody s_l_is) (defScope s_l_is) .none kV15 dc15 pm15 an15 cd15 ct15), sl15⟩)
    (c15 : PySem.W.codeIn K cd15 "_law_is" = true) (k15 : PySem.W.keepIn K (.ref f15) = true)
    (a16 : PySem.W.nsIn K mainGlobals "_law_above" = some (some (.ref f16)))
    (l16 : K.lookup f16 = some ⟨oc16, od16, .func (PySem.W.fnOf "_law_above" "_law_above" (defArgs s_l_above) (defBody s_l_above) (defScope s_l_above) .none kV16 dc16 pm16 an16 cd16 ct16), sl16⟩)
    (c16 : PySem.W.codeIn K cd16 "_law_above" = true) (k16 : PySem.W.keepIn K (.ref f16) = true)
    (a17 : PySem.W.nsIn K mainGlobals "_law_due" = some (some (.ref f17)))
    (l17 : K.lookup f17 = some ⟨oc17, od17, .func (PySem.W.fnOf "_law_due" "_law_due" (defArgs s_l_due) (defBody s_l_due) (defScope s_l_due) .none kV17 dc17 pm17 an17 cd17 ct17), sl17⟩)
    (c17 : PySem.W.codeIn K cd17 "_law_due" = true) (k17 : PySem.W.keepIn K (.ref f17) = true)
    (a18 : PySem.W.nsIn K mainGlobals "_law_field" = some (some (.ref f18)))
    (l18 : K.lookup f18 = some ⟨oc18, od18, .func (PySem.W.fnOf "_law_field" "_law_field" (defArgs s_l_field) (defBody s_l_field) (defScope s_l_field) .none kV18 dc18 pm18 an18 cd18 ct18), sl18⟩)
    (c18 : PySem.W.codeIn K cd18 "_law_field" = true) (k18 : PySem.W.keepIn K (.ref f18) = true)
    (a19 : PySem.W.nsIn K mainGlobals "_law_taken" = some (some (.ref f19)))
    (l19 : K.lookup f19 = some ⟨oc19, od19, .func (PySem.W.fnOf "_law_taken" "_law_taken" (defArgs s_l_taken) (defBody s_l_taken) (defScope s_l_taken) .none kV19 dc19 pm19 an19 cd19 ct19), sl19⟩)
    (c19 : PySem.W.codeIn K cd19 "_law_taken" = true) (k19 : PySem.W.keepIn K (.ref f19) = true)
    (a20 : PySem.W.nsIn K mainGlobals "law" = some (some (.ref f20)))
    (l20 : K.lookup f20 = some ⟨oc20, od20, .func (PySem.W.fnOf "law" "law" (defArgs s_law) (defBody s_law) (defScope s_law) .none kV20 dc20 pm20 an20 cd20 ct20), sl20⟩)
    (c20 : PySem.W.codeIn K cd20 "law" = true) (k20 : PySem.W.keepIn K (.ref f20) = true)
    (zRuntimeError : PySem.W.nsIn K mainGlobals "RuntimeError" = some none)
    (zKeyError : PySem.W.nsIn K mainGlobals "KeyError" = some none)
    (zOverflowError : PySem.W.nsIn K mainGlobals "OverflowError" = some none)
    (zmax : PySem.W.nsIn K mainGlobals "max" = some none)
    (zlen : PySem.W.nsIn K mainGlobals "len" = some none)
    (zisinstance : PySem.W.nsIn K mainGlobals "isinstance" = some none)
    (zValueError : PySem.W.nsIn K mainGlobals "ValueError" = some none)
    (zLookupError : PySem.W.nsIn K mainGlobals "LookupError" = some none)
    (zrepr : PySem.W.nsIn K mainGlobals "repr" = some none)
    (zrange : PySem.W.nsIn K mainGlobals "range" = some none)
    : ∃ fd : FuncData, (∀ (s : Shared) (v : Value), BindsTo s fd ⟨[v], []⟩ [("_law_script", v)]) ∧ ∀ base : Heap, K.In base → base.Ns mainGlobals mg → Live base → FnG l.prog w K mg base CX0 15 fa fd ["_law_script"] (sp_law K) := by
  have e := hfa.symm.trans (PySem.W.mg_of X G a20)
  cases e
  have T : Top K mg (fun i => [f0, f1, f2, f3, f4, f5, f6, f7, f8, f9, f10, f11, f12, f13, f14, f15, f16, f17, f18, f19, fa, C21, C22, C23, C24, C25, C26, C27, C28, C29, C30, C31, C32, C33, C34, C35, C36, C37].getD i 0) (fun i => [PySem.W.fnOf "__init__" "NoKinds.__init__" (defArgs s_NoKinds_init) (defBody s_NoKinds_init) (defScope s_NoKinds_init) .none kV0 dc0 pm0 an0 cd0 ct0,
      PySem.W.fnOf "__init__" "NoSign.__init__" (defArgs s_NoSign_init) (defBody s_NoSign_init) (defScope s_NoSign_init) .none kV1 dc1 pm1 an1 cd1 ct1,
      PySem.W.fnOf "__init__" "NoKey.__init__" (defArgs s_NoKey_init) (defBody s_NoKey_init) (defScope s_NoKey_init) .none kV2 dc2 pm2 an2 cd2 ct2,
      PySem.W.fnOf "__init__" "NoWorth.__init__" (defArgs s_NoWorth_init) (defBody s_NoWorth_init) (defScope s_NoWorth_init) .none kV3 dc3 pm3 an3 cd3 ct3,
      PySem.W.fnOf "__init__" "NoText.__init__" (defArgs s_NoText_init) (defBody s_NoText_init) (defScope s_NoText_init) .none kV4 dc4 pm4 an4 cd4 ct4,
      PySem.W.fnOf "__init__" "NoTexts.__init__" (defArgs s_NoTexts_init) (defBody s_NoTexts_init) (defScope s_NoTexts_init) .none kV5 dc5 pm5 an5 cd5 ct5,
      PySem.W.fnOf "__init__" "NoMost.__init__" (defArgs s_NoMost_init) (defBody s_NoMost_init) (defScope s_NoMost_init) .none kV6 dc6 pm6 an6 cd6 ct6,
      PySem.W.fnOf "__init__" "NoWriting.__init__" (defArgs s_NoWriting_init) (defBody s_NoWriting_init) (defScope s_NoWriting_init) .none kV7 dc7 pm7 an7 cd7 ct7,
      PySem.W.fnOf "__init__" "Fault.__init__" (defArgs s_Fault_init) (defBody s_Fault_init) (defScope s_Fault_init) .none kV8 dc8 pm8 an8 cd8 ct8,
      PySem.W.fnOf "__init__" "NoName.__init__" (defArgs s_NoName_init) (defBody s_NoName_init) (defScope s_NoName_init) .none kV9 dc9 pm9 an9 cd9 ct9,
      PySem.W.fnOf "__init__" "TooMany.__init__" (defArgs s_TooMany_init) (defBody s_TooMany_init) (defScope s_TooMany_init) .none kV10 dc10 pm10 an10 cd10 ct10,
      PySem.W.fnOf "_law_pool" "_law_pool" (defArgs s_l_pool) (defBody s_l_pool) (defScope s_l_pool) .none kV11 dc11 pm11 an11 cd11 ct11,
      PySem.W.fnOf "_law_take" "_law_take" (defArgs s_l_take) (defBody s_l_take) (defScope s_l_take) .none kV12 dc12 pm12 an12 cd12 ct12,
      PySem.W.fnOf "_law_raised" "_law_raised" (defArgs s_l_raised) (defBody s_l_raised) (defScope s_l_raised) .none kV13 dc13 pm13 an13 cd13 ct13,
      PySem.W.fnOf "_law_raised_beside" "_law_raised_beside" (defArgs s_l_raised_beside) (defBody s_l_raised_beside) (defScope s_l_raised_beside) .none kV14 dc14 pm14 an14 cd14 ct14,
      PySem.W.fnOf "_law_is" "_law_is" (defArgs s_l_is) (defBody s_l_is) (defScope s_l_is) .none kV15 dc15 pm15 an15 cd15 ct15,
      PySem.W.fnOf "_law_above" "_law_above" (defArgs s_l_above) (defBody s_l_above) (defScope s_l_above) .none kV16 dc16 pm16 an16 cd16 ct16,
      PySem.W.fnOf "_law_due" "_law_due" (defArgs s_l_due) (defBody s_l_due) (defScope s_l_due) .none kV17 dc17 pm17 an17 cd17 ct17,
      PySem.W.fnOf "_law_field" "_law_field" (defArgs s_l_field) (defBody s_l_field) (defScope s_l_field) .none kV18 dc18 pm18 an18 cd18 ct18,
      PySem.W.fnOf "_law_taken" "_law_taken" (defArgs s_l_taken) (defBody s_l_taken) (defScope s_l_taken) .none kV19 dc19 pm19 an19 cd19 ct19,
      PySem.W.fnOf "law" "law" (defArgs s_law) (defBody s_law) (defScope s_law) .none kV20 dc20 pm20 an20 cd20 ct20].getD i (PySem.W.fnOf "__init__" "NoKinds.__init__" (defArgs s_NoKinds_init) (defBody s_NoKinds_init) (defScope s_NoKinds_init) .none kV0 dc0 pm0 an0 cd0 ct0)) := {
    F_NoKinds_init := fun_mk (st := s_NoKinds_init) l0 c0 k0
    F_NoSign_init := fun_mk (st := s_NoSign_init) l1 c1 k1
    F_NoKey_init := fun_mk (st := s_NoKey_init) l2 c2 k2
    F_NoWorth_init := fun_mk (st := s_NoWorth_init) l3 c3 k3
    F_NoText_init := fun_mk (st := s_NoText_init) l4 c4 k4
    F_NoTexts_init := fun_mk (st := s_NoTexts_init) l5 c5 k5
    F_NoMost_init := fun_mk (st := s_NoMost_init) l6 c6 k6
    F_NoWriting_init := fun_mk (st := s_NoWriting_init) l7 c7 k7
    F_Fault_init := fun_mk (st := s_Fault_init) l8 c8 k8
    F_NoName_init := fun_mk (st := s_NoName_init) l9 c9 k9
    F_TooMany_init := fun_mk (st := s_TooMany_init) l10 c10 k10
    F_l_pool := fun_mk (st := s_l_pool) l11 c11 k11
    g_l_pool := PySem.W.mg_of X G a11
    F_l_take := fun_mk (st := s_l_take) l12 c12 k12
    g_l_take := PySem.W.mg_of X G a12
    F_l_raised := fun_mk (st := s_l_raised) l13 c13 k13
    g_l_raised := PySem.W.mg_of X G a13
    F_l_raised_beside := fun_mk (st := s_l_raised_beside) l14 c14 k14
    g_l_raised_beside := PySem.W.mg_of X G a14
    F_l_is := fun_mk (st := s_l_is) l15 c15 k15
    g_l_is := PySem.W.mg_of X G a15
    F_l_above := fun_mk (st := s_l_above) l16 c16 k16
    g_l_above := PySem.W.mg_of X G a16
    F_l_due := fun_mk (st := s_l_due) l17 c17 k17
    g_l_due := PySem.W.mg_of X G a17
    F_l_field := fun_mk (st := s_l_field) l18 c18 k18
    g_l_field := PySem.W.mg_of X G a18
    F_l_taken := fun_mk (st := s_l_taken) l19 c19 k19
    g_l_taken := PySem.W.mg_of X G a19
    F_law := fun_mk (st := s_law) l20 c20 k20
    g_law := PySem.W.mg_of X G a20
    z_RuntimeError := PySem.W.mg_none_of X G zRuntimeError
    z_KeyError := PySem.W.mg_none_of X G zKeyError
    z_OverflowError := PySem.W.mg_none_of X G zOverflowError
    z_max := PySem.W.mg_none_of X G zmax
    z_len := PySem.W.mg_none_of X G zlen
    z_isinstance := PySem.W.mg_none_of X G zisinstance
    z_ValueError := PySem.W.mg_none_of X G zValueError
    z_LookupError := PySem.W.mg_none_of X G zLookupError
    z_repr := PySem.W.mg_none_of X G zrepr
    z_range := PySem.W.mg_none_of X G zrange
    g_MouthError := PySem.W.mg_of X G aC37
    g_NoRow := PySem.W.mg_of X G aC21
    x_NoRow := xx21
    k_NoRow := xk21
    b_NoRow := xb21
    t_NoRow := xt21
    i_NoRow := xr21
    c_NoRow := ⟨xg21, xh21, xb21, xd21, xa21, xn21, xu21, xm21⟩
    e_NoRow := exm_one xb21 xi21 xt21 xs21
    g_Ends := PySem.W.mg_of X G aC22
    x_Ends := xx22
    k_Ends := xk22
    b_Ends := xb22
    t_Ends := xt22
    i_Ends := xr22
    c_Ends := ⟨xg22, xh22, xb22, xd22, xa22, xn22, xu22, xm22⟩
    e_Ends := exm_one xb22 xi22 xt22 xs22
    g_Shut := PySem.W.mg_of X G aC23
    x_Shut := xx23
    k_Shut := xk23
    b_Shut := xb23
    t_Shut := xt23
    i_Shut := xr23
    c_Shut := ⟨xg23, xh23, xb23, xd23, xa23, xn23, xu23, xm23⟩
    e_Shut := exm_one xb23 xi23 xt23 xs23
    g_Busy := PySem.W.mg_of X G aC24
    x_Busy := xx24
    k_Busy := xk24
    b_Busy := xb24
    t_Busy := xt24
    i_Busy := xr24
    c_Busy := ⟨xg24, xh24, xb24, xd24, xa24, xn24, xu24, xm24⟩
    e_Busy := exm_one xb24 xi24 xt24 xs24
    g_Bare := PySem.W.mg_of X G aC25
    x_Bare := xx25
    k_Bare := xk25
    b_Bare := xb25
    t_Bare := xt25
    i_Bare := xr25
    c_Bare := ⟨xg25, xh25, xb25, xd25, xa25, xn25, xu25, xm25⟩
    e_Bare := exm_one xb25 xi25 xt25 xs25
    g_NoKinds := PySem.W.mg_of X G aC26
    w_NoKinds := ⟨LowF.of PySem.F.excBase_ValueError, ⟨_, _, _, _, _, _, _, _, _, _, _, _, _, _, _, lk26, fun _ => rfl, fun _ => by kernel_rfl⟩, by decide +kernel, esa26, eex26, ety26, ekc26⟩
    iC_NoKinds := a0
    tI_NoKinds := etI26
    no_NoKinds := eno26
    e_NoKinds := exm_one eex26 xi26 ety26 xs26
    xf_NoKinds := ⟨exg26, exh26, eex26, exd26⟩
    i_NoKinds := xr26
    g_NoSign := PySem.W.mg_of X G aC27
    w_NoSign := ⟨LowF.of PySem.F.excBase_ValueError, ⟨_, _, _, _, _, _, _, _, _, _, _, _, _, _, _, lk27, fun _ => rfl, fun _ => by kernel_rfl⟩, by decide +kernel, esa27, eex27, ety27, ekc27⟩
    iC_NoSign := a1
    tI_NoSign := etI27
    no_NoSign := eno27
    e_NoSign := exm_one eex27 xi27 ety27 xs27
    xf_NoSign := ⟨exg27, exh27, eex27, exd27⟩
    i_NoSign := xr27
    g_NoKey := PySem.W.mg_of X G aC28
    w_NoKey := ⟨LowF.of PySem.F.excBase_ValueError, ⟨_, _, _, _, _, _, _, _, _, _, _, _, _, _, _, lk28, fun _ => rfl, fun _ => by kernel_rfl⟩, by decide +kernel, esa28, eex28, ety28, ekc28⟩
    iC_NoKey := a2
    tI_NoKey := etI28
    no_NoKey := eno28
    e_NoKey := exm_one eex28 xi28 ety28 xs28
    xf_NoKey := ⟨exg28, exh28, eex28, exd28⟩
    i_NoKey := xr28
    g_NoWorth := PySem.W.mg_of X G aC29
    w_NoWorth := ⟨LowF.of PySem.F.excBase_ValueError, ⟨_, _, _, _, _, _, _, _, _, _, _, _, _, _, _, lk29, fun _ => rfl, fun _ => by kernel_rfl⟩, by decide +kernel, esa29, eex29, ety29, ekc29⟩
    iC_NoWorth := a3
    tI_NoWorth := etI29
    no_NoWorth := eno29
    e_NoWorth := exm_one eex29 xi29 ety29 xs29
    xf_NoWorth := ⟨exg29, exh29, eex29, exd29⟩
    i_NoWorth := xr29
    g_NoText := PySem.W.mg_of X G aC30
    w_NoText := ⟨LowF.of PySem.F.excBase_ValueError, ⟨_, _, _, _, _, _, _, _, _, _, _, _, _, _, _, lk30, fun _ => rfl, fun _ => by kernel_rfl⟩, by decide +kernel, esa30, eex30, ety30, ekc30⟩
    iC_NoText := a4
    tI_NoText := etI30
    no_NoText := eno30
    e_NoText := exm_one eex30 xi30 ety30 xs30
    xf_NoText := ⟨exg30, exh30, eex30, exd30⟩
    i_NoText := xr30
    g_NoTexts := PySem.W.mg_of X G aC31
    w_NoTexts := ⟨LowF.of PySem.F.excBase_ValueError, ⟨_, _, _, _, _, _, _, _, _, _, _, _, _, _, _, lk31, fun _ => rfl, fun _ => by kernel_rfl⟩, by decide +kernel, esa31, eex31, ety31, ekc31⟩
    iC_NoTexts := a5
    tI_NoTexts := etI31
    no_NoTexts := eno31
    e_NoTexts := exm_one eex31 xi31 ety31 xs31
    xf_NoTexts := ⟨exg31, exh31, eex31, exd31⟩
    i_NoTexts := xr31
    g_NoMost := PySem.W.mg_of X G aC32
    w_NoMost := ⟨LowF.of PySem.F.excBase_ValueError, ⟨_, _, _, _, _, _, _, _, _, _, _, _, _, _, _, lk32, fun _ => rfl, fun _ => by kernel_rfl⟩, by decide +kernel, esa32, eex32, ety32, ekc32⟩
    iC_NoMost := a6
    tI_NoMost := etI32
    no_NoMost := eno32
    e_NoMost := exm_one eex32 xi32 ety32 xs32
    xf_NoMost := ⟨exg32, exh32, eex32, exd32⟩
    i_NoMost := xr32
    g_NoWriting := PySem.W.mg_of X G aC33
    w_NoWriting := ⟨LowF.of PySem.F.excBase_ValueError, ⟨_, _, _, _, _, _, _, _, _, _, _, _, _, _, _, lk33, fun _ => rfl, fun _ => by kernel_rfl⟩, by decide +kernel, esa33, eex33, ety33, ekc33⟩
    iC_NoWriting := a7
    tI_NoWriting := etI33
    no_NoWriting := eno33
    e_NoWriting := exm_one eex33 xi33 ety33 xs33
    xf_NoWriting := ⟨exg33, exh33, eex33, exd33⟩
    i_NoWriting := xr33
    g_Fault := PySem.W.mg_of X G aC34
    w_Fault := ⟨LowF.of PySem.F.excBase_RuntimeError, ⟨_, _, _, _, _, _, _, _, _, _, _, _, _, _, _, lk34, fun _ => rfl, fun _ => by kernel_rfl⟩, by decide +kernel, esa34, eex34, ety34, ekc34⟩
    iC_Fault := a8
    tI_Fault := etI34
    no_Fault := eno34
    e_Fault := exm_one eex34 xi34 ety34 xs34
    xf_Fault := ⟨exg34, exh34, eex34, exd34⟩
    i_Fault := xr34
    g_NoName := PySem.W.mg_of X G aC35
    w_NoName := ⟨V2.lowKeyError, ⟨_, _, _, _, _, _, _, _, _, _, _, _, _, _, _, lk35, fun _ => rfl, fun _ => by kernel_rfl⟩, by decide +kernel, esa35, eex35, ety35, ekc35⟩
    iC_NoName := a9
    tI_NoName := etI35
    no_NoName := eno35
    e_NoName := exm_one eex35 xi35 ety35 xs35
    xf_NoName := ⟨exg35, exh35, eex35, exd35⟩
    i_NoName := xr35
    g_TooMany := PySem.W.mg_of X G aC36
    w_TooMany := ⟨LowF.of PySem.F.excBase_OverflowError, ⟨_, _, _, _, _, _, _, _, _, _, _, _, _, _, _, lk36, fun _ => rfl, fun _ => by kernel_rfl⟩, by decide +kernel, esa36, eex36, ety36, ekc36⟩
    iC_TooMany := a10
    tI_TooMany := etI36
    no_TooMany := eno36
    e_TooMany := exm_one eex36 xi36 ety36 xs36
    xf_TooMany := ⟨exg36, exh36, eex36, exd36⟩
    i_TooMany := xr36
    me_ga := xs_me_ga
    me_rd := xs_me_rd
    me_in := xs_me_in
    k16 := xs_k16
    u16 := xs_u16
    c16 := xs_c16
    x16 := xs_x16 }
  exact ⟨PySem.W.fnOf "law" "law" (defArgs s_law) (defBody s_law) (defScope s_law) .none kV20 dc20 pm20 an20 cd20 ct20, fun s v => .of_eq rfl, fun base _ _ lv => ok_law T lv⟩
end V2
open PySem PySem.W PyProof.Rows
set_option maxHeartbeats 0 in
theorem PySem.Challenge.cw_mouthrules_k03_refusals_apart_holds : PySem.Challenge.rw_mouthrules_k03_refusals_apart.Holds := by
  w_on; o_law; k_head; (case hw => w_witness2)
  k_fill
  refine V2.walkL (l := PySem.Challenge.rw_mouthrules_k03_refusals_apart) (n := 63) (k := 15) (x := "_law_script") (CX := fun _ => L2.CX0) (sp := fun w => V2.sp_law _) rfl (by decide) rfl ⟨rfl, by decide, by decide⟩ (by decide +kernel) (fun w h Y => PySem.W.kIn_of Y) ?F (fun _ _ a ns hl _ hS => ⟨a, ns, rfl, hS, hl, fun _ => rfl⟩) (fun _ _ _ _ _ h => h)
  case F =>
    intro w mg fa h KX G hmg
    refine' V2.all_mk KX G hmg ?aC37 ?aC21 ?xx21 ?xk21 ?xb21 ?xt21 ?xi21 ?xs21 ?xg21 ?xh21 ?xd21 ?xa21 ?xn21 ?xu21 ?xm21 ?xr21 ?aC22 ?xx22 ?xk22 ?xb22 ?xt22 ?xi22 ?xs22 ?xg22 ?xh22 ?xd22 ?xa22 ?xn22 ?xu22 ?xm22 ?xr22 ?aC23 ?xx23 ?xk23 ?xb23 ?xt23 ?xi23 ?xs23 ?xg23 ?xh23 ?xd23 ?xa23 ?xn23 ?xu23 ?xm23 ?xr23 ?aC24 ?xx24 ?xk24 ?xb24 ?xt24 ?xi24 ?xs24 ?xg24 ?xh24 ?xd24 ?xa24 ?xn24 ?xu24 ?xm24 ?xr24 ?aC25 ?xx25 ?xk25 ?xb25 ?xt25 ?xi25 ?xs25 ?xg25 ?xh25 ?xd25 ?xa25 ?xn25 ?xu25 ?xm25 ?xr25 ?aC26 ?lk26 ?esa26 ?eex26 ?ety26 ?ekc26 ?eno26 ?xi26 ?xs26 ?exg26 ?exh26 ?exd26 ?xr26 ?aC27 ?lk27 ?esa27 ?eex27 ?ety27 ?ekc27 ?eno27 ?xi27 ?xs27 ?exg27 ?exh27 ?exd27 ?xr27 ?aC28 ?lk28 ?esa28 ?eex28 ?ety28 ?ekc28 ?eno28 ?xi28 ?xs28 ?exg28 ?exh28 ?exd28 ?xr28 ?aC29 ?lk29 ?esa29 ?eex29 ?ety29 ?ekc29 ?eno29 ?xi29 ?xs29 ?exg29 ?exh29 ?exd29 ?xr29 ?aC30 ?lk30 ?esa30 ?eex30 ?ety30 ?ekc30 ?eno30 ?xi30 ?xs30 ?exg30 ?exh30 ?exd30 ?xr30 ?aC31 ?lk31 ?esa31 ?eex31 ?ety31 ?ekc31 ?eno31 ?xi31 ?xs31 ?exg31 ?exh31 ?exd31 ?xr31 ?aC32 ?lk32 ?esa32 ?eex32 ?ety32 ?ekc32 ?eno32 ?xi32 ?xs32 ?exg32 ?exh32 ?exd32 ?xr32 ?aC33 ?lk33 ?esa33 ?eex33 ?ety33 ?ekc33 ?eno33 ?xi33 ?xs33 ?exg33 ?exh33 ?exd33 ?xr33 ?aC34 ?lk34 ?esa34 ?eex34 ?ety34 ?ekc34 ?eno34 ?xi34 ?xs34 ?exg34 ?exh34 ?exd34 ?xr34 ?aC35 ?lk35 ?esa35 ?eex35 ?ety35 ?ekc35 ?eno35 ?xi35 ?xs35 ?exg35 ?exh35 ?exd35 ?xr35 ?aC36 ?lk36 ?esa36 ?eex36 ?ety36 ?ekc36 ?eno36 ?xi36 ?xs36 ?exg36 ?exh36 ?exd36 ?xr36 ?xs_me_ga ?xs_me_rd ?xs_me_in ?xs_k16 ?xs_u16 ?xs_c16 ?xs_x16 ?a0 ?i0 ?etI26 ?l0 ?c0 ?k0 ?a1 ?i1 ?etI27 ?l1 ?c1 ?k1 ?a2 ?i2 ?etI28 ?l2 ?c2 ?k2 ?a3 ?i3 ?etI29 ?l3 ?c3 ?k3 ?a4 ?i4 ?etI30 ?l4 ?c4 ?k4 ?a5 ?i5 ?etI31 ?l5 ?c5 ?k5 ?a6 ?i6 ?etI32 ?l6 ?c6 ?k6 ?a7 ?i7 ?etI33 ?l7 ?c7 ?k7 ?a8 ?i8 ?etI34 ?l8 ?c8 ?k8 ?a9 ?i9 ?etI35 ?l9 ?c9 ?k9 ?a10 ?i10 ?etI36 ?l10 ?c10 ?k10 ?a11 ?l11 ?c11 ?k11 ?a12 ?l12 ?c12 ?k12 ?a13 ?l13 ?c13 ?k13 ?a14 ?l14 ?c14 ?k14 ?a15 ?l15 ?c15 ?k15 ?a16 ?l16 ?c16 ?k16 ?a17 ?l17 ?c17 ?k17 ?a18 ?l18 ?c18 ?k18 ?a19 ?l19 ?c19 ?k19 ?a20 ?l20 ?c20 ?k20 ?zRuntimeError ?zKeyError ?zOverflowError ?zmax ?zlen ?zisinstance ?zValueError ?zLookupError ?zrepr ?zrange
    (case aC37 => k_is)
    (case aC21 => k_is)
    (case xx21 => k_exc)
    (case xk21 => k_is)
    (case xb21 => k_is)
    (case xt21 => k_is)
    (case xi21 => k_is)
    (case xs21 => first | rfl | k_is)
    (case xg21 => k_is)
    (case xh21 => k_is)
    (case xd21 => k_is)
    (case xa21 => k_is)
    (case xn21 => first | rfl | k_is)
    (case xu21 => first | rfl | k_is)
    (case xm21 => k_is)
    (case xr21 => first | rfl | k_is)
    (case aC22 => k_is)
    (case xx22 => k_exc)
    (case xk22 => k_is)
    (case xb22 => k_is)
    (case xt22 => k_is)
    (case xi22 => k_is)
    (case xs22 => first | rfl | k_is)
    (case xg22 => k_is)
    (case xh22 => k_is)
    (case xd22 => k_is)
    (case xa22 => k_is)
    (case xn22 => first | rfl | k_is)
    (case xu22 => first | rfl | k_is)
    (case xm22 => k_is)
    (case xr22 => first | rfl | k_is)
    (case aC23 => k_is)
    (case xx23 => k_exc)
    (case xk23 => k_is)
    (case xb23 => k_is)
    (case xt23 => k_is)
    (case xi23 => k_is)
    (case xs23 => first | rfl | k_is)
    (case xg23 => k_is)
    (case xh23 => k_is)
    (case xd23 => k_is)
    (case xa23 => k_is)
    (case xn23 => first | rfl | k_is)
    (case xu23 => first | rfl | k_is)
    (case xm23 => k_is)
    (case xr23 => first | rfl | k_is)
    (case aC24 => k_is)
    (case xx24 => k_exc)
    (case xk24 => k_is)
    (case xb24 => k_is)
    (case xt24 => k_is)
    (case xi24 => k_is)
    (case xs24 => first | rfl | k_is)
    (case xg24 => k_is)
    (case xh24 => k_is)
    (case xd24 => k_is)
    (case xa24 => k_is)
    (case xn24 => first | rfl | k_is)
    (case xu24 => first | rfl | k_is)
    (case xm24 => k_is)
    (case xr24 => first | rfl | k_is)
    (case aC25 => k_is)
    (case xx25 => k_exc)
    (case xk25 => k_is)
    (case xb25 => k_is)
    (case xt25 => k_is)
    (case xi25 => k_is)
    (case xs25 => first | rfl | k_is)
    (case xg25 => k_is)
    (case xh25 => k_is)
    (case xd25 => k_is)
    (case xa25 => k_is)
    (case xn25 => first | rfl | k_is)
    (case xu25 => first | rfl | k_is)
    (case xm25 => k_is)
    (case xr25 => first | rfl | k_is)
    (case aC26 => k_is)
    (case lk26 => k_is)
    (case esa26 => k_is)
    (case eex26 => k_is)
    (case ety26 => k_is)
    (case ekc26 => k_is)
    (case eno26 => k_is)
    (case xi26 => k_is)
    (case xs26 => first | rfl | k_is)
    (case exg26 => k_is)
    (case exh26 => k_is)
    (case exd26 => k_is)
    (case xr26 => first | rfl | k_is)
    (case aC27 => k_is)
    (case lk27 => k_is)
    (case esa27 => k_is)
    (case eex27 => k_is)
    (case ety27 => k_is)
    (case ekc27 => k_is)
    (case eno27 => k_is)
    (case xi27 => k_is)
    (case xs27 => first | rfl | k_is)
    (case exg27 => k_is)
    (case exh27 => k_is)
    (case exd27 => k_is)
    (case xr27 => first | rfl | k_is)
    (case aC28 => k_is)
    (case lk28 => k_is)
    (case esa28 => k_is)
    (case eex28 => k_is)
    (case ety28 => k_is)
    (case ekc28 => k_is)
    (case eno28 => k_is)
    (case xi28 => k_is)
    (case xs28 => first | rfl | k_is)
    (case exg28 => k_is)
    (case exh28 => k_is)
    (case exd28 => k_is)
    (case xr28 => first | rfl | k_is)
    (case aC29 => k_is)
    (case lk29 => k_is)
    (case esa29 => k_is)
    (case eex29 => k_is)
    (case ety29 => k_is)
    (case ekc29 => k_is)
    (case eno29 => k_is)
    (case xi29 => k_is)
    (case xs29 => first | rfl | k_is)
    (case exg29 => k_is)
    (case exh29 => k_is)
    (case exd29 => k_is)
    (case xr29 => first | rfl | k_is)
    (case aC30 => k_is)
    (case lk30 => k_is)
    (case esa30 => k_is)
    (case eex30 => k_is)
    (case ety30 => k_is)
    (case ekc30 => k_is)
    (case eno30 => k_is)
    (case xi30 => k_is)
    (case xs30 => first | rfl | k_is)
    (case exg30 => k_is)
    (case exh30 => k_is)
    (case exd30 => k_is)
    (case xr30 => first | rfl | k_is)
    (case aC31 => k_is)
    (case lk31 => k_is)
    (case esa31 => k_is)
    (case eex31 => k_is)
    (case ety31 => k_is)
    (case ekc31 => k_is)
    (case eno31 => k_is)
    (case xi31 => k_is)
    (case xs31 => first | rfl | k_is)
    (case exg31 => k_is)
    (case exh31 => k_is)
    (case exd31 => k_is)
    (case xr31 => first | rfl | k_is)
    (case aC32 => k_is)
    (case lk32 => k_is)
    (case esa32 => k_is)
    (case eex32 => k_is)
    (case ety32 => k_is)
    (case ekc32 => k_is)
    (case eno32 => k_is)
    (case xi32 => k_is)
    (case xs32 => first | rfl | k_is)
    (case exg32 => k_is)
    (case exh32 => k_is)
    (case exd32 => k_is)
    (case xr32 => first | rfl | k_is)
    (case aC33 => k_is)
    (case lk33 => k_is)
    (case esa33 => k_is)
    (case eex33 => k_is)
    (case ety33 => k_is)
    (case ekc33 => k_is)
    (case eno33 => k_is)
    (case xi33 => k_is)
    (case xs33 => first | rfl | k_is)
    (case exg33 => k_is)
    (case exh33 => k_is)
    (case exd33 => k_is)
    (case xr33 => first | rfl | k_is)
    (case aC34 => k_is)
    (case lk34 => k_is)
    (case esa34 => k_is)
    (case eex34 => k_is)
    (case ety34 => k_is)
    (case ekc34 => k_is)
    (case eno34 => k_is)
    (case xi34 => k_is)
    (case xs34 => first | rfl | k_is)
    (case exg34 => k_is)
    (case exh34 => k_is)
    (case exd34 => k_is)
    (case xr34 => first | rfl | k_is)
    (case aC35 => k_is)
    (case lk35 => k_is)
    (case esa35 => k_is)
    (case eex35 => k_is)
    (case ety35 => k_is)
    (case ekc35 => k_is)
    (case eno35 => k_is)
    (case xi35 => k_is)
    (case xs35 => first | rfl | k_is)
    (case exg35 => k_is)
    (case exh35 => k_is)
    (case exd35 => k_is)
    (case xr35 => first | rfl | k_is)
    (case aC36 => k_is)
    (case lk36 => k_is)
    (case esa36 => k_is)
    (case eex36 => k_is)
    (case ety36 => k_is)
    (case ekc36 => k_is)
    (case eno36 => k_is)
    (case xi36 => k_is)
    (case xs36 => first | rfl | k_is)
    (case exg36 => k_is)
    (case exh36 => k_is)
    (case exd36 => k_is)
    (case xr36 => first | rfl | k_is)
    (case xs_me_ga => first | rfl | k_is)
    (case xs_me_rd => first | rfl | k_is)
    (case xs_me_in => first | rfl | k_is)
    (case xs_k16 => first | rfl | k_is)
    (case xs_u16 => first | rfl | k_is)
    (case xs_c16 => first | rfl | k_is)
    (case xs_x16 => first | rfl | k_is)
    (case a0 => k_is)
    (case i0 => k_is)
    (case etI26 => k_is)
    (case l0 => k_is)
    (case c0 => k_is)
    (case k0 => k_is)
    (case a1 => k_is)
    (case i1 => k_is)
    (case etI27 => k_is)
    (case l1 => k_is)
    (case c1 => k_is)
    (case k1 => k_is)
    (case a2 => k_is)
    (case i2 => k_is)
    (case etI28 => k_is)
    (case l2 => k_is)
    (case c2 => k_is)
    (case k2 => k_is)
    (case a3 => k_is)
    (case i3 => k_is)
    (case etI29 => k_is)
    (case l3 => k_is)
    (case c3 => k_is)
    (case k3 => k_is)
    (case a4 => k_is)
    (case i4 => k_is)
    (case etI30 => k_is)
    (case l4 => k_is)
    (case c4 => k_is)
    (case k4 => k_is)
    (case a5 => k_is)
    (case i5 => k_is)
    (case etI31 => k_is)
    (case l5 => k_is)
    (case c5 => k_is)
    (case k5 => k_is)
    (case a6 => k_is)
    (case i6 => k_is)
    (case etI32 => k_is)
    (case l6 => k_is)
    (case c6 => k_is)
    (case k6 => k_is)
    (case a7 => k_is)
    (case i7 => k_is)
    (case etI33 => k_is)
    (case l7 => k_is)
    (case c7 => k_is)
    (case k7 => k_is)
    (case a8 => k_is)
    (case i8 => k_is)
    (case etI34 => k_is)
    (case l8 => k_is)
    (case c8 => k_is)
    (case k8 => k_is)
    (case a9 => k_is)
    (case i9 => k_is)
    (case etI35 => k_is)
    (case l9 => k_is)
    (case c9 => k_is)
    (case k9 => k_is)
    (case a10 => k_is)
    (case i10 => k_is)
    (case etI36 => k_is)
    (case l10 => k_is)
    (case c10 => k_is)
    (case k10 => k_is)
    (case a11 => k_is)
    (case l11 => k_is)
    (case c11 => k_is)
    (case k11 => k_is)
    (case a12 => k_is)
    (case l12 => k_is)
    (case c12 => k_is)
    (case k12 => k_is)
    (case a13 => k_is)
    (case l13 => k_is)
    (case c13 => k_is)
    (case k13 => k_is)
    (case a14 => k_is)
    (case l14 => k_is)
    (case c14 => k_is)
    (case k14 => k_is)
    (case a15 => k_is)
    (case l15 => k_is)
    (case c15 => k_is)
    (case k15 => k_is)
    (case a16 => k_is)
    (case l16 => k_is)
    (case c16 => k_is)
    (case k16 => k_is)
    (case a17 => k_is)
    (case l17 => k_is)
    (case c17 => k_is)
    (case k17 => k_is)
    (case a18 => k_is)
    (case l18 => k_is)
    (case c18 => k_is)
    (case k18 => k_is)
    (case a19 => k_is)
    (case l19 => k_is)
    (case c19 => k_is)
    (case k19 => k_is)
    (case a20 => k_is)
    (case l20 => k_is)
    (case c20 => k_is)
    (case k20 => k_is)
    (case zRuntimeError => k_is)
    (case zKeyError => k_is)
    (case zOverflowError => k_is)
    (case zmax => k_is)
    (case zlen => k_is)
    (case zisinstance => k_is)
    (case zValueError => k_is)
    (case zLookupError => k_is)
    (case zrepr => k_is)
    (case zrange => k_is)
